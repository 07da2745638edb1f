import PyProof.Rows.All
import Wide.All
import OpenK.AllK
import Wide.FinOn
import HandS.ForMost
import HandS.Wide
import HandS.WideBits
import HandS.Gcd
import HandS.IsInst
import HandS.Property
import HandS.MakeKw
import HandS.FStr
import HandS.MakeKwOnly
import HandS.SetFor
import HandS.StrMore
import HandS.ClsMeth
import PyProof.EqKinds
import HandS.RaiseMore
import HandS.WordsExc
import HandS.ExcOwn
import HandS.ExcIs
import KE.KExcIs
import HandS.HotCalls
import HandS.Iter
import HandS.Deep
import HandS.Style
import KE.GoesMore
import HandS.Star
import KE.KMathGC
import KE.GoesZip
import HandS.TryOnly
import PySem.Challenge.RW_loopbounds_k46_rows_by_their_levels
set_option Elab.async false
set_option linter.all false
set_option maxRecDepth 100000
/-! A layer of data over the hand layer: values without heaps, and what a piece of the text does with them. -/
namespace DL
open PySem PySem.Spec PyProof.Rows L2

/-- data: what a value stands for; mut i: the i-th list that may change -/
inductive D where
  | non | bl (b : Bool) | int (i : Int) | str (x : Str) | ty (n : String) | cls (c : Str)
  | tup (ds : List D) | lst (ds : List D) | scr (ds : List D) | ins (c : Str) (fs : List (Str × D)) | mut (i : Nat) | obj (a : Addr) | dct (kvs : List (Key × D)) | exc (a : Addr) (d : Addr) (fs : List (Str × D))
/-- the written part, and what the module's names hold -/
structure MG where
  K : PySem.W.Frag
  f : Str → Option Value
abbrev _root_.L2.Cx.G (X : Cx) : MG := ⟨X.K, X.mg⟩
abbrev DEnv := List (Option D)
abbrev MS := List (List D)

mutual
inductive Is (mg : MG) (A : List Addr) (H : Hp) : V → D → Prop where
  | non : Is mg A H .non .non
  | bl (b : Bool) : Is mg A H (.bl b) (.bl b)
  | int (i : Int) : Is mg A H (.int i) (.int i)
  | str (x : Str) : Is mg A H (.str x) (.str x)
  | ty (n : String) : Is mg A H (.ty n) (.ty n)
  | cls {c : Str} {C : Addr} (e : mg.f c = some (.ref C)) : Is mg A H (.ref C) (.cls c)
  | tup {a : Addr} {vs : List V} {ds : List D} (n : a ∉ A) (r : Rd H a (.tup vs)) (l : IsL mg A H vs ds) : Is mg A H (.ref a) (.tup ds)
  | lst {a : Addr} {vs : List V} {ds : List D} (n : a ∉ A) (r : H a = some (.lst vs)) (l : IsL mg A H vs ds) : Is mg A H (.ref a) (.lst ds)
  | scr {a : Addr} {vs : List V} {ds : List D} (n : a ∉ A) (r : Rd H a (.lst vs)) (l : IsL mg A H vs ds) : Is mg A H (.ref a) (.scr ds)
  | scrK {a : Addr} {vs : List V} {ds : List D} (r : ∀ H' : Hp, SqL mg.K H' a vs) (l : IsL mg A H vs ds) : Is mg A H (.ref a) (.scr ds)
  | ins {a C dx : Addr} {c : Str} {fs : List (Str × V)} {fds : List (Str × D)} (n : a ∉ A) (e : mg.f c = some (.ref C)) (r : H a = some (.ins C dx fs)) (l : IsF mg A H fs fds) : Is mg A H (.ref a) (.ins c fds)
  | mut {a : Addr} {i : Nat} (e : A[i]? = some a) : Is mg A H (.ref a) (.mut i)
  /-- an object of which nothing is told -/
  | obj (a : Addr) : Is mg A H (.ref a) (.obj a)
  /-- a dict that never changes -/
  | dct {a : Addr} {kvs : List (Key × V)} {kds : List (Key × D)} (n : a ∉ A) (r : H a = some (.dK kvs)) (l : IsK mg A H kvs kds) : Is mg A H (.ref a) (.dct kds)
  /-- a caught exception at a, its fields in its own dict at d -/
  | exc {a d : Addr} {fs : List (Str × V)} {fds : List (Str × D)} (n : d ∉ A) (r : H d = some (.xd fs)) (l : IsF mg A H fs fds) : Is mg A H (.ref a) (.exc a d fds)
inductive IsL (mg : MG) (A : List Addr) (H : Hp) : List V → List D → Prop where
  | nil : IsL mg A H [] []
  | cons {v : V} {d : D} {vs : List V} {ds : List D} (h : Is mg A H v d) (t : IsL mg A H vs ds) : IsL mg A H (v :: vs) (d :: ds)
inductive IsF (mg : MG) (A : List Addr) (H : Hp) : List (Str × V) → List (Str × D) → Prop where
  | nil : IsF mg A H [] []
  | cons {f : Str} {v : V} {d : D} {fs : List (Str × V)} {fds : List (Str × D)} (h : Is mg A H v d) (t : IsF mg A H fs fds) : IsF mg A H ((f, v) :: fs) ((f, d) :: fds)
inductive IsK (mg : MG) (A : List Addr) (H : Hp) : List (Key × V) → List (Key × D) → Prop where
  | nil : IsK mg A H [] []
  | cons {f : Key} {v : V} {d : D} {fs : List (Key × V)} {fds : List (Key × D)} (h : Is mg A H v d) (t : IsK mg A H fs fds) : IsK mg A H ((f, v) :: fs) ((f, d) :: fds)
end

structure Grow (A A' : List Addr) (H H' : Hp) : Prop where
  pre : ∀ (i : Nat) (a : Addr), A[i]? = some a → A'[i]? = some a
  keep : ∀ (b : Addr) (o : HO), b ∉ A → H b = some o → H' b = some o ∧ b ∉ A'
theorem Grow.refl {A : List Addr} {H : Hp} : Grow A A H H := ⟨fun _ _ h => h, fun _ _ n h => ⟨h, n⟩⟩
theorem Grow.trans {A A1 A2 : List Addr} {H H1 H2 : Hp} (g : Grow A A1 H H1) (g' : Grow A1 A2 H1 H2) : Grow A A2 H H2 :=
  ⟨fun i a h => g'.pre i a (g.pre i a h), fun b o n h => g'.keep b o (g.keep b o n h).2 (g.keep b o n h).1⟩
theorem Grow.rd {A A' : List Addr} {H H' : Hp} (g : Grow A A' H H') {a : Addr} {u : HO} (n : a ∉ A) (r : Rd H a u) : a ∉ A' ∧ Rd H' a u := by
  rcases r with r | ⟨o, r⟩
  · exact ⟨(g.keep a _ n r).2, .inl (g.keep a _ n r).1⟩
  · exact ⟨(g.keep a _ n r).2, .inr ⟨o, (g.keep a _ n r).1⟩⟩

section
variable {mg : MG} {A A' : List Addr} {H H' : Hp}
mutual
theorem Is.mono (g : Grow A A' H H') : ∀ {v : V} {d : D}, Is mg A H v d → Is mg A' H' v d
  | _, _, .non => .non
  | _, _, .bl b => .bl b
  | _, _, .int i => .int i
  | _, _, .str x => .str x
  | _, _, .ty n => .ty n
  | _, _, .cls e => .cls e
  | _, _, .tup n r l => .tup (g.rd n r).1 (g.rd n r).2 (IsL.mono g l)
  | _, _, .lst n r l => .lst (g.keep _ _ n r).2 (g.keep _ _ n r).1 (IsL.mono g l)
  | _, _, .scr n r l => .scr (g.rd n r).1 (g.rd n r).2 (IsL.mono g l)
  | _, _, .scrK r l => .scrK r (IsL.mono g l)
  | _, _, .ins n e r l => .ins (g.keep _ _ n r).2 e (g.keep _ _ n r).1 (IsF.mono g l)
  | _, _, .mut e => .mut (g.pre _ _ e)
  | _, _, .obj a => .obj a
  | _, _, .dct n r l => .dct (g.keep _ _ n r).2 (g.keep _ _ n r).1 (IsK.mono g l)
  | _, _, .exc n r l => .exc (g.keep _ _ n r).2 (g.keep _ _ n r).1 (IsF.mono g l)
theorem IsL.mono (g : Grow A A' H H') : ∀ {vs : List V} {ds : List D}, IsL mg A H vs ds → IsL mg A' H' vs ds
  | _, _, .nil => .nil
  | _, _, .cons h t => .cons (Is.mono g h) (IsL.mono g t)
theorem IsF.mono (g : Grow A A' H H') : ∀ {fs : List (Str × V)} {fds : List (Str × D)}, IsF mg A H fs fds → IsF mg A' H' fs fds
  | _, _, .nil => .nil
  | _, _, .cons h t => .cons (Is.mono g h) (IsF.mono g t)
theorem IsK.mono (g : Grow A A' H H') : ∀ {fs : List (Key × V)} {fds : List (Key × D)}, IsK mg A H fs fds → IsK mg A' H' fs fds
  | _, _, .nil => .nil
  | _, _, .cons h t => .cons (Is.mono g h) (IsK.mono g t)
end
theorem IsL.length : ∀ {vs : List V} {ds : List D}, IsL mg A H vs ds → vs.length = ds.length
  | _, _, .nil => rfl
  | _, _, .cons _ t => congrArg Nat.succ (IsL.length t)
theorem IsL.get : ∀ {vs : List V} {ds : List D} {i : Nat} {d : D}, IsL mg A H vs ds → ds[i]? = some d → ∃ v, vs[i]? = some v ∧ Is mg A H v d
  | _, _, _, _, .nil, e => by simp at e
  | _, _, 0, _, .cons h _, e => by simp at e; subst e; exact ⟨_, rfl, h⟩
  | _, _, i + 1, d, .cons _ t, e => by
    obtain ⟨v, h1, h2⟩ := IsL.get (i := i) (d := d) t (by simpa using e)
    exact ⟨v, by simpa using h1, h2⟩
theorem IsL.getV : ∀ {vs : List V} {ds : List D} {i : Nat} {v : V}, IsL mg A H vs ds → vs[i]? = some v → ∃ d, ds[i]? = some d ∧ Is mg A H v d
  | _, _, _, _, .nil, e => by simp at e
  | _, _, 0, _, .cons h _, e => by simp at e; subst e; exact ⟨_, rfl, h⟩
  | _, _, i + 1, d, .cons _ t, e => by
    obtain ⟨v, h1, h2⟩ := IsL.getV (i := i) (v := d) t (by simpa using e)
    exact ⟨v, by simpa using h1, h2⟩
theorem IsL.append : ∀ {vs ws : List V} {ds es : List D}, IsL mg A H vs ds → IsL mg A H ws es → IsL mg A H (vs ++ ws) (ds ++ es)
  | _, _, _, _, .nil, q => q
  | _, _, _, _, .cons h t, q => .cons h (IsL.append t q)
theorem IsL.set {v : V} {d : D} (r : Is mg A H v d) : ∀ {vs : List V} {ds : List D} (i : Nat), IsL mg A H vs ds → IsL mg A H (vs.set i v) (ds.set i d)
  | _, _, _, .nil => .nil
  | _, _, 0, .cons _ t => .cons r t
  | _, _, i + 1, .cons q t => .cons q (IsL.set r i t)
theorem IsF.lookup : ∀ {fs : List (Str × V)} {fds : List (Str × D)} {f : Str} {d : D}, IsF mg A H fs fds → fds.lookup f = some d → ∃ v, fs.lookup f = some v ∧ Is mg A H v d
  | _, _, _, _, .nil, e => by simp at e
  | _, _, f, d, .cons (f := g) h t, e => by
    rw [List.lookup_cons] at e ⊢
    by_cases hb : (f == g) = true
    · rw [hb] at e ⊢; cases e; exact ⟨_, rfl, h⟩
    · have hb' : (f == g) = false := by simpa using hb
      rw [hb'] at e ⊢
      exact IsF.lookup t e
theorem IsF.no : ∀ {fs : List (Str × V)} {fds : List (Str × D)} {f : Str}, IsF mg A H fs fds → fds.lookup f = none → fs.lookup f = none
  | _, _, _, .nil, e => rfl
  | _, _, f, .cons (f := g) h t, e => by
    rw [List.lookup_cons] at e ⊢
    by_cases hb : (f == g) = true
    · rw [hb] at e; cases e
    · have hb' : (f == g) = false := by simpa using hb
      rw [hb'] at e ⊢
      exact IsF.no t e
end

/-- a list that is read: it stays -/
theorem Is.scrAt {mg : MG} {A : List Addr} {H : Hp} {v : V} {ds : List D} (h : Is mg A H v (.scr ds)) : ∃ a vs, v = .ref a ∧ (∀ A' H', Grow A A' H H' → SqL mg.K H' a vs) ∧ IsL mg A H vs ds := by
  cases h with
  | @scr a vs ds n r l => exact ⟨a, vs, rfl, fun A' H' g => .inl (g.rd n r).2, l⟩
  | @scrK a vs ds r l => exact ⟨a, vs, rfl, fun A' H' g => r H', l⟩
/-- the lists that may change, as they stand -/
structure Rep (mg : MG) (A : List Addr) (S : MS) (H : Hp) : Prop where
  len : A.length = S.length
  nd : A.Nodup
  at_ : ∀ (i : Nat) (a : Addr) (ds : List D), A[i]? = some a → S[i]? = some ds → ∃ vs, H a = some (.lst vs) ∧ IsL mg A H vs ds

section
variable {mg : MG} {A A' : List Addr} {S : MS} {H H' : Hp}
theorem Rep.gets {i : Nat} {a : Addr} (R : Rep mg A S H) (e : A[i]? = some a) : ∃ ds, S[i]? = some ds := by
  have hl : i < S.length := by rw [← R.len]; exact (List.getElem?_eq_some_iff.mp e).1
  exact ⟨S[i], List.getElem?_eq_getElem hl⟩
theorem Rep.addr {i : Nat} {ds : List D} (R : Rep mg A S H) (e : S[i]? = some ds) : ∃ a, A[i]? = some a := by
  have hl : i < A.length := by rw [R.len]; exact (List.getElem?_eq_some_iff.mp e).1
  exact ⟨A[i], List.getElem?_eq_getElem hl⟩
theorem Rep.here {a : Addr} (R : Rep mg A S H) (h : a ∈ A) : ∃ o, H a = some o := by
  obtain ⟨i, hi⟩ := List.getElem?_of_mem h
  obtain ⟨ds, hd⟩ := R.gets hi
  obtain ⟨vs, h1, _⟩ := R.at_ i a ds hi hd
  exact ⟨_, h1⟩
theorem Rep.fresh {p : Addr} (R : Rep mg A S H) (h : H p = none) : p ∉ A := fun z => by
  obtain ⟨o, e⟩ := R.here z
  rw [h] at e; cases e
/-- a new object that never changes -/
theorem grow_new {p : Addr} {o : HO} (R : Rep mg A S H) (h : H p = none) : Grow A A H (upd H p o) :=
  ⟨fun _ _ e => e, fun b u n e => ⟨by rw [upd_ne (ne_of_none e h)]; exact e, n⟩⟩
theorem Rep.new {p : Addr} {o : HO} (R : Rep mg A S H) (h : H p = none) : Rep mg A S (upd H p o) :=
  ⟨R.len, R.nd, fun i a ds e1 e2 => by
    obtain ⟨vs, h1, h2⟩ := R.at_ i a ds e1 e2
    exact ⟨vs, by rw [upd_ne (ne_of_none h1 h)]; exact h1, h2.mono (grow_new R h)⟩⟩
/-- a new list that may change -/
theorem grow_mut {p : Addr} {o : HO} (R : Rep mg A S H) (h : H p = none) : Grow A (A ++ [p]) H (upd H p o) :=
  ⟨fun i a e => by rw [List.getElem?_append_left (List.getElem?_eq_some_iff.mp e).1]; exact e, fun b u n e => ⟨by rw [upd_ne (ne_of_none e h)]; exact e, fun z => by
    rcases List.mem_append.mp z with z | z
    · exact n z
    · exact ne_of_none e h (List.mem_singleton.mp z)⟩⟩
theorem Rep.newMut {p : Addr} {vs : List V} {ds : List D} (R : Rep mg A S H) (h : H p = none) (l : IsL mg A H vs ds) : Rep mg (A ++ [p]) (S ++ [ds]) (upd H p (.lst vs)) := by
  have g := grow_mut (o := .lst vs) R h
  refine ⟨by rw [List.length_append, List.length_append, R.len]; rfl, ?_, fun i a es e1 e2 => ?_⟩
  · rw [List.nodup_append]
    exact ⟨R.nd, by simp, fun x hx y hy => by rw [List.mem_singleton.mp hy]; intro z; exact R.fresh h (z ▸ hx)⟩
  · by_cases hi : i < A.length
    · rw [List.getElem?_append_left hi] at e1
      rw [List.getElem?_append_left (by rw [← R.len]; exact hi)] at e2
      obtain ⟨ws, h1, h2⟩ := R.at_ i a es e1 e2
      exact ⟨ws, by rw [upd_ne (ne_of_none h1 h)]; exact h1, h2.mono g⟩
    · rw [List.getElem?_append_right (by omega)] at e1
      rw [List.getElem?_append_right (by rw [← R.len]; omega)] at e2
      have z : i - A.length = 0 := by
        have := (List.getElem?_eq_some_iff.mp e1).1
        simp at this; omega
      have z2 : i - S.length = 0 := by rw [← R.len]; exact z
      rw [z] at e1; rw [z2] at e2
      simp at e1 e2
      subst e1 e2
      exact ⟨vs, upd_same, l.mono g⟩
/-- one of them is changed -/
theorem grow_write {i : Nat} {a : Addr} {o : HO} (e : A[i]? = some a) : Grow A A H (upd H a o) :=
  ⟨fun _ _ e => e, fun b u n eb => ⟨by rw [upd_ne (show b ≠ a from fun z => n (by rw [z]; exact List.mem_of_getElem? e))]; exact eb, n⟩⟩
theorem Rep.write {i : Nat} {a : Addr} {vs : List V} {ds : List D} (R : Rep mg A S H) (e : A[i]? = some a) (l : IsL mg A H vs ds) : Rep mg A (S.set i ds) (upd H a (.lst vs)) := by
  have g := grow_write (H := H) (o := .lst vs) e
  refine ⟨by rw [List.length_set]; exact R.len, R.nd, fun j b es e1 e2 => ?_⟩
  by_cases hj : j = i
  · subst hj
    rw [e] at e1; cases e1
    have hl : j < S.length := by rw [← R.len]; exact (List.getElem?_eq_some_iff.mp e).1
    rw [List.getElem?_set_self hl] at e2; cases e2
    exact ⟨vs, upd_same, l.mono g⟩
  · rw [List.getElem?_set_ne (fun z => hj z.symm)] at e2
    obtain ⟨ws, h1, h2⟩ := R.at_ j b es e1 e2
    have hb : b ≠ a := fun z => by
      subst z
      exact hj ((List.getElem?_inj (List.getElem?_eq_some_iff.mp e1).1 R.nd).mp (e1.trans e.symm))
    exact ⟨ws, by rw [upd_ne hb]; exact h1, h2.mono g⟩
end

/-- the names of a frame -/
structure EnvD (mg : MG) (A : List Addr) (H : Hp) (σ : L2.St) (ρ : DEnv) : Prop where
  len : σ.length = ρ.length
  at_ : ∀ (i : Nat) (d : D), ρ[i]? = some (some d) → ∃ v, σ[i]? = some (some v) ∧ Is mg A H v d
section
variable {mg : MG} {A A' : List Addr} {S : MS} {H H' : Hp} {σ : L2.St} {ρ : DEnv}
theorem EnvD.mono (g : Grow A A' H H') (e : EnvD mg A H σ ρ) : EnvD mg A' H' σ ρ := ⟨e.len, fun i d h => by
  obtain ⟨v, h1, h2⟩ := e.at_ i d h
  exact ⟨v, h1, h2.mono g⟩⟩
theorem EnvD.set {v : V} {d : D} (e : EnvD mg A H σ ρ) (i : Nat) (h : Is mg A H v d) : EnvD mg A H (σ.set i (some v)) (ρ.set i (some d)) := by
  refine ⟨by simp [e.len], fun j d' hj => ?_⟩
  by_cases hji : i = j
  · subst hji
    by_cases hl : i < ρ.length
    · rw [List.getElem?_set_self hl] at hj; cases hj
      exact ⟨v, by rw [List.getElem?_set_self (by rw [e.len]; exact hl)], h⟩
    · rw [List.getElem?_eq_none (by simp; omega)] at hj; cases hj
  · rw [List.getElem?_set_ne hji] at hj ⊢
    exact e.at_ j d' hj
end

/-! ### what a piece does, by data -/
abbrev WD := DEnv → MS → (D → MS → Prop) → Prop
abbrev WB := DEnv → MS → (Bool → MS → Prop) → Prop
abbrev WL := DEnv → MS → (List D → MS → Prop) → Prop
structure DEnds where
  nx : DEnv → MS → Prop
  rt : D → MS → Prop
  bk : DEnv → MS → Prop := fun _ _ => False
  ct : DEnv → MS → Prop := fun _ _ => False
abbrev WS := DEnds → DEnv → MS → Prop
/-- an end by values behind A, H is reached by an end by data -/
def EndV (mg : MG) (A : List Addr) (H : Hp) (Q : VK) (Q' : D → MS → Prop) : Prop := ∀ d S' A' v H', Grow A A' H H' → Rep mg A' S' H' → Is mg A' H' v d → Q' d S' → Q v H'
def EndB (mg : MG) (A : List Addr) (H : Hp) (Q : Bool → Hp → Prop) (Q' : Bool → MS → Prop) : Prop := ∀ d S' A' H', Grow A A' H H' → Rep mg A' S' H' → Q' d S' → Q d H'
def EndL (mg : MG) (A : List Addr) (H : Hp) (Q : List V → Hp → Prop) (Q' : List D → MS → Prop) : Prop := ∀ d S' A' v H', Grow A A' H H' → Rep mg A' S' H' → IsL mg A' H' v d → Q' d S' → Q v H'
def EndN (mg : MG) (A : List Addr) (H : Hp) (Q : L2.St → Hp → Prop) (Q' : DEnv → MS → Prop) : Prop := ∀ ρ S' A' σ H', Grow A A' H H' → Rep mg A' S' H' → EnvD mg A' H' σ ρ → Q' ρ S' → Q σ H'
structure EndS (mg : MG) (A : List Addr) (H : Hp) (E : Ends) (E' : DEnds) : Prop where
  nx : EndN mg A H E.nx E'.nx
  rt : EndV mg A H E.rt E'.rt
  bk : EndN mg A H E.bk E'.bk
  ct : EndN mg A H E.ct E'.ct
section
variable {mg : MG} {A A' : List Addr} {H H' : Hp}
theorem EndV.mono {Q Q'} (e : EndV mg A H Q Q') (g : Grow A A' H H') : EndV mg A' H' Q Q' := fun d S' A2 v H2 g2 => e d S' A2 v H2 (g.trans g2)
theorem EndB.mono {Q Q'} (e : EndB mg A H Q Q') (g : Grow A A' H H') : EndB mg A' H' Q Q' := fun d S' A2 H2 g2 => e d S' A2 H2 (g.trans g2)
theorem EndL.mono {Q Q'} (e : EndL mg A H Q Q') (g : Grow A A' H H') : EndL mg A' H' Q Q' := fun d S' A2 v H2 g2 => e d S' A2 v H2 (g.trans g2)
theorem EndN.mono {Q Q'} (e : EndN mg A H Q Q') (g : Grow A A' H H') : EndN mg A' H' Q Q' := fun d S' A2 v H2 g2 => e d S' A2 v H2 (g.trans g2)
theorem EndS.mono {E E'} (e : EndS mg A H E E') (g : Grow A A' H H') : EndS mg A' H' E E' := ⟨e.nx.mono g, e.rt.mono g, e.bk.mono g, e.ct.mono g⟩
end
def SndE (mg : MG) (t : TE) (w : WD) : Prop := ∀ A S σ H ρ Q Q', Rep mg A S H → EnvD mg A H σ ρ → w ρ S Q' → EndV mg A H Q Q' → t σ H Q
def SndT (mg : MG) (t : TT) (w : WB) : Prop := ∀ A S σ H ρ Q Q', Rep mg A S H → EnvD mg A H σ ρ → w ρ S Q' → EndB mg A H Q Q' → t σ H Q
def SndA (mg : MG) (t : TA) (w : WL) : Prop := ∀ A S σ H ρ Q Q', Rep mg A S H → EnvD mg A H σ ρ → w ρ S Q' → EndL mg A H Q Q' → t σ H Q
def SndS (mg : MG) (t : TS) (w : WS) : Prop := ∀ A S σ H ρ E E', Rep mg A S H → EnvD mg A H σ ρ → w E' ρ S → EndS mg A H E E' → t E σ H

structure PD (X : Cx) (e : Expr) (t : TE) (w : WD) : Prop where
  pe : PE X e t
  sd : SndE X.G t w
structure PDT (X : Cx) (e : Expr) (t : TT) (w : WB) : Prop where
  pe : PT X e t
  sd : SndT X.G t w
structure PDW (X : Cx) (e : Expr) (t : TT) (w : WB) : Prop where
  pe : PW X e t
  sd : SndT X.G t w
structure PDA (X : Cx) (es : List Expr) (t : TA) (w : WL) : Prop where
  pe : PA X es t
  sd : SndA X.G t w
structure PDS (X : Cx) (st : Stmt) (t : TS) (w : WS) : Prop where
  pe : PS X st t
  sd : SndS X.G t w
structure PDSs (X : Cx) (st : List Stmt) (t : TS) (w : WS) : Prop where
  pe : PSs X st t
  sd : SndS X.G t w

/-! ### names, constants -/
def wVar (i : Nat) : WD := fun ρ S Q => match ρ[i]? with
  | some (some d) => Q d S
  | _ => False
def wC (d : D) : WD := fun _ S Q => Q d S
section
variable {X : Cx} {mg : MG}
theorem snd_var {i : Nat} : SndE mg (tVar i) (wVar i) := by
  intro A S σ H ρ Q Q' R E q k
  unfold wVar at q
  split at q
  case h_2 => exact q.elim
  rename_i d hd
  obtain ⟨v, h1, h2⟩ := E.at_ i d hd
  exact ⟨v, h1, k d S A v H .refl R h2 q⟩
theorem snd_c {v : V} {d : D} (h : ∀ A H, Is mg A H v d) : SndE mg (tC v) (wC d) := fun A S σ H ρ Q Q' R E q k => k d S A v H .refl R (h A H) q
theorem dv (i : Nat) {x : Str} {pos : Pos} (hN : X.N[i]? = some x := by rfl) (hv : Vis X.env.scope x := by first | exact Or.inl rfl | exact Or.inr (Or.inl rfl) | exact Or.inr (Or.inr rfl)) (hd : (x == ("__debug__" : Str)) = false := by decide)
    (hcd : (x == ("__classdict__" : Str)) = false := by decide) : PD X (.Name x pos) (tVar i) (wVar i) := ⟨pe_var hN hv hd hcd, snd_var⟩
theorem d_int {i j pos} : PD X (.Constant (.int i) j pos) (tC (.int i)) (wC (.int i)) := ⟨pe_int, snd_c fun _ _ => .int i⟩
theorem d_bl {b j pos} : PD X (.Constant (.bool b) j pos) (tC (.bl b)) (wC (.bl b)) := ⟨pe_bl, snd_c fun _ _ => .bl b⟩
theorem d_non {j pos} : PD X (.Constant .none j pos) (tC .non) (wC .non) := ⟨pe_non, snd_c fun _ _ => .non⟩
theorem d_str {x j pos} : PD X (.Constant (.str x) j pos) (tC (.str x)) (wC (.str x)) := ⟨pe_str, snd_c fun _ _ => .str x⟩
/-- a module's name for a class -/
theorem d_cls {x : Str} {C : Addr} {pos : Pos} (hm : X.mg x = some (.ref C)) (hg : Gl X x := by rfl) (hd : (x == ("__debug__" : Str)) = false := by decide) : PD X (.Name x pos) (tC (.ref C)) (wC (.cls x)) :=
  ⟨pe_glob hg hm rfl hd, snd_c fun _ _ => .cls hm⟩
theorem d_ty {x : Str} {n : String} {pos : Pos} (hm : X.mg x = none) (hv : bootBuiltins x = some (.type n) := by decide +kernel) (hg : Gl X x := by rfl) (hn : x ≠ "__name__" := by decide) (hd : (x == ("__debug__" : Str)) = false := by decide) :
    PD X (.Name x pos) (tC (.ty n)) (wC (.ty n)) := ⟨pe_bltn hg hm hv rfl hn hd, snd_c fun _ _ => .ty n⟩
theorem d_globI {x : Str} {i : Int} {t : Tok} {pos : Pos} (hm : X.mg x = some (.int i t)) (hg : Gl X x := by rfl) (hd : (x == ("__debug__" : Str)) = false := by decide) : PD X (.Name x pos) (tC (.int i)) (wC (.int i)) :=
  ⟨pe_glob hg hm ⟨_, rfl⟩ hd, snd_c fun _ _ => .int i⟩
end
end DL

set_option Elab.async false
set_option linter.all false
set_option maxRecDepth 100000
/-! Operators of an own class by its methods, over the hand layer. -/
namespace DL
open PySem PySem.Spec PyProof.Rows L2
open PySem.W (InstAt Looks findIn isFn subIn selfFirst notFirst)

section
variable {prog : Program} {w : World} {A : Around} {E : Value → Shared → Prop} {s : Shared} {K : PySem.W.Frag} {x C L f : Addr} {h₀ : Heap} {m : Str → Option Value} {ox : Obj} {od : Option Obj}

/-- int.__op__ with an object that is none -/
theorem int_declines {name : Str} {id nm : String} {g : Int → Int → Sem PySem.Fin} {B : Builtin} {i : Int} {t : Tok} {Q : Value → Shared → Prop} (hs : Slot "int" name id) (he : entryFor table id = some B) (ha : argsOk id ⟨[.int i t, .ref x], []⟩)
    (hB : B = PySem.Builtin.Int.intBinary nm g) (ho : s.heap.get? x = some ox) (hd : ox.data = .plain) (q : Q .notImplemented s) :
    wpAny (model prog w) A (call (.builtin id) [.int i t, .ref x]) Q E s := by
  refine wpAny_call_entry hs (typeIs_int s i t) he ?_ ha
  rw [hB]
  unfold PySem.Builtin.Int.intBinary
  refine wpAny_bind (m := slotArgs nm 1 _) (wpAny_pure ?_)
  refine wpAny_bind (m := PySem.Builtin.Int.intOfSelf _) ?_
  unfold PySem.Builtin.Int.intOfSelf
  refine wpAny_bind (m := asInt? _) (wpAny_pure (wpAny_pure ?_))
  refine wpAny_bind (m := asInt? _) ?_
  show wpAny _ _ (asInt? (.ref x)) _ _ _
  unfold asInt?
  refine wpAny_bind (wpAny_load ho ?_)
  rw [hd]
  refine wpAny_pure ?_
  refine wpAny_bind (wpAny_rule ?_)
  exact wpAny_pure ⟨_, rfl, q⟩

/-- int // own declines, too -/
theorem int_fdeclines {i : Int} {t : Tok} {Q : Value → Shared → Prop} (ho : s.heap.get? x = some ox) (hd : ox.data = .plain) (q : Q .notImplemented s) :
    wpAny (model prog w) A (call (.builtin "int.__floordiv__") [.int i t, .ref x]) Q E s := by
  refine wpAny_call_entry F.slot_int_floordiv (typeIs_int s i t) F.entry_int_floordiv ?_ (F.args_int_floordiv_2 _ _)
  unfold Builtin.«int.__floordiv__»
  refine wpAny_bind (m := PySem.Builtin.exactOperandsForPylong false _) ?_
  unfold PySem.Builtin.exactOperandsForPylong
  rw [if_pos (by rfl)]
  dsimp only
  refine wpAny_bind (m := asInt? _) (wpAny_pure ?_)
  refine wpAny_bind (m := asInt? _) ?_
  unfold asInt?
  refine wpAny_bind (wpAny_load ho ?_)
  rw [hd]
  refine wpAny_pure ?_
  dsimp only
  refine wpAny_pure ?_
  unfold PySem.Builtin.Int.intBinary
  refine wpAny_bind (m := slotArgs _ 1 _) (wpAny_pure ?_)
  refine wpAny_bind (m := PySem.Builtin.Int.intOfSelf _) ?_
  unfold PySem.Builtin.Int.intOfSelf
  refine wpAny_bind (m := asInt? _) (wpAny_pure (wpAny_pure ?_))
  refine wpAny_bind (m := asInt? _) ?_
  show wpAny _ _ (asInt? (.ref x)) _ _ _
  unfold asInt?
  refine wpAny_bind (wpAny_load ho ?_)
  rw [hd]
  refine wpAny_pure ?_
  refine wpAny_bind (wpAny_rule ?_)
  exact wpAny_pure ⟨_, rfl, q⟩

/-- int op own: by the own class's reflected method -/
theorem binI_K {op : Operator} {id : String} {i : Int} {t : Tok} {fl : Addr} {Q : Value → Shared → Prop} (X : K.In s.heap) (I : InstAt s.heap x ox C od) (hc : selfFirst K C = true)
    (hl : findIn K (.ref C) (PySem.dunder op.info.2) = some (some (.ref fl))) (hs : findIn K (.ref C) (dunderR op.info.2) = some (some (.ref f))) (hf : isFn K (.ref f) = true)
    (hsub : subIn K (.ref C) (.type "int") = some false) (slot : Slot "int" (PySem.dunder op.info.2) id) (fills : fillsNumberSlot (.type "int") op.info.2 = pure true)
    (dec : ∀ Q' : Value → Shared → Prop, Q' .notImplemented s → wpAny (model prog w) A (call (.builtin id) [.int i t, .ref x]) Q' E s)
    (h : wpAny (model prog w) A (call (.ref f) [.ref x, .int i t]) (PySem.W.CmpBack Q) E s) : wpAny (model prog w) A (binaryOp op (.int i t) (.ref x)) Q E s := by
  obtain ⟨cd, rest, hcd, hm⟩ := PySem.W.ksp_first hc
  rcases hi : op.info with ⟨sym, nm'⟩
  rw [hi] at hl hs slot fills
  dsimp only at hl hs slot fills
  have one := PySem.W.ksp_try X I hs hf h
  have L3 : Looks (model prog w) s.heap (fillsNumberSlot (.ref C) nm') true := PySem.W.fills_K X hcd hm hl
  have L5 : Looks (model prog w) s.heap (isSubtype (.ref C) (.type "int")) false := PySem.W.looks_subIn X hsub
  have hne : (Value.type "int" == Value.ref C) = false := Bool.eq_false_iff.mpr fun q => by cases beq_iff_eq.mp q
  have hpy : numberSlotInPython (.type "int") nm' = pure false := rfl
  simp only [binaryOp, hi]
  refine wpAny_holding (wpAny_bind ?_)
  unfold binaryOp1
  refine wpAny_bind (wpAny_typeOf (typeIs_int s i t) (wpAny_bind (I.type.here (wpAny_bind (wpAny_of_eq fills ?_)))))
  simp only [hne, Bool.false_eq_true, if_false]
  refine wpAny_bind (L3.here ?_)
  simp only [Bool.and_self, if_true]
  refine wpAny_bind (L5.here ?_)
  simp only [Bool.false_eq_true, if_false, pure_bind, Bool.not_false, Bool.and_self, if_true, hpy]
  refine wpAny_bind (wpAny_tryMethod_declines (typeIs_int s i t) slot (dec _ ⟨rfl, ?_⟩))
  dsimp only
  refine wpAny_bind (wpAny_mono one (fun r s' hr => ?_) fun _ _ e => e)
  obtain ⟨v, rfl, hq⟩ := hr
  dsimp only
  exact wpAny_bind (wpAny_rule (wpAny_pure (wpAny_pure hq)))

/-- int cmp own: by the own class's reflected method -/
theorem cmpI_K {op : CmpOp} {id : String} {i : Int} {t : Tok} {Q : Value → Shared → Prop} (hu : A.units < cLine) (X : K.In s.heap) (I : InstAt s.heap x ox C od)
    (hs : findIn K (.ref C) (cmpInfo op).2.2 = some (some (.ref f))) (hf : isFn K (.ref f) = true) (hsub : subIn K (.ref C) (.type "int") = some false) (slot : Slot "int" (cmpInfo op).2.1 id)
    (dec : ∀ Q' : Value → Shared → Prop, Q' .notImplemented s → wpAny (model prog w) A (call (.builtin id) [.int i t, .ref x]) Q' E s)
    (h : wpAny (model prog w) A (call (.ref f) [.ref x, .int i t]) (PySem.W.CmpBack Q) E s) : wpAny (model prog w) A (richCompare op (.int i t) (.ref x)) Q E s := by
  have one : wpAny (model prog w) A (tryCompare (.ref x) (cmpInfo op).2.2 (.int i t)) (fun r s' => ∃ v, r = some v ∧ Q v s') E s := by
    unfold tryCompare
    refine wpAny_bind (PySem.W.ifBound_K X I hs hf (wpAny_mono h (fun v s' hv => ?_) fun _ _ e => e))
    cases v <;> first | exact hv.elim | exact wpAny_pure ⟨_, rfl, hv⟩
  have L5 : Looks (model prog w) s.heap (isSubtype (.ref C) (.type "int")) false := PySem.W.looks_subIn X hsub
  have hne : (Value.type "int" != Value.ref C) = true := by
    rw [bne, Bool.not_eq_true']
    exact Bool.eq_false_iff.mpr fun q => by cases beq_iff_eq.mp q
  rcases hi : cmpInfo op with ⟨sym, f', r'⟩
  rw [hi] at one slot
  unfold richCompare
  simp only [hi, (typeIs_int s i t).oneThing_none]
  refine wpAny_holding (wpAny_bind (wpAny_cRoomFor hu ?_))
  refine wpAny_bind (wpAny_typeOf (typeIs_int s i t) (wpAny_bind (I.type.here ?_)))
  simp only [hne, if_true]
  refine wpAny_bind (L5.here ?_)
  simp only [Bool.false_eq_true, if_false]
  refine wpAny_bind (wpAny_tryCompare_declines (typeIs_int s i t) slot (dec _ ⟨rfl, ?_⟩))
  simp only [Bool.not_false, if_true]
  refine wpAny_bind (wpAny_mono one (fun r s' z => ?_) fun _ _ e => e)
  obtain ⟨v, rfl, hq⟩ := z
  exact wpAny_pure hq
end
end DL
namespace DL
open PySem PySem.Spec PyProof.Rows L2
/-- what the operators ask of a class -/
structure OwnC (K : PySem.W.Frag) (C : Addr) : Prop where
  first : PySem.W.selfFirst K C = true
  subI : PySem.W.subIn K (.ref C) (.type "int") = some false
  subT : PySem.W.subIn K (.type "int") (.ref C) = some false
/-- a method of it -/
structure OwnM (K : PySem.W.Frag) (C : Addr) (nm : Str) (f : Addr) : Prop where
  at_ : PySem.W.findIn K (.ref C) nm = some (some (.ref f))
  fn : PySem.W.isFn K (.ref f) = true
theorem cmpback {P : Value → Shared → Prop} {z : V} {v : Value} {s' : Shared} (r : RelV z v) (h : P v s') : PySem.W.CmpBack P v s' := by
  cases z with
  | non => cases (show v = Value.none from r); exact h
  | bl b => cases (show v = Value.bool b from r); exact h
  | int i => obtain ⟨t, e⟩ := (show ∃ t, v = Value.int i t from r); cases e; exact h
  | str x => obtain ⟨t, e⟩ := (show ∃ t, v = Value.str x t from r); cases e; exact h
  | byt x => obtain ⟨t, e⟩ := (show ∃ t, v = Value.bytes x t from r); cases e; exact h
  | flt x => obtain ⟨t, e⟩ := (show ∃ t, v = Value.float x t from r); cases e; exact h
  | ref a => cases (show v = Value.ref a from r); exact h
  | ty n => cases (show v = Value.type n from r); exact h
section
variable {X : Cx} {CX : CXT} {k : Nat} {C g gl : Addr} {fd : FuncData} {ps : List Str} {sp : Sp} {E : XK}

def Ins (C : Addr) (H : Hp) (x : V) : Prop := ∃ a dx fs, x = .ref a ∧ H a = some (.ins C dx fs)
def rOwnB (C : Addr) (sp : Sp) (E : XK) : R2 := fun x y H Q => Ins C H x ∧ (Ins C H y ∨ ∃ i, y = .int i) ∧ sp [x, y] H Q E
def rOwnI (C : Addr) (sp : Sp) (E : XK) : R2 := fun x y H Q => (∃ i, x = .int i) ∧ Ins C H y ∧ sp [y, x] H Q E
def rOwnU (C : Addr) (sp : Sp) (E : XK) : V → Hp → VK → Prop := fun x H Q => Ins C H x ∧ sp [x] H Q E

theorem op_ownB {op : Operator} {rc fo ro : Option Value} (O : OwnC X.K C) (M : OwnM X.K C (PySem.dunder op.info.2) g) (hr' : PySem.W.findIn X.K (.ref C) (dunderR op.info.2) = some rc) (hp : rc = none ∨ ∃ g : Addr, rc = some (.ref g))
    (h1 : PySem.W.findIn X.K (.type "int") (PySem.dunder op.info.2) = some fo) (h2 : PySem.W.findIn X.K (.type "int") (dunderR op.info.2) = some ro)
    (F : FnOk X.prog X.w X.K X.mg X.base CX k g fd ps sp) (hr : Room k X.A) (hb : Binds X.K fd ps []) (hx : Passes CX X E) : OpR X (binaryOp op) (rOwnB C sp E) := by
  intro pins s σ H x y v u Q I rx ry h
  obtain ⟨⟨a, dx, fs, rfl, ha⟩, hy, q⟩ := h
  cases (show v = Value.ref a from rx)
  obtain ⟨mA, OM, _⟩ := ins_get I.hok ha
  obtain ⟨od, J, _⟩ := OM.look
  obtain ⟨m, hF⟩ := I.fr
  have run := run_fn (us := [.ref a, u]) (vs := [.ref a, y]) F hr hb .nil hx I (.cons rfl (.cons ry .nil)) (by simpa using q)
  have run' := wpAny_mono run (fun w s' (z : EP X pins σ Q w s') => (show PySem.W.CmpBack (EP X pins σ Q) w s' from by
    obtain ⟨z', H', I', rz, qz⟩ := z
    exact cmpback rz ⟨z', H', I', rz, qz⟩)) fun _ _ e => e
  rcases hy with ⟨b, dy, gs, rfl, hb'⟩ | ⟨i, rfl⟩
  · cases (show u = Value.ref b from ry)
    obtain ⟨mB, OM', _⟩ := ins_get I.hok hb'
    obtain ⟨od', J', _⟩ := OM'.look
    exact PySem.W.binop_K hF I.ok.mod.kin J J'.type O.first M.at_ M.fn run'
  · obtain ⟨t, rfl⟩ := ry
    exact PySem.W.ksp_binT (T := "int") hF I.ok.mod.kin J rfl O.first M.at_ M.fn hr' hp h1 h2 O.subT run'
theorem op_ownI {op : Operator} {id : String} (O : OwnC X.K C) (M : OwnM X.K C (PySem.dunder op.info.2) gl) (MR : OwnM X.K C (dunderR op.info.2) g) (slot : Slot "int" (PySem.dunder op.info.2) id) (fills : fillsNumberSlot (.type "int") op.info.2 = pure true)
    (dec : ∀ {A : Around} {E : Value → Shared → Prop} {s : Shared} {i : Int} {t : Tok} {x : Addr} {ox : Obj} (Q' : Value → Shared → Prop), s.heap.get? x = some ox → ox.data = .plain → Q' .notImplemented s → wpAny (model X.prog X.w) A (call (.builtin id) [.int i t, .ref x]) Q' E s)
    (F : FnOk X.prog X.w X.K X.mg X.base CX k g fd ps sp) (hr : Room k X.A) (hb : Binds X.K fd ps []) (hx : Passes CX X E) : OpR X (binaryOp op) (rOwnI C sp E) := by
  intro pins s σ H x y v u Q I rx ry h
  obtain ⟨⟨i, rfl⟩, ⟨b, dy, gs, rfl, hb'⟩, q⟩ := h
  obtain ⟨t, rfl⟩ := rx
  cases (show u = Value.ref b from ry)
  obtain ⟨mB, OM', _⟩ := ins_get I.hok hb'
  obtain ⟨od', J', _⟩ := OM'.look
  have run := run_fn (us := [.ref b, .int i t]) (vs := [.ref b, .int i]) F hr hb .nil hx I (.cons rfl (.cons ⟨t, rfl⟩ .nil)) (by simpa using q)
  refine binI_K I.kIn J' O.first M.at_ MR.at_ MR.fn O.subI slot fills (fun Q' q' => dec Q' J'.at_ rfl q') (wpAny_mono run (fun w s' z => ?_) fun _ _ e => e)
  obtain ⟨z', H', I', rz, qz⟩ := z
  exact cmpback rz ⟨z', H', I', rz, qz⟩
theorem un_ownNeg (M : OwnM X.K C "__neg__" g) (F : FnOk X.prog X.w X.K X.mg X.base CX k g fd ps sp) (hr : Room k X.A) (hb : Binds X.K fd ps []) (hx : Passes CX X E) : UnR X (unaryOp .USub) (rOwnU C sp E) := by
  intro pins s σ H x v Q I rx h
  obtain ⟨⟨a, dx, fs, rfl, ha⟩, q⟩ := h
  cases (show v = Value.ref a from rx)
  obtain ⟨mA, OM, _⟩ := ins_get I.hok ha
  obtain ⟨od, J, _⟩ := OM.look
  obtain ⟨m, hF⟩ := I.fr
  exact PySem.W.ksp_neg hF I.ok.mod.kin J M.at_ M.fn (run_fn (us := [.ref a]) (vs := [.ref a]) F hr hb .nil hx I (.cons rfl .nil) (by simpa using q))
theorem op_ownCmp {op : CmpOp} (hop : ∀ a b, compareOp op a b = richCompare op a b) (O : OwnC X.K C) (M : OwnM X.K C (cmpInfo op).2.1 g)
    (F : FnOk X.prog X.w X.K X.mg X.base CX k g fd ps sp) (hr : Room k X.A) (hb : Binds X.K fd ps []) (hx : Passes CX X E) : OpR X (compareOp op) (rOwnB C sp E) := by
  intro pins s σ H x y v u Q I rx ry h
  obtain ⟨⟨a, dx, fs, rfl, ha⟩, hy, q⟩ := h
  cases (show v = Value.ref a from rx)
  obtain ⟨mA, OM, _⟩ := ins_get I.hok ha
  obtain ⟨od, J, _⟩ := OM.look
  obtain ⟨m, hF⟩ := I.fr
  have run := run_fn (us := [.ref a, u]) (vs := [.ref a, y]) F hr hb .nil hx I (.cons rfl (.cons ry .nil)) (by simpa using q)
  have run' := wpAny_mono run (fun w s' (z : EP X pins σ Q w s') => (show PySem.W.CmpBack (EP X pins σ Q) w s' from by
    obtain ⟨z', H', I', rz, qz⟩ := z
    exact cmpback rz ⟨z', H', I', rz, qz⟩)) fun _ _ e => e
  rw [hop]
  rcases hy with ⟨b, dy, gs, rfl, hb'⟩ | ⟨i, rfl⟩
  · cases (show u = Value.ref b from ry)
    obtain ⟨mB, OM', _⟩ := ins_get I.hok hb'
    obtain ⟨od', J', _⟩ := OM'.look
    exact PySem.W.cmp_K (tb := .ref C) hr.units0 hF I.ok.mod.kin J J'.type (by simp [PySem.W.notFirst]) M.at_ M.fn run'
  · obtain ⟨t, rfl⟩ := ry
    exact PySem.W.cmp_K (tb := .type "int") hr.units0 hF I.ok.mod.kin J (PySem.W.Looks.of_pure rfl) (by simp [PySem.W.notFirst, O.subT]) M.at_ M.fn run'
theorem op_ownCmpI {op : CmpOp} {id : String} (hop : ∀ a b, compareOp op a b = richCompare op a b) (O : OwnC X.K C) (M : OwnM X.K C (cmpInfo op).2.2 g) (slot : Slot "int" (cmpInfo op).2.1 id)
    (dec : ∀ {A : Around} {E : Value → Shared → Prop} {s : Shared} {i : Int} {t : Tok} {x : Addr} {ox : Obj} (Q' : Value → Shared → Prop), s.heap.get? x = some ox → ox.data = .plain → Q' .notImplemented s → wpAny (model X.prog X.w) A (call (.builtin id) [.int i t, .ref x]) Q' E s)
    (F : FnOk X.prog X.w X.K X.mg X.base CX k g fd ps sp) (hr : Room k X.A) (hb : Binds X.K fd ps []) (hx : Passes CX X E) : OpR X (compareOp op) (rOwnI C sp E) := by
  intro pins s σ H x y v u Q I rx ry h
  obtain ⟨⟨i, rfl⟩, ⟨b, dy, gs, rfl, hb'⟩, q⟩ := h
  obtain ⟨t, rfl⟩ := rx
  cases (show u = Value.ref b from ry)
  obtain ⟨mB, OM', _⟩ := ins_get I.hok hb'
  obtain ⟨od', J', _⟩ := OM'.look
  have run := run_fn (us := [.ref b, .int i t]) (vs := [.ref b, .int i]) F hr hb .nil hx I (.cons rfl (.cons ⟨t, rfl⟩ .nil)) (by simpa using q)
  rw [hop]
  refine cmpI_K hr.units0 I.kIn J' M.at_ M.fn O.subI slot (fun Q' q' => dec Q' J'.at_ rfl q') (wpAny_mono run (fun w s' z => ?_) fun _ _ e => e)
  obtain ⟨z', H', I', rz, qz⟩ := z
  exact cmpback rz ⟨z', H', I', rz, qz⟩
end
end DL

set_option Elab.async false
set_option linter.all false
set_option maxRecDepth 100000
/-! Rules: each piece of the text by data. -/
namespace DL
open PySem PySem.Spec PyProof.Rows L2
abbrev OD := D → D → MS → (D → MS → Prop) → Prop
abbrev UD := D → MS → (D → MS → Prop) → Prop
abbrev LD := List D → MS → (D → MS → Prop) → Prop
def SndR (mg : MG) (r : R2) (o : OD) : Prop := ∀ A S H x y dx dy Q Q', Rep mg A S H → Is mg A H x dx → Is mg A H y dy → o dx dy S Q' → EndV mg A H Q Q' → r x y H Q
def SndU (mg : MG) (r : V → Hp → VK → Prop) (o : UD) : Prop := ∀ A S H x dx Q Q', Rep mg A S H → Is mg A H x dx → o dx S Q' → EndV mg A H Q Q' → r x H Q
def SndC (mg : MG) (r : List V → Hp → VK → Prop) (o : LD) : Prop := ∀ A S H xs ds Q Q', Rep mg A S H → IsL mg A H xs ds → o ds S Q' → EndV mg A H Q Q' → r xs H Q
def wOp (o : OD) (wa wb : WD) : WD := fun ρ S Q => wa ρ S fun x S1 => wb ρ S1 fun y S2 => o x y S2 Q
def wUn (o : UD) (wa : WD) : WD := fun ρ S Q => wa ρ S fun x S1 => o x S1 Q
def wNil : WL := fun _ S Q => Q [] S
def wCons (wa : WD) (wr : WL) : WL := fun ρ S Q => wa ρ S fun x S1 => wr ρ S1 fun xs S2 => Q (x :: xs) S2
def wCB (o : LD) (wl : WL) : WD := fun ρ S Q => wl ρ S fun xs S1 => o xs S1 Q
section
variable {mg : MG} {ta tb te : TE} {wa wb we : WD} {t : TA} {wl : WL} {r : R2} {o : OD}
theorem snd_op (hr : SndR mg r o) (ha : SndE mg ta wa) (hb : SndE mg tb wb) : SndE mg (tOp r ta tb) (wOp o wa wb) := by
  intro A S σ H ρ Q Q' R E h k
  refine ha A S σ H ρ _ _ R E h fun x S1 A1 vx H1 g1 R1 hx h1 => ?_
  refine hb A1 S1 σ H1 ρ _ _ R1 (E.mono g1) h1 fun y S2 A2 vy H2 g2 R2 hy h2 => ?_
  exact hr A2 S2 H2 vx vy x y Q Q' R2 (hx.mono g2) hy h2 (k.mono (g1.trans g2))
theorem snd_un {r : V → Hp → VK → Prop} {o : UD} (hr : SndU mg r o) (ha : SndE mg ta wa) : SndE mg (tUn r ta) (wUn o wa) := by
  intro A S σ H ρ Q Q' R E h k
  exact ha A S σ H ρ _ _ R E h fun x S1 A1 vx H1 g1 R1 hx h1 => hr A1 S1 H1 vx x Q Q' R1 hx h1 (k.mono g1)
theorem snd_nil : SndA mg tNil wNil := fun A S σ H ρ Q Q' R E h k => k [] S A [] H .refl R .nil h
theorem snd_cons (ha : SndE mg ta wa) (hr : SndA mg t wl) : SndA mg (tCons ta t) (wCons wa wl) := by
  intro A S σ H ρ Q Q' R E h k
  refine ha A S σ H ρ _ _ R E h fun x S1 A1 vx H1 g1 R1 hx h1 => ?_
  refine hr A1 S1 σ H1 ρ _ _ R1 (E.mono g1) h1 fun xs S2 A2 vxs H2 g2 R2 hxs h2 => ?_
  exact k (x :: xs) S2 A2 (vx :: vxs) H2 (g1.trans g2) R2 (.cons (hx.mono g2) hxs) h2
theorem snd_cb {r : List V → Hp → VK → Prop} {o : LD} (hr : SndC mg r o) (hl : SndA mg t wl) : SndE mg (tCB r t) (wCB o wl) := by
  intro A S σ H ρ Q Q' R E h k
  exact hl A S σ H ρ _ _ R E h fun xs S1 A1 vxs H1 g1 R1 hxs h1 => hr A1 S1 H1 vxs xs Q Q' R1 hxs h1 (k.mono g1)
theorem SndR.or {r' : R2} {o' : OD} (h : SndR mg r o) (h' : SndR mg r' o') : SndR mg (fun x y H Q => r x y H Q ∨ r' x y H Q) (fun x y S Q => o x y S Q ∨ o' x y S Q) := by
  intro A S H x y dx dy Q Q' R hx hy q k
  rcases q with q | q
  · exact .inl (h A S H x y dx dy Q Q' R hx hy q k)
  · exact .inr (h' A S H x y dx dy Q Q' R hx hy q k)
/-- a reading by data may be weakened -/
theorem SndR.imp {o' : OD} (h : SndR mg r o) (i : ∀ x y S Q, o' x y S Q → o x y S Q) : SndR mg r o' := fun A S H x y dx dy Q Q' R hx hy q k => h A S H x y dx dy Q Q' R hx hy (i _ _ _ _ q) k
end
/-! ### ints -/
def oI (C : Int → Int → Prop) (g : Int → Int → D) : OD := fun x y S Q => match x, y with
  | .int i, .int j => C i j ∧ Q (g i j) S
  | _, _ => False
def oI0 (g : Int → Int → D) : OD := fun x y S Q => match x, y with
  | .int i, .int j => Q (g i j) S
  | _, _ => False
def oU (g : Int → D) : UD := fun x S Q => match x with
  | .int i => Q (g i) S
  | _ => False
section
variable {mg : MG}
theorem snd_rI {C : Int → Int → Prop} {g : Int → Int → V} {g' : Int → Int → D} (hg : ∀ i j A H, Is mg A H (g i j) (g' i j)) : SndR mg (rI C g) (oI C g') := by
  intro A S H x y dx dy Q Q' R hx hy q k
  cases hx <;> cases hy <;> first | exact q.elim | skip
  exact ⟨_, _, rfl, rfl, q.1, k _ S A _ H .refl R (hg _ _ _ _) q.2⟩
theorem snd_rI0 {g : Int → Int → V} {g' : Int → Int → D} (hg : ∀ i j A H, Is mg A H (g i j) (g' i j)) : SndR mg (rI0 g) (oI0 g') := by
  intro A S H x y dx dy Q Q' R hx hy q k
  cases hx <;> cases hy <;> first | exact q.elim | skip
  exact ⟨_, _, rfl, rfl, k _ S A _ H .refl R (hg _ _ _ _) q⟩
theorem snd_rU {g : Int → V} {g' : Int → D} (hg : ∀ i A H, Is mg A H (g i) (g' i)) : SndU mg (rU g) (oU g') := by
  intro A S H x dx Q Q' R hx q k
  cases hx <;> first | exact q.elim | skip
  exact ⟨_, rfl, k _ S A _ H .refl R (hg _ _ _) q⟩
/-- // and % by any number but 0 -/
def CDivWN (_ j : Int) : Prop := j ≠ 0 ∧ j.natAbs.log2 < 9000
theorem op_fdivWN {X : Cx} : OpR X (binaryOp .FloorDiv) (rI CDivWN fun i j => .int (i.fdiv j)) := opI fun _ _ _ _ _ _ _ hc q => floordiv_int hc.1 q (.inl (PyProof.noPylong_of_log2 hc.2))
end
section
variable {X : Cx} {a b c : Expr} {ta tb tc : TE} {wa wb wc : WD} {pos : Pos}
theorem d_op {op : Operator} {r : R2} {o : OD} (ho : OpR X (binaryOp op) r) (hs : SndR X.G r o) (ha : PD X a ta wa) (hb : PD X b tb wb) : PD X (.BinOp a op b pos) (tOp r ta tb) (wOp o wa wb) := ⟨pe_op ho ha.pe hb.pe, snd_op hs ha.sd hb.sd⟩
theorem d_un {op : UnaryOp} {r : V → Hp → VK → Prop} {o : UD} (ho : UnR X (unaryOp op) r) (hs : SndU X.G r o) (ha : PD X a ta wa) : PD X (.UnaryOp op a pos) (tUn r ta) (wUn o wa) := ⟨pe_un ho ha.pe, snd_un hs ha.sd⟩
theorem d_cmp {op : CmpOp} {r : R2} {o : OD} (ho : OpR X (compareOp op) r) (hs : SndR X.G r o) (ha : PD X a ta wa) (hb : PD X b tb wb) (hm : behindInMarks op b = false) : PD X (.Compare a [op] [b] pos) (tOp r ta tb) (wOp o wa wb) :=
  ⟨pe_cmpR ho ha.pe hb.pe hm, snd_op hs ha.sd hb.sd⟩
/-- a value that is a truth value, as a test -/
def wTest (w : WD) : WB := fun ρ S Q => w ρ S fun x S1 => match x with
  | .bl k => Q k S1
  | _ => False
theorem snd_test {mg : MG} {t : TE} {w : WD} (h : SndE mg t w) : SndT mg (tTest t) (wTest w) := by
  intro A S σ H ρ Q Q' R E hw k
  refine h A S σ H ρ _ _ R E hw fun x S1 A1 vx H1 g1 R1 hx h1 => ?_
  cases hx <;> first | exact h1.elim | skip
  exact ⟨_, rfl, k _ S1 A1 H1 g1 R1 h1⟩
theorem dt_cmp {op : CmpOp} {r : R2} {o : OD} (ho : OpR X (compareOp op) r) (hs : SndR X.G r o) (ha : PD X a ta wa) (hb : PD X b tb wb) (hm : behindInMarks op b = false) : PDT X (.Compare a [op] [b] pos) (tTest (tOp r ta tb)) (wTest (wOp o wa wb)) :=
  ⟨pt_cmpR ho ha.pe hb.pe hm, snd_test (snd_op hs ha.sd hb.sd)⟩
theorem dt_val {e : Expr} {t : TE} {w : WD} (h : PD X e t w) (he : ∀ whole, isTrue e X.env whole = (do let v ← whole; standAt e.pos; holding [v] (truthy v)) := by intro _; rfl) : PDT X e (tB t) (wTest w) := ⟨pt_val h.pe he, snd_test h.sd⟩
/-- a op b op' c -/
def wChain (o o' : OD) (wa wb wc : WD) : WD := fun ρ S Q => wa ρ S fun x S1 => wb ρ S1 fun y S2 => o x y S2 fun z S3 => match z with
  | .bl k => if k = true then wc ρ S3 fun w' S4 => o' y w' S4 Q else Q (.bl false) S3
  | _ => False
theorem snd_chain {mg : MG} {r r' : R2} {o o' : OD} (hr : SndR mg r o) (hr' : SndR mg r' o') (ha : SndE mg ta wa) (hb : SndE mg tb wb) (hc : SndE mg tc wc) : SndE mg (tChain r r' ta tb tc) (wChain o o' wa wb wc) := by
  intro A S σ H ρ Q Q' R E h k
  refine ha A S σ H ρ _ _ R E h fun x S1 A1 vx H1 g1 R1 hx h1 => ?_
  refine hb A1 S1 σ H1 ρ _ _ R1 (E.mono g1) h1 fun y S2 A2 vy H2 g2 R2 hy h2 => ?_
  refine hr A2 S2 H2 vx vy x y _ _ R2 (hx.mono g2) hy h2 fun z S3 A3 vz H3 g3 R3 hz h3 => ?_
  cases hz <;> first | exact h3.elim | skip
  rename_i kb
  refine ⟨kb, rfl, ?_⟩
  cases kb with
  | false =>
    exact iteF (k _ S3 A3 _ H3 (g1.trans (g2.trans g3)) R3 (.bl false) (by simpa using h3))
  | true =>
    refine iteT ?_
    have h3 : wc ρ S3 (fun w' S4 => o' y w' S4 Q') := by simpa using h3
    refine hc A3 S3 σ H3 ρ _ _ R3 (E.mono (g1.trans (g2.trans g3))) h3 fun w' S4 A4 vw H4 g4 R4 hw h4 => ?_
    exact hr' A4 S4 H4 vy vw y w' Q Q' R4 (hy.mono (g3.trans g4)) hw h4 (k.mono (g1.trans (g2.trans (g3.trans g4))))
theorem d_chain {op op' : CmpOp} {r r' : R2} {o o' : OD} (ho : OpR X (compareOp op) r) (hs : SndR X.G r o) (ho' : OpR X (compareOp op') r') (hs' : SndR X.G r' o') (ha : PD X a ta wa) (hb : PD X b tb wb) (hc : PD X c tc wc)
    (hm : lastMarks [op, op'] [b, c] = false := by with_unfolding_all rfl) : PD X (.Compare a [op, op'] [b, c] pos) (tChain r r' ta tb tc) (wChain o o' wa wb wc) := ⟨pe_chain ho ho' ha.pe hb.pe hc.pe hm, snd_chain hs hs' ha.sd hb.sd hc.sd⟩
theorem dt_chain {op op' : CmpOp} {r r' : R2} {o o' : OD} (ho : OpR X (compareOp op) r) (hs : SndR X.G r o) (ho' : OpR X (compareOp op') r') (hs' : SndR X.G r' o') (ha : PD X a ta wa) (hb : PD X b tb wb) (hc : PD X c tc wc)
    (hm : lastMarks [op, op'] [b, c] = false := by with_unfolding_all rfl) : PDT X (.Compare a [op, op'] [b, c] pos) (tTest (tChain r r' ta tb tc)) (wTest (wChain o o' wa wb wc)) := ⟨pt_chain ho ho' ha.pe hb.pe hc.pe hm, snd_test (snd_chain hs hs' ha.sd hb.sd hc.sd)⟩
/-! ### and, or, not -/
variable {tA tB' : TT} {wA wB : WB} {rest : List Expr}
def wAnd (t u : WB) : WB := fun ρ S Q => t ρ S fun c S1 => if c = true then u ρ S1 Q else Q false S1
def wOr (t u : WB) : WB := fun ρ S Q => t ρ S fun c S1 => if c = true then Q true S1 else u ρ S1 Q
def wNot (t : WB) : WB := fun ρ S Q => t ρ S fun c S1 => Q (!c) S1
theorem dw_and1 (ha : PDT X a tA wA) : PDW X (.BoolOp .And [a] pos) tA wA := ⟨pw_and1 ha.pe, ha.sd⟩
theorem dw_or1 (ha : PDT X a tA wA) : PDW X (.BoolOp .Or [a] pos) tA wA := ⟨pw_or1 ha.pe, ha.sd⟩
theorem dw_and (ha : PDT X a tA wA) (hb : PDW X (.BoolOp .And (b :: rest) pos) tB' wB) : PDW X (.BoolOp .And (a :: b :: rest) pos) (tAnd tA tB') (wAnd wA wB) := by
  refine ⟨pw_and ha.pe hb.pe, fun A S σ H ρ Q Q' R E h k => ?_⟩
  refine ha.sd A S σ H ρ _ _ R E h fun c S1 A1 H1 g1 R1 h1 => ?_
  cases c with
  | true => exact iteT (hb.sd A1 S1 σ H1 ρ _ _ R1 (E.mono g1) (by rw [if_pos rfl] at h1; exact h1) (k.mono g1))
  | false => exact iteF (k _ S1 A1 H1 g1 R1 (by rw [if_neg Bool.false_ne_true] at h1; exact h1))
theorem dw_or (ha : PDT X a tA wA) (hb : PDW X (.BoolOp .Or (b :: rest) pos) tB' wB) : PDW X (.BoolOp .Or (a :: b :: rest) pos) (tOr tA tB') (wOr wA wB) := by
  refine ⟨pw_or ha.pe hb.pe, fun A S σ H ρ Q Q' R E h k => ?_⟩
  refine ha.sd A S σ H ρ _ _ R E h fun c S1 A1 H1 g1 R1 h1 => ?_
  cases c with
  | true => exact iteT (k _ S1 A1 H1 g1 R1 (by rw [if_pos rfl] at h1; exact h1))
  | false => exact iteF (hb.sd A1 S1 σ H1 ρ _ _ R1 (E.mono g1) (by rw [if_neg Bool.false_ne_true] at h1; exact h1) (k.mono g1))
theorem PDW.pt {e : Expr} (h : PDW X e tA wA) : PDT X e tA wA := ⟨h.pe.pt, h.sd⟩
theorem dt_not (ha : PDT X a tA wA) : PDT X (.UnaryOp .Not a pos) (tNot tA) (wNot wA) := ⟨pt_not ha.pe, fun A S σ H ρ Q Q' R E h k => ha.sd A S σ H ρ _ _ R E h fun c S1 A1 H1 g1 R1 h1 => k _ S1 A1 H1 g1 R1 h1⟩
def wAndV (wa wb : WD) : WD := fun ρ S Q => wa ρ S fun x S1 => match x with
  | .bl c => if c = true then wb ρ S1 Q else Q (.bl false) S1
  | _ => False
def wOrV (wa wb : WD) : WD := fun ρ S Q => wa ρ S fun x S1 => match x with
  | .bl c => if c = true then Q (.bl true) S1 else wb ρ S1 Q
  | _ => False
def wNotV (wa : WD) : WD := fun ρ S Q => wa ρ S fun x S1 => match x with
  | .bl c => Q (.bl (!c)) S1
  | _ => False
theorem d_one {op} {t : TE} {w : WD} (h : PD X a t w) : PD X (.BoolOp op [a] pos) t w := ⟨pe_one h.pe, h.sd⟩
theorem d_and (ha : PD X a ta wa) (hb : PD X (.BoolOp .And (b :: rest) pos) tb wb) : PD X (.BoolOp .And (a :: b :: rest) pos) (tAndV ta tb) (wAndV wa wb) := by
  refine ⟨pe_and ha.pe hb.pe, fun A S σ H ρ Q Q' R E h k => ?_⟩
  refine ha.sd A S σ H ρ _ _ R E h fun x S1 A1 vx H1 g1 R1 hx h1 => ?_
  cases hx <;> first | exact h1.elim | skip
  rename_i c
  refine ⟨c, rfl, ?_⟩
  cases c with
  | true => exact iteT (hb.sd A1 S1 σ H1 ρ _ _ R1 (E.mono g1) (by simpa using h1) (k.mono g1))
  | false => exact iteF (k _ S1 A1 _ H1 g1 R1 (.bl false) (by simpa using h1))
theorem d_or (ha : PD X a ta wa) (hb : PD X (.BoolOp .Or (b :: rest) pos) tb wb) : PD X (.BoolOp .Or (a :: b :: rest) pos) (tOrV ta tb) (wOrV wa wb) := by
  refine ⟨pe_or ha.pe hb.pe, fun A S σ H ρ Q Q' R E h k => ?_⟩
  refine ha.sd A S σ H ρ _ _ R E h fun x S1 A1 vx H1 g1 R1 hx h1 => ?_
  cases hx <;> first | exact h1.elim | skip
  rename_i c
  refine ⟨c, rfl, ?_⟩
  cases c with
  | true => exact iteT (k _ S1 A1 _ H1 g1 R1 (.bl true) (by simpa using h1))
  | false => exact iteF (hb.sd A1 S1 σ H1 ρ _ _ R1 (E.mono g1) (by simpa using h1) (k.mono g1))
theorem d_not (ha : PD X a ta wa) : PD X (.UnaryOp .Not a pos) (tNotV ta) (wNotV wa) := by
  refine ⟨pe_not ha.pe, fun A S σ H ρ Q Q' R E h k => ?_⟩
  refine ha.sd A S σ H ρ _ _ R E h fun x S1 A1 vx H1 g1 R1 hx h1 => ?_
  cases hx <;> first | exact h1.elim | skip
  exact ⟨_, rfl, k _ S1 A1 _ H1 g1 R1 (.bl _) h1⟩
def wIf (t : WB) (wa wb : WD) : WD := fun ρ S Q => t ρ S fun c S1 => if c = true then wa ρ S1 Q else wb ρ S1 Q
theorem d_if {c : Expr} (hc : PDT X c tA wA) (ha : PD X a ta wa) (hb : PD X b tb wb) : PD X (.IfExp c a b pos) (tIf tA ta tb) (wIf wA wa wb) := by
  refine ⟨pe_ifExp hc.pe ha.pe hb.pe, fun A S σ H ρ Q Q' R E h k => ?_⟩
  refine hc.sd A S σ H ρ _ _ R E h fun c S1 A1 H1 g1 R1 h1 => ?_
  cases c with
  | true => exact iteT (ha.sd A1 S1 σ H1 ρ _ _ R1 (E.mono g1) (by rw [if_pos rfl] at h1; exact h1) (k.mono g1))
  | false => exact iteF (hb.sd A1 S1 σ H1 ρ _ _ R1 (E.mono g1) (by rw [if_neg Bool.false_ne_true] at h1; exact h1) (k.mono g1))
end
/-! ### displays -/
section
variable {X : Cx} {e : Expr} {es : List Expr} {te : TE} {we : WD} {t : TA} {wl : WL} {pos : Pos}
theorem da_nil : PDA X [] tNil wNil := ⟨pa_nil, snd_nil⟩
theorem da_cons (ha : PD X e te we) (hr : PDA X es t wl) (hs : starEach (e :: es) X.env = (false, eval e X.env) :: starEach es X.env := by rfl) : PDA X (e :: es) (tCons te t) (wCons we wl) := ⟨pa_cons ha.pe hr.pe hs, snd_cons ha.sd hr.sd⟩
def wTup (wl : WL) : WD := fun ρ S Q => wl ρ S fun xs S1 => xs.length ≤ sizeLine ∧ Q (.tup xs) S1
def wLst (wl : WL) : WD := fun ρ S Q => wl ρ S fun xs S1 => xs.length ≤ sizeLine ∧ Q (.lst xs) S1
/-- a list that may change -/
def wLstM (wl : WL) : WD := fun ρ S Q => wl ρ S fun xs S1 => xs.length ≤ sizeLine ∧ Q (.mut S1.length) (S1 ++ [xs])
theorem d_tup {x1} (h : PDA X es t wl) : PD X (.Tuple es x1 pos) (tTup t) (wTup wl) := by
  refine ⟨pe_tup h.pe, fun A S σ H ρ Q Q' R E hw k => ?_⟩
  refine h.sd A S σ H ρ _ _ R E hw fun xs S1 A1 vxs H1 g1 R1 hxs h1 => ⟨by rw [hxs.length]; exact h1.1, fun p hp => ?_⟩
  have g := grow_new (o := .tup vxs) R1 hp
  exact k _ S1 A1 _ _ (g1.trans g) (R1.new hp) (.tup (R1.fresh hp) (.inl upd_same) (hxs.mono g)) h1.2
theorem d_lst (h : PDA X es t wl) : PD X (.List es pos) (tLst t) (wLst wl) := by
  refine ⟨pe_lst h.pe, fun A S σ H ρ Q Q' R E hw k => ?_⟩
  refine h.sd A S σ H ρ _ _ R E hw fun xs S1 A1 vxs H1 g1 R1 hxs h1 => ⟨by rw [hxs.length]; exact h1.1, fun p hp => ?_⟩
  have g := grow_new (o := .lst vxs) R1 hp
  exact k _ S1 A1 _ _ (g1.trans g) (R1.new hp) (.lst (R1.fresh hp) upd_same (hxs.mono g)) h1.2
theorem d_lstM (h : PDA X es t wl) : PD X (.List es pos) (tLst t) (wLstM wl) := by
  refine ⟨pe_lst h.pe, fun A S σ H ρ Q Q' R E hw k => ?_⟩
  refine h.sd A S σ H ρ _ _ R E hw fun xs S1 A1 vxs H1 g1 R1 hxs h1 => ⟨by rw [hxs.length]; exact h1.1, fun p hp => ?_⟩
  refine k _ _ (A1 ++ [p]) _ _ (g1.trans (grow_mut R1 hp)) (R1.newMut hp hxs) (.mut ?_) h1.2
  rw [← R1.len, List.getElem?_append_right (Nat.le_refl _), Nat.sub_self]
  rfl
end
end DL

set_option Elab.async false
set_option linter.all false
set_option maxRecDepth 100000
/-! Rules: subscripts, targets, statements, loops, comprehensions, calls. -/
namespace DL
open PySem PySem.Spec PyProof.Rows L2
/-! ### subscripts -/
def oIx : OD := fun x y S Q => match x, y with
  | .lst ds, .int i => match atI ds i with | some d => Q d S | none => False
  | .scr ds, .int i => match atI ds i with | some d => Q d S | none => False
  | .tup ds, .int i => match atI ds i with | some d => Q d S | none => False
  | .mut m, .int i => match S[m]? with | some ds => (match atI ds i with | some d => Q d S | none => False) | none => False
  | .str z, .int i => z.length ≤ sizeLine ∧ ∃ c, atI z.cps.toList i = some c ∧ Q (.str ⟨#[c]⟩) S
  | _, _ => False
section
variable {mg : MG} {A : List Addr} {S : MS} {H : Hp}
theorem IsL.atI {vs : List V} {ds : List D} {i : Int} {d : D} (l : IsL mg A H vs ds) (e : L2.atI ds i = some d) : ∃ v, L2.atI vs i = some v ∧ Is mg A H v d := by
  unfold L2.atI at e ⊢
  rw [l.length]
  cases q : ixN ds.length i with
  | none => rw [q] at e; cases e
  | some j =>
    rw [q] at e
    exact l.get e
theorem snd_ix : SndR mg (rIx mg.K) oIx := by
  intro A S H x y dx dy Q Q' R hx hy q k
  cases hy with
  | int i =>
    cases hx with
    | str z =>
      obtain ⟨hz, c, e, q⟩ := q
      exact .inr (.inr ⟨_, _, c, rfl, rfl, hz, e, k _ S A _ H .refl R (.str _) q⟩)
    | @tup a vs ds n r l =>
      unfold oIx at q
      dsimp only at q
      split at q
      · rename_i d e
        obtain ⟨v, e', hv⟩ := l.atI e
        exact .inr (.inl ⟨a, vs, i, v, rfl, rfl, .inl r, e', k d S A v H .refl R hv q⟩)
      · exact q.elim
    | @lst a vs ds n r l =>
      unfold oIx at q
      dsimp only at q
      split at q
      · rename_i d e
        obtain ⟨v, e', hv⟩ := l.atI e
        exact .inl ⟨a, vs, i, v, rfl, rfl, .of r, e', k d S A v H .refl R hv q⟩
      · exact q.elim
    | @scr a vs ds n r l =>
      unfold oIx at q
      dsimp only at q
      split at q
      · rename_i d e
        obtain ⟨v, e', hv⟩ := l.atI e
        exact .inl ⟨a, vs, i, v, rfl, rfl, .inl r, e', k d S A v H .refl R hv q⟩
      · exact q.elim
    | @scrK a vs ds r l =>
      unfold oIx at q
      dsimp only at q
      split at q
      · rename_i d e
        obtain ⟨v, e', hv⟩ := l.atI e
        exact .inl ⟨a, vs, i, v, rfl, rfl, r H, e', k d S A v H .refl R hv q⟩
      · exact q.elim
    | @«mut» a m ea =>
      unfold oIx at q
      dsimp only at q
      split at q
      · rename_i ds es
        split at q
        · rename_i d e
          obtain ⟨vs, h1, l⟩ := R.at_ m a ds ea es
          obtain ⟨v, e', hv⟩ := l.atI e
          exact .inl ⟨a, vs, i, v, rfl, rfl, .of h1, e', k d S A v H .refl R hv q⟩
        · exact q.elim
      · exact q.elim
    | _ => exact q.elim
  | _ => cases hx <;> exact q.elim
end
theorem d_ix {X : Cx} {a b : Expr} {ta tb : TE} {wa wb : WD} {pos : Pos} (ha : PD X a ta wa) (hb : PD X b tb wb) (hs : PlainIx b := by intro _ _; rfl) : PD X (.Subscript a b pos) (tOp (rIx X.G.K) ta tb) (wOp oIx wa wb) := ⟨pe_ix ix_seq ha.pe hb.pe hs, snd_op snd_ix ha.sd hb.sd⟩

/-! ### targets -/
abbrev WG := D → DEnv → MS → (DEnv → MS → Prop) → Prop
abbrev WGs := List D → DEnv → MS → (DEnv → MS → Prop) → Prop
def SndG (mg : MG) (g : TG) (w : WG) : Prop := ∀ A S σ H ρ v d Q Q', Rep mg A S H → EnvD mg A H σ ρ → Is mg A H v d → w d ρ S Q' → EndN mg A H Q Q' → g v σ H Q
def SndGs (mg : MG) (g : TGs) (w : WGs) : Prop := ∀ A S σ H ρ vs ds Q Q', Rep mg A S H → EnvD mg A H σ ρ → IsL mg A H vs ds → w ds ρ S Q' → EndN mg A H Q Q' → g vs σ H Q
structure PDG (X : Cx) (e : Expr) (t : TG) (w : WG) : Prop where
  pe : PG X e t
  sd : SndG X.G t w
structure PDGs (X : Cx) (es : List Expr) (t : TGs) (w : WGs) : Prop where
  pe : PGs X es t
  sd : SndGs X.G t w
def gwName (i : Nat) : WG := fun d ρ S Q => Q (ρ.set i (some d)) S
def gwNil : WGs := fun ds ρ S Q => match ds with
  | [] => Q ρ S
  | _ => False
def gwCons (w : WG) (r : WGs) : WGs := fun ds ρ S Q => match ds with
  | d :: ds => w d ρ S fun ρ1 S1 => r ds ρ1 S1 Q
  | [] => False
def gwTup (n : Nat) (ws : WGs) : WG := fun d ρ S Q => match d with
  | .tup ds => ds.length = n ∧ ws ds ρ S Q
  | _ => False
def gwSub (wo wi : WD) : WG := fun d ρ S Q => wo ρ S fun o S1 => wi ρ S1 fun i S2 => match o, i with
  | .mut m, .int k => ∃ ds j, S2[m]? = some ds ∧ ixN ds.length k = some j ∧ Q ρ (S2.set m (ds.set j d))
  | _, _ => False
section
variable {X : Cx} {pos : Pos}
theorem sndg_name {mg : MG} {i : Nat} : SndG mg (gName i) (gwName i) := fun A S σ H ρ v d Q Q' R E hv q k => k _ S A _ H .refl R (E.set i hv) q
theorem dg_name {i : Nat} {x : Str} (hN : X.N.Nodup) (hi : X.N[i]? = some x := by rfl) (hx : Loc X.env.scope x := by first | exact Or.inl rfl | exact Or.inr rfl) (hf : X.fn x = true ∨ X.env.scope.names.lookup x = some .local := by first | exact .inl rfl | exact .inr rfl) : PDG X (.Name x pos) (gName i) (gwName i) :=
  ⟨pg_name hN hi hx hf, sndg_name⟩
theorem dgs_nil : PDGs X [] gNil gwNil := ⟨pgs_nil, fun A S σ H ρ vs ds Q Q' R E hv q k => by
  cases hv with
  | nil => exact ⟨rfl, k _ S A _ H .refl R E q⟩
  | cons _ _ => exact q.elim⟩
theorem dgs_cons {e : Expr} {es : List Expr} {t : TG} {u : TGs} {w : WG} {ws : WGs} (h1 : PDG X e t w) (h2 : PDGs X es u ws)
    (hs : (assignEach (e :: es) X.env).map (·.2) = assign e X.env :: (assignEach es X.env).map (·.2) := by rfl) : PDGs X (e :: es) (gCons t u) (gwCons w ws) := by
  refine ⟨pgs_cons h1.pe h2.pe hs, fun A S σ H ρ vs ds Q Q' R E hv q k => ?_⟩
  cases hv with
  | nil => exact q.elim
  | cons hv tv =>
    refine ⟨_, _, rfl, h1.sd A S σ H ρ _ _ _ _ R E hv q fun ρ1 S1 A1 σ1 H1 g1 R1 E1 q1 => ?_⟩
    exact h2.sd A1 S1 σ1 H1 ρ1 _ _ _ _ R1 E1 (tv.mono g1) q1 (k.mono g1)
theorem dg_tup {es : List Expr} {n0 : Nat} {t : TGs} {ws : WGs} {n : Nat} (hc : X.calm = true) (h : PDGs X es t ws)
    (hn : (assignEach es X.env).length = n := by rfl) (hst : (assignEach es X.env).findIdx? (·.1) = none := by rfl) : PDG X (.Tuple es n0 pos) (gTup X.K n t) (gwTup n ws) := by
  refine ⟨pg_tup hc h.pe hn hst, fun A S σ H ρ v d Q Q' R E hv q k => ?_⟩
  cases hv <;> first | exact q.elim | skip
  rename_i a vs ds na r l
  exact ⟨a, vs, rfl, .inl r, by rw [l.length]; exact q.1, h.sd A S σ H ρ _ _ _ _ R E l q.2 k⟩
theorem dg_sub {o i : Expr} {to ti : TE} {wo wi : WD} (ho : PD X o to wo) (hi : PD X i ti wi)
    (ha : ∀ v, assign (.Subscript o i pos) X.env v = (do
      let ov ← holding [v] (eval o X.env)
      let iv ← holding [v, ov] (eval i X.env)
      standAt pos
      holding [v, ov, iv] (setItem ov iv v)
      release [v, ov, iv] []) := by intro _; rfl) : PDG X (.Subscript o i pos) (gSub to ti rSetL) (gwSub wo wi) := by
  refine ⟨pg_sub ho.pe hi.pe set_list ha, fun A S σ H ρ v d Q Q' R E hv q k => ?_⟩
  refine ho.sd A S σ H ρ _ _ R E q fun o S1 A1 vo H1 g1 R1 hoo q1 => ?_
  refine hi.sd A1 S1 σ H1 ρ _ _ R1 (E.mono g1) q1 fun i S2 A2 vi H2 g2 R2 hi2 q2 => ?_
  have ho2 := hoo.mono g2
  cases ho2 <;> cases hi2 <;> first | exact q2.elim | skip
  rename_i a m ea i
  obtain ⟨ds, j, e1, e2, q2⟩ := q2
  obtain ⟨vs, h1, l⟩ := R2.at_ m a ds ea e1
  have l2 : IsL X.G A2 H2 (vs.set j v) (ds.set j d) := l.set (hv.mono (g1.trans g2)) j
  refine ⟨a, vs, i, j, rfl, rfl, h1, by rw [l.length]; exact e2, ?_⟩
  have g3 : Grow A A2 H (upd H2 a (.lst (vs.set j v))) := (g1.trans g2).trans (grow_write ea)
  exact k ρ _ A2 σ _ g3 (R2.write ea l2) (E.mono g3) q2
end

/-! ### statements -/
def sNext : WS := fun DD ρ S => DD.nx ρ S
def sSeq (t u : WS) : WS := fun DD ρ S => t { DD with nx := u DD } ρ S
def sBreak : WS := fun DD ρ S => DD.bk ρ S
def sCont : WS := fun DD ρ S => DD.ct ρ S
def sDrop (w : WD) : WS := fun DD ρ S => w ρ S fun _ S1 => DD.nx ρ S1
def sRet (w : WD) : WS := fun DD ρ S => w ρ S DD.rt
def sRetN : WS := fun DD _ S => DD.rt .non S
def sIf (c : WB) (t u : WS) : WS := fun DD ρ S => c ρ S fun b S1 => if b = true then t DD ρ S1 else u DD ρ S1
def sNever : WS := fun _ _ _ => False
def sAsg (w : WD) (g : WG) : WS := fun DD ρ S => w ρ S fun x S1 => g x ρ S1 DD.nx
def sPar (i j : Nat) (wl : WL) : WS := fun DD ρ S => wl ρ S fun ds S1 => match ds with
  | [d, e] => DD.nx ((ρ.set i (some d)).set j (some e)) S1
  | _ => False
def sWhile (c : WB) (b : WS) : WS := fun DD ρ S => ∃ W : Nat → DEnv → MS → Prop, (∃ m, W m ρ S) ∧ ∀ m ρ S, W m ρ S →
  c ρ S fun bl S1 => if bl = true then b { DD with nx := fun ρ' S' => ∃ m', m' < m ∧ W m' ρ' S', ct := fun ρ' S' => ∃ m', m' < m ∧ W m' ρ' S', bk := DD.nx } ρ S1 else DD.nx ρ S1
section
variable {X : Cx} {st : Stmt} {rest : List Stmt} {t u : TS} {w w' : WS} {e : Expr} {te : TE} {we : WD} {pos : Pos}
theorem dss_nil : PDSs X [] tNext sNext := ⟨pss_nil, fun A S σ H ρ D D' R E h k => k.nx ρ S A σ H .refl R E h⟩
theorem dss_cons (h1 : PDS X st t w) (h2 : PDSs X rest u w') : PDSs X (st :: rest) (tSeq t u) (sSeq w w') := by
  refine ⟨pss_cons h1.pe h2.pe, fun A S σ H ρ D D' R E h k => ?_⟩
  refine h1.sd A S σ H ρ _ _ R E h ⟨fun ρ1 S1 A1 σ1 H1 g1 R1 E1 q1 => ?_, k.rt, k.bk, k.ct⟩
  exact h2.sd A1 S1 σ1 H1 ρ1 D D' R1 E1 q1 (k.mono g1)
theorem dss_one (h1 : PDS X st t w) : PDSs X [st] t w := ⟨pss_one h1.pe, h1.sd⟩
theorem ds_pass : PDS X (.Pass pos) tNext sNext := ⟨ps_pass, fun A S σ H ρ D D' R E h k => k.nx ρ S A σ H .refl R E h⟩
theorem ds_break : PDS X (.Break pos) tBreak sBreak := ⟨ps_break, fun A S σ H ρ D D' R E h k => k.bk ρ S A σ H .refl R E h⟩
theorem ds_cont : PDS X (.Continue pos) tCont sCont := ⟨ps_continue, fun A S σ H ρ D D' R E h k => k.ct ρ S A σ H .refl R E h⟩
theorem ds_expr (he : PD X e te we) (hs : swapsWith e none pos.line X.env = pure false := by rfl) : PDS X (.Expr e pos) (tDrop te) (sDrop we) :=
  ⟨ps_expr he.pe hs, fun A S σ H ρ D D' R E h k => he.sd A S σ H ρ _ _ R E h fun d S1 A1 v H1 g1 R1 _ q1 => k.nx ρ S1 A1 σ H1 g1 R1 (E.mono g1) q1⟩
theorem ds_ret (he : PD X e te we) : PDS X (.Return (some e) pos) (tRet te) (sRet we) := ⟨ps_ret he.pe, fun A S σ H ρ D D' R E h k => he.sd A S σ H ρ _ _ R E h k.rt⟩
theorem ds_retN : PDS X (.Return none pos) tRetN sRetN := ⟨ps_retN, fun A S σ H ρ D D' R E h k => k.rt .non S A .non H .refl R .non h⟩
theorem ds_if {c : Expr} {a b : List Stmt} {tc : TT} {wc : WB} (hc : PDT X c tc wc) (ha : PDSs X a t w) (hb : PDSs X b u w') : PDS X (.If c a b pos) (tIfS tc t u) (sIf wc w w') := by
  refine ⟨ps_if hc.pe ha.pe hb.pe, fun A S σ H ρ D D' R E h k => ?_⟩
  refine hc.sd A S σ H ρ _ _ R E h fun b S1 A1 H1 g1 R1 q1 => ?_
  cases b with
  | true => exact iteT (ha.sd A1 S1 σ H1 ρ D D' R1 (E.mono g1) (by rw [if_pos rfl] at q1; exact q1) (k.mono g1))
  | false => exact iteF (hb.sd A1 S1 σ H1 ρ D D' R1 (E.mono g1) (by rw [if_neg Bool.false_ne_true] at q1; exact q1) (k.mono g1))
theorem ds_never : PDS X st tNever sNever := ⟨ps_never, fun _ _ _ _ _ _ _ _ _ h _ => h.elim⟩
theorem dss_never {sts : List Stmt} : PDSs X sts tNever sNever := ⟨pss_never, fun _ _ _ _ _ _ _ _ _ h _ => h.elim⟩
theorem ds_asg {tg : Expr} {g : TG} {wg : WG} (he : PD X e te we) (hg : PDG X tg g wg) (hs : swapsWithSole [tg] e pos.line X.env = pure false := by rfl) (hw : swappedStores [tg] e X.env = pure none := by rfl)
    (h1 : (assignEach [tg] X.env).map (·.2) = [assign tg X.env] := by rfl) : PDS X (.Assign [tg] e pos) (tAsg te g) (sAsg we wg) := by
  refine ⟨ps_asg he.pe hg.pe hs hw h1, fun A S σ H ρ D D' R E h k => ?_⟩
  exact he.sd A S σ H ρ _ _ R E h fun d S1 A1 v H1 g1 R1 hv q1 => hg.sd A1 S1 σ H1 ρ v d _ _ R1 (E.mono g1) hv q1 (k.nx.mono g1)
theorem ds_set {i : Nat} {x : Str} {pos' : Pos} (hN : X.N.Nodup) (he : PD X e te we) (hi : X.N[i]? = some x := by rfl) (hx : Loc X.env.scope x := by first | exact Or.inl rfl | exact Or.inr rfl) (hs : swapsWith e (some (.Name x pos')) pos.line X.env = pure false := by rfl) (hf : X.fn x = true ∨ X.env.scope.names.lookup x = some .local := by first | exact .inl rfl | exact .inr rfl) :
    PDS X (.Assign [.Name x pos'] e pos) (tAsg te (gName i)) (sAsg we (gwName i)) := by
  refine ⟨ps_set hN hi hx he.pe hs hf, fun A S σ H ρ D D' R E h k => ?_⟩
  exact he.sd A S σ H ρ _ _ R E h fun d S1 A1 v H1 g1 R1 hv q1 => sndg_name A1 S1 σ H1 ρ v d _ _ R1 (E.mono g1) hv q1 (k.nx.mono g1)
theorem ds_par {i j : Nat} {x y : Str} {a b : Expr} {ta : TA} {wa : WL} {px py pt : Pos} {kt k2 pt2} (hc : X.calm = true) (hN : X.N.Nodup) (ha : PDA X [a, b] ta wa) (hi : X.N[i]? = some x := by rfl) (hj : X.N[j]? = some y := by rfl) (hij : i ≠ j := by decide)
    (hx : X.env.scope.names.lookup x = some .local := by rfl) (hy : X.env.scope.names.lookup y = some .local := by rfl)
    (hw : swappedStores [.Tuple [.Name x px, .Name y py] kt pt] (.Tuple [a, b] k2 pt2) X.env = pure (some [x, y]) := by rfl)
    (hs : swapsWithSole [.Tuple [.Name x px, .Name y py] kt pt] (.Tuple [a, b] k2 pt2) pos.line X.env = pure false := by rfl) :
    PDS X (.Assign [.Tuple [.Name x px, .Name y py] kt pt] (.Tuple [a, b] k2 pt2) pos) (tPar i j ta) (sPar i j wa) := by
  refine ⟨ps_par hc hN hi hj hij hx hy ha.pe hw hs, fun A S σ H ρ D D' R E h k => ?_⟩
  refine ha.sd A S σ H ρ _ _ R E h fun ds S1 A1 vs H1 g1 R1 hv q1 => ?_
  cases hv with
  | nil => exact q1.elim
  | cons h1 tv =>
    cases tv with
    | nil => exact q1.elim
    | cons h2 tv2 =>
      cases tv2 with
      | cons _ _ => exact q1.elim
      | nil => exact ⟨_, _, rfl, k.nx _ S1 A1 _ H1 g1 R1 (((E.mono g1).set i h1).set j h2) q1⟩
theorem ds_while {c : Expr} {body : List Stmt} {tc : TT} {tb : TS} {wc : WB} {wb : WS} (hp : PassesOwn (model X.prog X.w) X.A X.env X.xe) (hc : PDT X c tc wc) (hb : PDSs X body tb wb) : PDS X (.While c body [] pos) (tWhile tc tb) (sWhile wc wb) := by
  refine ⟨ps_while hp hc.pe hb.pe, fun A S σ H ρ D D' R E h k => ?_⟩
  obtain ⟨W, ⟨m0, w0⟩, turn⟩ := h
  refine ⟨fun m σ1 H1 => ∃ A1 S1 ρ1, Grow A A1 H H1 ∧ Rep X.G A1 S1 H1 ∧ EnvD X.G A1 H1 σ1 ρ1 ∧ W m ρ1 S1, ⟨m0, A, S, ρ, .refl, R, E, w0⟩, ?_⟩
  rintro m σ1 H1 ⟨A1, S1, ρ1, g1, R1, E1, w1⟩
  refine hc.sd A1 S1 σ1 H1 ρ1 _ _ R1 E1 (turn m ρ1 S1 w1) fun b S2 A2 H2 g2 R2 q2 => ?_
  cases b with
  | false => exact iteF (k.nx ρ1 S2 A2 σ1 H2 (g1.trans g2) R2 (E1.mono g2) (by simpa using q2))
  | true =>
    refine iteT ⟨fun σ' H' => ∃ m', m' < m ∧ ∃ A1 S1 ρ1, Grow A A1 H H' ∧ Rep X.G A1 S1 H' ∧ EnvD X.G A1 H' σ' ρ1 ∧ W m' ρ1 S1, fun σ' H' z => z, ?_⟩
    have q2 := (if_pos rfl).mp q2
    have nx : EndN X.G A2 H2 (fun σ' H' => ∃ m', m' < m ∧ ∃ A1 S1 ρ1, Grow A A1 H H' ∧ Rep X.G A1 S1 H' ∧ EnvD X.G A1 H' σ' ρ1 ∧ W m' ρ1 S1) (fun ρ' S' => ∃ m', m' < m ∧ W m' ρ' S') :=
      fun ρ' S' A' σ' H' g' R' E' ⟨m', l, z⟩ => ⟨m', l, A', S', ρ', (g1.trans g2).trans g', R', E', z⟩
    exact hb.sd A2 S2 σ1 H2 ρ1 _ _ R2 (E1.mono g2) q2 ⟨nx, k.rt.mono (g1.trans g2), k.nx.mono (g1.trans g2), nx⟩
end
end DL

set_option Elab.async false
set_option linter.all false
set_option maxRecDepth 100000
/-! Rules: for, comprehensions, calls. -/
namespace DL
open PySem PySem.Spec PyProof.Rows L2
/-! ### for -/
def forD : List D → (D → DEnv → MS → (DEnv → MS → Prop) → Prop) → (DEnv → MS → Prop) → DEnv → MS → Prop
  | [], _, fin, ρ, S => fin ρ S
  | d :: ds, step, fin, ρ, S => step d ρ S fun ρ' S' => forD ds step fin ρ' S'
/-- over the i-th list that may change: it stays as it is -/
def forM (m : Nat) (all : List D) : List D → (D → DEnv → MS → (DEnv → MS → Prop) → Prop) → (DEnv → MS → Prop) → DEnv → MS → Prop
  | [], _, fin, ρ, S => S[m]? = some all ∧ fin ρ S
  | d :: ds, step, fin, ρ, S => S[m]? = some all ∧ step d ρ S fun ρ' S' => forM m all ds step fin ρ' S'
def forStep (wg : WG) (wb : WS) (DD : DEnds) : D → DEnv → MS → (DEnv → MS → Prop) → Prop := fun d ρ S nx => wg d ρ S fun ρ1 S1 => wb { DD with nx := nx, ct := nx, bk := DD.nx } ρ1 S1
def sFor (wi : WD) (wg : WG) (wb : WS) : WS := fun DD ρ S => wi ρ S fun d S1 => match d with
  | .lst ds => forD ds (forStep wg wb DD) DD.nx ρ S1
  | .scr ds => forD ds (forStep wg wb DD) DD.nx ρ S1
  | .mut m => ∃ ds, S1[m]? = some ds ∧ forM m ds ds (forStep wg wb DD) DD.nx ρ S1
  | _ => False
def rangeD (lo : Int) (n : Nat) : List D := (List.range n).map fun i : Nat => .int (lo + i)
def sForR (wi : WL) (wg : WG) (wb : WS) : WS := fun DD ρ S => wi ρ S fun ds S1 => match ds with
  | [.int j] => (-(2 ^ 62) ≤ j ∧ j < 2 ^ 62) ∧ forD (rangeD 0 j.toNat) (forStep wg wb DD) DD.nx ρ S1
  | _ => False
section
variable {X : Cx} {pos : Pos} {iter : Expr} {body : List Stmt} {tg : Expr} {g : TG} {wg : WG} {tb : TS} {wb : WS}
theorem ds_for {ti : TE} {wi : WD} (hp : PassesOwn (model X.prog X.w) X.A X.env X.xe) (hc : X.calm = true) (hi : PD X iter ti wi) (hg : PDG X tg g wg) (hb : PDSs X body tb wb)
    (hs : ∀ x, foldedSetIterable iter X.env x = pure x := by intro _; rfl) : PDS X (.For tg iter body [] pos) (tFor (iList X.K ti) g tb) (sFor wi wg wb) := by
  refine ⟨ps_for hp hc (pi_list hi.pe) hg.pe hb.pe hs, fun A S σ H ρ D D' R E h k => ?_⟩
  refine hi.sd A S σ H ρ _ _ R E h fun d S1 A1 v H1 g1 R1 hv q1 => ?_
  have seqC : ∀ (a : Addr) (vs : List V) (ds : List DL.D), v = .ref a → (∀ A2 H2, Grow A1 A2 H1 H2 → SqL X.K H2 a vs) → IsL X.G A1 H1 vs ds → forD ds (forStep wg wb D') D'.nx ρ S1 → (∃ a', v = .ref a' ∧ (∃ xs, SqL X.K H1 a' xs) ∧ ∃ W : Nat → Nat → L2.St → Hp → Prop, (∃ m, W 0 m σ H1) ∧ ∀ i m σ H, W i m σ H →
      ((Itl X.K a').stop i H ∧ D.nx σ H) ∨ ((Itl X.K a').go i H ∧ ∃ N : L2.St → Hp → Prop, (∀ σ' H', N σ' H' → ∃ m', m' < m ∧ W (i + 1) m' σ' H') ∧ ∀ x H', (Itl X.K a').yld i H x H' → g x σ H' fun σ2 H2 => tb { D with nx := N, ct := N, bk := D.nx } σ2 H2)) := by
    intro a vs ds ev sq l q1
    refine ⟨a, ev, ⟨vs, sq _ _ .refl⟩, for_list (K := X.K) (a := a) (xs := vs) (fun i σ2 H2 => ∃ A2 S2 ρ2, Grow A1 A2 H1 H2 ∧ Rep X.G A2 S2 H2 ∧ EnvD X.G A2 H2 σ2 ρ2 ∧ forD (ds.drop i) (forStep wg wb D') D'.nx ρ2 S2)
      ⟨A1, S1, ρ, .refl, R1, E.mono g1, q1⟩ (fun i σ2 H2 hi ⟨A2, S2, ρ2, g2, _⟩ => sq _ _ g2) ?_ ?_⟩
    · rintro i x σ2 H2 hx ⟨A2, S2, ρ2, g2, R2, E2, q2⟩
      obtain ⟨d, hd, hxd⟩ := l.getV hx
      have hdrop : ds.drop i = d :: ds.drop (i + 1) := by
        obtain ⟨hl, e⟩ := List.getElem?_eq_some_iff.mp hd
        rw [List.drop_eq_getElem_cons hl, e]
      rw [hdrop] at q2
      refine hg.sd A2 S2 σ2 H2 ρ2 x d _ _ R2 E2 (hxd.mono g2) q2 fun ρ3 S3 A3 σ3 H3 g3 R3 E3 q3 => ?_
      have nx : EndN X.G A3 H3 (fun σ2 H2 => ∃ A2 S2 ρ2, Grow A1 A2 H1 H2 ∧ Rep X.G A2 S2 H2 ∧ EnvD X.G A2 H2 σ2 ρ2 ∧ forD (ds.drop (i + 1)) (forStep wg wb D') D'.nx ρ2 S2) (fun ρ' S' => forD (ds.drop (i + 1)) (forStep wg wb D') D'.nx ρ' S') :=
        fun ρ' S' A' σ' H' g' R' E' z => ⟨A', S', ρ', (g2.trans g3).trans g', R', E', z⟩
      have kk := k.mono (g1.trans (g2.trans g3))
      exact hb.sd A3 S3 σ3 H3 ρ3 _ _ R3 E3 q3 ⟨nx, kk.rt, kk.nx, nx⟩
    · rintro σ2 H2 ⟨A2, S2, ρ2, g2, R2, E2, q2⟩
      rw [l.length, List.drop_length] at q2
      exact k.nx ρ2 S2 A2 σ2 H2 (g1.trans g2) R2 E2 q2
  cases hv with
  | @lst a vs ds na r l => exact seqC a vs ds rfl (fun A2 H2 g => .of (g.keep _ _ na r).1) l q1
  | @scr a vs ds na r l => exact seqC a vs ds rfl (fun A2 H2 g => .inl (g.rd na r).2) l q1
  | @scrK a vs ds r l => exact seqC a vs ds rfl (fun A2 H2 g => r H2) l q1
  | @«mut» a m ea =>
    obtain ⟨ds, es, q1⟩ := q1
    obtain ⟨vs, h1, l⟩ := R1.at_ m a ds ea es
    have stay : ∀ {A2 S2 H2}, Grow A1 A2 H1 H2 → Rep X.G A2 S2 H2 → S2[m]? = some ds → ∃ vs2, H2 a = some (.lst vs2) ∧ IsL X.G A2 H2 vs2 ds := fun g2 R2 e2 => R2.at_ m a ds (g2.pre _ _ ea) e2
    have hd0 : ∀ i ρ2 S2, forM m ds (ds.drop i) (forStep wg wb D') D'.nx ρ2 S2 → S2[m]? = some ds := by
      intro i ρ2 S2 q
      cases hq : ds.drop i with
      | nil => rw [hq] at q; exact q.1
      | cons _ _ => rw [hq] at q; exact q.1
    refine ⟨a, rfl, ⟨vs, .of h1⟩, ⟨fun i mm σ2 H2 => mm = ds.length - i ∧ i ≤ ds.length ∧ ∃ A2 S2 ρ2, Grow A1 A2 H1 H2 ∧ Rep X.G A2 S2 H2 ∧ EnvD X.G A2 H2 σ2 ρ2 ∧ forM m ds (ds.drop i) (forStep wg wb D') D'.nx ρ2 S2, ⟨ds.length, by simp, Nat.zero_le _, A1, S1, ρ, .refl, R1, E.mono g1, q1⟩, ?_⟩⟩
    rintro i mm σ2 H2 ⟨rfl, hle, A2, S2, ρ2, g2, R2, E2, q2⟩
    obtain ⟨vs2, h2, l2⟩ := stay g2 R2 (hd0 i ρ2 S2 q2)
    by_cases hlt : i < ds.length
    · have hdrop : ds.drop i = ds[i] :: ds.drop (i + 1) := List.drop_eq_getElem_cons hlt
      rw [hdrop] at q2
      have hlt2 : i < vs2.length := by rw [l2.length]; exact hlt
      refine .inr ⟨⟨vs2, vs2[i], .of h2, by simp [hlt2]⟩, fun σ' H' => ∃ A2 S2 ρ2, Grow A1 A2 H1 H' ∧ Rep X.G A2 S2 H' ∧ EnvD X.G A2 H' σ' ρ2 ∧ forM m ds (ds.drop (i + 1)) (forStep wg wb D') D'.nx ρ2 S2, fun σ' H' z => ⟨ds.length - (i + 1), by omega, rfl, hlt, z⟩, fun x H' y => ?_⟩
      obtain ⟨rfl, y⟩ := y
      have hx : vs2[i]? = some x := y vs2 (.of h2)
      obtain ⟨d, hd, hxd⟩ := l2.getV hx
      have ed : d = ds[i] := by rw [List.getElem?_eq_getElem hlt] at hd; exact (Option.some.inj hd).symm
      subst ed
      refine hg.sd A2 S2 σ2 H' ρ2 x _ _ _ R2 E2 hxd q2.2 fun ρ3 S3 A3 σ3 H3 g3 R3 E3 q3 => ?_
      have nx : EndN X.G A3 H3 (fun σ2 H2 => ∃ A2 S2 ρ2, Grow A1 A2 H1 H2 ∧ Rep X.G A2 S2 H2 ∧ EnvD X.G A2 H2 σ2 ρ2 ∧ forM m ds (ds.drop (i + 1)) (forStep wg wb D') D'.nx ρ2 S2) (fun ρ' S' => forM m ds (ds.drop (i + 1)) (forStep wg wb D') D'.nx ρ' S') :=
        fun ρ' S' A' σ' H' g' R' E' z => ⟨A', S', ρ', (g2.trans g3).trans g', R', E', z⟩
      have kk := k.mono (g1.trans (g2.trans g3))
      exact hb.sd A3 S3 σ3 H3 ρ3 _ _ R3 E3 q3 ⟨nx, kk.rt, kk.nx, nx⟩
    · have e : i = ds.length := by omega
      subst e
      rw [List.drop_length] at q2
      exact .inl ⟨⟨vs2, .of h2, by rw [l2.length]; exact Nat.le_refl _⟩, k.nx ρ2 S2 A2 σ2 H2 (g1.trans g2) R2 E2 q2.2⟩
  | _ => exact q1.elim
theorem drop_range (lo : Int) (n i : Nat) (h : i < n) : (rangeD lo n).drop i = .int (lo + i) :: (rangeD lo n).drop (i + 1) := by
  have he : (rangeD lo n)[i]? = some (.int (lo + i)) := by unfold rangeD; simp [h]
  obtain ⟨hl, e⟩ := List.getElem?_eq_some_iff.mp he
  rw [List.drop_eq_getElem_cons hl, e]
theorem ds_forR {a : Expr} {p pos2 : Pos} {ta : TA} {wa : WL} (hp : PassesOwn (model X.prog X.w) X.A X.env X.xe) (hc : X.calm = true) (hm : X.mg "range" = none) (ha : PDA X [a] ta wa) (hg : PDG X tg g wg) (hb : PDSs X body tb wb) (hgl : Gl X "range" := by rfl) (hst : starEach [a] X.env = [(false, eval a X.env)] := by rfl)
    (hs : ∀ x, foldedSetIterable (.Call (.Name "range" p) [a] [] pos2) X.env x = pure x := by intro _; rfl) : PDS X (.For tg (.Call (.Name "range" p) [a] [] pos2) body [] pos) (tFor (iRng1 ta) g tb) (sForR wa wg wb) := by
  refine ⟨ps_for hp hc (pi_range1 hgl hm ha.pe hst) hg.pe hb.pe hs, fun A S σ H ρ D D' R E h k => ?_⟩
  refine ha.sd A S σ H ρ _ _ R E h fun ds S1 A1 vs H1 g1 R1 hv q1 => ?_
  cases hv with
  | nil => exact q1.elim
  | cons h1 tv =>
    cases tv with
    | cons _ _ => cases h1 <;> exact q1.elim
    | nil =>
      cases h1 <;> first | exact q1.elim | skip
      rename_i j
      refine ⟨j, rfl, q1.1.1, q1.1.2, for_range (lo := 0) (n := j.toNat) (fun i σ2 H2 => ∃ A2 S2 ρ2, Grow A1 A2 H1 H2 ∧ Rep X.G A2 S2 H2 ∧ EnvD X.G A2 H2 σ2 ρ2 ∧ forD ((rangeD 0 j.toNat).drop i) (forStep wg wb D') D'.nx ρ2 S2) ⟨A1, S1, ρ, .refl, R1, E.mono g1, q1.2⟩ ?_ ?_⟩
      · rintro i σ2 H2 hi ⟨A2, S2, ρ2, g2, R2, E2, q2⟩
        rw [drop_range 0 _ i hi] at q2
        refine hg.sd A2 S2 σ2 H2 ρ2 _ _ _ _ R2 E2 (.int _) q2 fun ρ3 S3 A3 σ3 H3 g3 R3 E3 q3 => ?_
        have nx : EndN X.G A3 H3 (fun σ2 H2 => ∃ A2 S2 ρ2, Grow A1 A2 H1 H2 ∧ Rep X.G A2 S2 H2 ∧ EnvD X.G A2 H2 σ2 ρ2 ∧ forD ((rangeD 0 j.toNat).drop (i + 1)) (forStep wg wb D') D'.nx ρ2 S2) (fun ρ' S' => forD ((rangeD 0 j.toNat).drop (i + 1)) (forStep wg wb D') D'.nx ρ' S') :=
          fun ρ' S' A' σ' H' g' R' E' z => ⟨A', S', ρ', (g2.trans g3).trans g', R', E', z⟩
        have kk := k.mono (g1.trans (g2.trans g3))
        exact hb.sd A3 S3 σ3 H3 ρ3 _ _ R3 E3 q3 ⟨nx, kk.rt, kk.nx, nx⟩
      · rintro σ2 H2 ⟨A2, S2, ρ2, g2, R2, E2, q2⟩
        have e : (rangeD 0 j.toNat).drop j.toNat = [] := List.drop_eq_nil_of_le (by unfold rangeD; simp)
        rw [e] at q2
        exact k.nx ρ2 S2 A2 σ2 H2 (g1.trans g2) R2 E2 q2
end

/-! ### list comprehensions: the list made is one that may change -/
def lcD : List D → (D → MS → (MS → Prop) → Prop) → (MS → Prop) → MS → Prop
  | [], _, fin, S => fin S
  | d :: ds, step, fin, S => step d S fun S' => lcD ds step fin S'
def wYes : WB := fun _ S Q => Q true S
def wipeD (ρ : DEnv) : List Nat → DEnv
  | [] => ρ
  | v :: vs => (wipeD ρ vs).set v none
def lcStep (m : Nat) (vs : List Nat) (wg : WG) (wt : WB) (we : WD) (ρ : DEnv) : D → MS → (MS → Prop) → Prop := fun d S k => wg d (wipeD ρ vs) S fun ρ2 S2 => wt ρ2 S2 fun b S3 =>
  if b = true then we ρ2 S3 fun y S4 => ∃ acc, S4[m]? = some acc ∧ acc.length < sizeLine ∧ k (S4.set m (acc ++ [y])) else k S3
/-- over a written list or tuple's items -/
def lcM (m : Nat) (all : List D) : List D → (D → MS → (MS → Prop) → Prop) → (MS → Prop) → MS → Prop
  | [], _, fin, S => S[m]? = some all ∧ fin S
  | d :: ds, step, fin, S => S[m]? = some all ∧ step d S fun S' => lcM m all ds step fin S'
def wLc (wi : WD) (vs : List Nat) (wg : WG) (wt : WB) (we : WD) : WD := fun ρ S Q => wi ρ S fun d S1 => match d with
  | .lst ds => lcD ds (lcStep S1.length vs wg wt we ρ) (fun S' => Q (.mut S1.length) S') (S1 ++ [[]])
  | .scr ds => lcD ds (lcStep S1.length vs wg wt we ρ) (fun S' => Q (.mut S1.length) S') (S1 ++ [[]])
  | .mut m0 => match S1[m0]? with
    | some ds => lcM m0 ds ds (lcStep S1.length vs wg wt we ρ) (fun S' => Q (.mut S1.length) S') (S1 ++ [[]])
    | none => False
  | _ => False
def wLcR (wi : WL) (vs : List Nat) (wg : WG) (wt : WB) (we : WD) : WD := fun ρ S Q => wi ρ S fun ds S1 => match ds with
  | [.int j] => (-(2 ^ 62) ≤ j ∧ j < 2 ^ 62) ∧ lcD (rangeD 0 j.toNat) (lcStep S1.length vs wg wt we ρ) (fun S' => Q (.mut S1.length) S') (S1 ++ [[]])
  | _ => False
/-- which targets a comprehension has: its own names alone -/
structure GOwn (vs : List Nat) (g : TG) : Prop where
  own : ∀ (v : V) (σ : L2.St) (H : Hp) (Q : L2.St → Hp → Prop), g v σ H Q → g v σ H fun σ2 H2 => wipe σ2 vs = wipe σ vs ∧ Q σ2 H2
theorem wipe_set_own {σ : L2.St} {i : Nat} {x : Option V} : ∀ {vs : List Nat}, i ∈ vs → wipe (σ.set i x) vs = wipe σ vs
  | [], h => by cases h
  | v :: vs, h => by
    unfold wipe
    by_cases hi : i ∈ vs
    · rw [wipe_set_own hi]
    · have e : i = v := by
        rcases List.mem_cons.mp h with h | h
        · exact h
        · exact absurd h hi
      subst e
      have : ∀ (vs : List Nat), i ∉ vs → wipe (σ.set i x) vs = (wipe σ vs).set i x := by
        intro vs
        induction vs with
        | nil => intro _; rfl
        | cons w ws ih =>
          intro hn
          unfold wipe
          rw [ih (fun z => hn (List.mem_cons_of_mem _ z)), List.set_comm _ _ (fun z => hn (by rw [z]; exact List.mem_cons_self))]
      rw [this vs hi, List.set_set]
theorem gown_name {i : Nat} {vs : List Nat} (h : i ∈ vs) : GOwn vs (gName i) := ⟨fun v σ H Q q => ⟨wipe_set_own h, q⟩⟩
theorem gown_two {K : PySem.W.Frag} {n i j : Nat} {vs : List Nat} (hi : i ∈ vs) (hj : j ∈ vs) : GOwn vs (gTup K n (gCons (gName i) (gCons (gName j) gNil))) := ⟨fun v σ H Q q => by
  obtain ⟨a, xs, e, h1, h2, x, r, e1, y, r2, e2, e3, q⟩ := q
  exact ⟨a, xs, e, h1, h2, x, r, e1, y, r2, e2, e3, by rw [wipe_set_own hj, wipe_set_own hi], q⟩⟩
theorem EnvD.wipe {mg : MG} {A : List Addr} {H : Hp} {σ : L2.St} {ρ : DEnv} (e : EnvD mg A H σ ρ) : ∀ vs : List Nat, EnvD mg A H (L2.wipe σ vs) (wipeD ρ vs)
  | [] => e
  | v :: vs => by
    have ih := EnvD.wipe e vs
    unfold L2.wipe wipeD
    refine ⟨by simp [ih.len], fun i d h => ?_⟩
    by_cases hi : v = i
    · subst hi
      by_cases hl : v < (wipeD ρ vs).length
      · rw [List.getElem?_set_self hl] at h; cases h
      · rw [List.getElem?_eq_none (by simp; omega)] at h; cases h
    · rw [List.getElem?_set_ne hi] at h ⊢
      exact ih.at_ i d h
section
variable {X : Cx} {elt tg iter : Expr} {ifs : List Expr} {scope : Scope} {own : List (Str × Nat)} {pos : Pos} {g : TG} {wg : WG} {tt : TT} {wt : WB} {te : TE} {we : WD}
structure PDTs (X : Cx) (ifs : List Expr) (t : TT) (w : WB) : Prop where
  pe : PTs X ifs t
  sd : SndT X.G t w
theorem dts_nil : PDTs X [] tYes wYes := ⟨pts_nil, fun A S σ H ρ Q Q' R E h k => k true S A H .refl R h⟩
theorem dts_one {c : Expr} {t : TT} {w : WB} (h : PDT X c t w) : PDTs X [c] t w := ⟨pts_one h.pe, h.sd⟩
/-- one turn -/
theorem lc_turn {mg : MG} {vs : List Nat} (sg : SndG mg g wg) (st : SndT mg tt wt) (se : SndE mg te we) (go : GOwn vs g) {A : List Addr} {S : MS} {H : Hp} {σ : L2.St} {ρ : DEnv} {x : V} {d : D} {m : Nat} {Dl : Addr} {k : MS → Prop} {Nx : Hp → Prop}
    (R : Rep mg A S H) (E : EnvD mg A H σ ρ) (hx : Is mg A H x d) (hm : A[m]? = some Dl) (q : lcStep m vs wg wt we ρ d S k) (hk : ∀ S' A' H', Grow A A' H H' → Rep mg A' S' H' → k S' → Nx H') :
    g x (wipe σ vs) H fun σ2 H2 => wipe σ2 vs = wipe σ vs ∧ tt σ2 H2 fun b H3 => if b = true then te σ2 H3 fun y H4 => ∃ acc, H4 Dl = some (.lst acc) ∧ acc.length < sizeLine ∧ Nx (upd H4 Dl (.lst (acc ++ [y]))) else Nx H3 := by
  have ww : wipe (wipe σ vs) vs = wipe σ vs := by
    have : ∀ (us : List Nat), (∀ u ∈ us, u ∈ vs) → wipe (wipe σ us) vs = wipe σ vs := by
      intro us
      induction us with
      | nil => intro _; rfl
      | cons u us ih =>
        intro hu
        show wipe ((wipe σ us).set u none) vs = _
        rw [wipe_set_own (hu u List.mem_cons_self), ih fun z hz => hu z (List.mem_cons_of_mem _ hz)]
    exact this vs fun _ h => h
  have h1 := sg A S (wipe σ vs) H (wipeD ρ vs) x d (fun σ2 H2 => tt σ2 H2 fun b H3 => if b = true then te σ2 H3 fun y H4 => ∃ acc, H4 Dl = some (.lst acc) ∧ acc.length < sizeLine ∧ Nx (upd H4 Dl (.lst (acc ++ [y]))) else Nx H3) _ R (E.wipe vs) hx q fun ρ2 S2 A2 σ2 H2 g2 R2 E2 q2 => ?_
  · have h2 := go.own _ _ _ _ h1
    rw [ww] at h2
    exact h2
  · refine st A2 S2 σ2 H2 ρ2 _ _ R2 E2 q2 fun b S3 A3 H3 g3 R3 q3 => ?_
    cases b with
    | false => exact iteF (hk S3 A3 H3 (g2.trans g3) R3 (by simpa using q3))
    | true =>
      refine iteT ?_
      have q3 := (if_pos rfl).mp q3
      refine se A3 S3 σ2 H3 ρ2 _ _ R3 (E2.mono g3) q3 fun y S4 A4 vy H4 g4 R4 hy q4 => ?_
      obtain ⟨acc, e1, hz, q5⟩ := q4
      have hm4 : A4[m]? = some Dl := g4.pre _ _ (g3.pre _ _ (g2.pre _ _ hm))
      obtain ⟨ws, h5, l5⟩ := R4.at_ m Dl acc hm4 e1
      refine ⟨ws, h5, by rw [l5.length]; exact hz, ?_⟩
      have gw := grow_write (H := H4) (o := .lst (ws ++ [vy])) hm4
      exact hk _ A4 _ ((g2.trans (g3.trans g4)).trans gw) (R4.write hm4 (l5.append (.cons hy .nil))) q5
theorem d_lc {ti : TE} {wi : WD} (hc : X.calm = true) (hN : X.N.Nodup) (hi : PD X iter ti wi) (ok : BlkOk X.N X.env.scope scope own) (go : GOwn (own.map (·.2)) g)
    (hg : ∀ (s : Shared) (H : Hp) (C : Addr) (cl : List (Str × Addr)) (fp : List Addr), PDG (X.blk s H scope (compEnvC scope cl C X.env) fp) tg g wg) (ht : ∀ (s : Shared) (H : Hp) (C : Addr) (cl : List (Str × Addr)) (fp : List Addr), PDTs (X.blk s H scope (compEnvC scope cl C X.env) fp) ifs tt wt)
    (he : ∀ (s : Shared) (H : Hp) (C : Addr) (cl : List (Str × Addr)) (fp : List Addr), PD (X.blk s H scope (compEnvC scope cl C X.env) fp) elt te we) (hs : ∀ x, foldedSetIterable iter X.env x = pure x := by intro _; rfl) :
    PD X (.ListComp elt [⟨tg, iter, ifs, 0⟩] scope pos) (tLc (iList X.K ti) g tt te (own.map (·.2))) (wLc wi (own.map (·.2)) wg wt we) := by
  refine ⟨pe_lc hc hN (pi_list hi.pe) ok (fun s H C cl fp => (hg s H C cl fp).pe) (fun s H C cl fp => (ht s H C cl fp).pe) (fun s H C cl fp => (he s H C cl fp).pe) hs, fun A S σ H ρ Q Q' R E h k => ?_⟩
  have sg : SndG X.G g wg := (hg X.s_0 X.H_0 0 [] []).sd
  have st : SndT X.G tt wt := (ht X.s_0 X.H_0 0 [] []).sd
  have se : SndE X.G te we := (he X.s_0 X.H_0 0 [] []).sd
  refine hi.sd A S σ H ρ _ _ R E h fun d S1 A1 v H1 g1 R1 hv q1 => ?_
  have seqC : ∀ (a : Addr) (vs : List V) (ds : List D), (∀ A2 H2, Grow A1 A2 H1 H2 → SqL X.K H2 a vs) → IsL X.G A1 H1 vs ds → lcD ds (lcStep S1.length (own.map (·.2)) wg wt we ρ) (fun S' => Q' (.mut S1.length) S') (S1 ++ [[]]) → ∀ Dl, H1 Dl = none → ∃ W : Nat → Nat → Hp → Prop, (∃ m, W 0 m (upd H1 Dl (.lst []))) ∧ ∀ i m H, W i m H →
      ((Itl X.K a).stop i H ∧ Q (.ref Dl) H) ∨ ((Itl X.K a).go i H ∧ ∃ Nx : Hp → Prop, (∀ H', Nx H' → ∃ m', m' < m ∧ W (i + 1) m' H') ∧ ∀ x H', (Itl X.K a).yld i H x H' → g x (wipe σ (own.map (·.2))) H' fun σ2 H2 => wipe σ2 (own.map (·.2)) = wipe σ (own.map (·.2)) ∧ tt σ2 H2 fun b H3 =>
        if b = true then te σ2 H3 fun y H4 => ∃ acc, H4 Dl = some (.lst acc) ∧ acc.length < sizeLine ∧ Nx (upd H4 Dl (.lst (acc ++ [y]))) else Nx H3) := by
    intro a vs ds sq l q1 Dl hD
    have gD := grow_mut (o := .lst []) R1 hD
    have RD := R1.newMut hD (vs := []) (ds := []) .nil
    have hm : (A1 ++ [Dl])[S1.length]? = some Dl := by rw [← R1.len, List.getElem?_append_right (Nat.le_refl _), Nat.sub_self]; rfl
    refine lc_list (K := X.K) (a := a) (xs := vs) (fun i H2 => ∃ A2 S2, Grow (A1 ++ [Dl]) A2 (upd H1 Dl (.lst [])) H2 ∧ Rep X.G A2 S2 H2 ∧ lcD (ds.drop i) (lcStep S1.length (own.map (·.2)) wg wt we ρ) (fun S' => Q' (.mut S1.length) S') S2)
      ⟨A1 ++ [Dl], S1 ++ [[]], .refl, RD, q1⟩ (fun i H2 hi ⟨A2, S2, g2, _⟩ => sq _ _ (gD.trans g2)) ?_ ?_
    · rintro i x H2 hx ⟨A2, S2, g2, R2, q2⟩
      obtain ⟨d, hd, hxd⟩ := l.getV hx
      have hdrop : ds.drop i = d :: ds.drop (i + 1) := by
        obtain ⟨hl, e⟩ := List.getElem?_eq_some_iff.mp hd
        rw [List.drop_eq_getElem_cons hl, e]
      rw [hdrop] at q2
      exact lc_turn sg st se go R2 (E.mono (g1.trans (gD.trans g2))) (hxd.mono (gD.trans g2)) (g2.pre _ _ hm) q2 fun S' A' H' g' R' z => ⟨A', S', g2.trans g', R', z⟩
    · rintro H2 ⟨A2, S2, g2, R2, q2⟩
      rw [l.length, List.drop_length] at q2
      exact k _ S2 A2 _ H2 (g1.trans (gD.trans g2)) R2 (.mut (g2.pre _ _ hm)) q2
  cases hv with
  | @lst a vs ds na r l => exact ⟨a, rfl, ⟨vs, .of r⟩, seqC a vs ds (fun A2 H2 g => .of (g.keep _ _ na r).1) l q1⟩
  | @scr a vs ds na r l => exact ⟨a, rfl, ⟨vs, .inl r⟩, seqC a vs ds (fun A2 H2 g => .inl (g.rd na r).2) l q1⟩
  | @scrK a vs ds r l => exact ⟨a, rfl, ⟨vs, r _⟩, seqC a vs ds (fun A2 H2 g => r H2) l q1⟩
  | @«mut» a m0 ea =>
    dsimp only at q1
    split at q1
    case h_2 => exact q1.elim
    rename_i ds es
    obtain ⟨vs, h1, l⟩ := R1.at_ m0 a ds ea es
    refine ⟨a, rfl, ⟨vs, .of h1⟩, fun Dl hD => ?_⟩
    have gD := grow_mut (o := .lst []) R1 hD
    have RD := R1.newMut hD (vs := []) (ds := []) .nil
    have hm : (A1 ++ [Dl])[S1.length]? = some Dl := by rw [← R1.len, List.getElem?_append_right (Nat.le_refl _), Nat.sub_self]; rfl
    have hd0 : ∀ i S2, lcM m0 ds (ds.drop i) (lcStep S1.length (own.map (·.2)) wg wt we ρ) (fun S' => Q' (.mut S1.length) S') S2 → S2[m0]? = some ds := by
      intro i S2 q
      cases hq : ds.drop i with
      | nil => rw [hq] at q; exact q.1
      | cons _ _ => rw [hq] at q; exact q.1
    refine ⟨fun i mm H2 => mm = ds.length - i ∧ i ≤ ds.length ∧ ∃ A2 S2, Grow (A1 ++ [Dl]) A2 (upd H1 Dl (.lst [])) H2 ∧ Rep X.G A2 S2 H2 ∧ lcM m0 ds (ds.drop i) (lcStep S1.length (own.map (·.2)) wg wt we ρ) (fun S' => Q' (.mut S1.length) S') S2, ⟨ds.length, by simp, Nat.zero_le _, A1 ++ [Dl], S1 ++ [[]], .refl, RD, q1⟩, ?_⟩
    rintro i mm H2 ⟨rfl, hle, A2, S2, g2, R2, q2⟩
    have ea2 : A2[m0]? = some a := g2.pre _ _ (gD.pre _ _ ea)
    obtain ⟨vs2, h2, l2⟩ := R2.at_ m0 a ds ea2 (hd0 i S2 q2)
    by_cases hlt : i < ds.length
    · have hdrop : ds.drop i = ds[i] :: ds.drop (i + 1) := List.drop_eq_getElem_cons hlt
      rw [hdrop] at q2
      have hlt2 : i < vs2.length := by rw [l2.length]; exact hlt
      refine .inr ⟨⟨vs2, vs2[i], .of h2, by simp [hlt2]⟩, fun H' => ∃ A2 S2, Grow (A1 ++ [Dl]) A2 (upd H1 Dl (.lst [])) H' ∧ Rep X.G A2 S2 H' ∧ lcM m0 ds (ds.drop (i + 1)) (lcStep S1.length (own.map (·.2)) wg wt we ρ) (fun S' => Q' (.mut S1.length) S') S2, fun H' z => ⟨ds.length - (i + 1), by omega, rfl, hlt, z⟩, fun x H' y => ?_⟩
      obtain ⟨rfl, y⟩ := y
      have hx : vs2[i]? = some x := y vs2 (.of h2)
      obtain ⟨d, hd, hxd⟩ := l2.getV hx
      have ed : d = ds[i] := by rw [List.getElem?_eq_getElem hlt] at hd; exact (Option.some.inj hd).symm
      subst ed
      exact lc_turn sg st se go R2 (E.mono (g1.trans (gD.trans g2))) hxd (g2.pre _ _ hm) q2.2 fun S' A' H' g' R' z => ⟨A', S', g2.trans g', R', z⟩
    · have e : i = ds.length := by omega
      subst e
      rw [List.drop_length] at q2
      exact .inl ⟨⟨vs2, .of h2, by rw [l2.length]; exact Nat.le_refl _⟩, k _ S2 A2 _ H2 (g1.trans (gD.trans g2)) R2 (.mut (g2.pre _ _ hm)) q2.2⟩
  | _ => exact q1.elim
theorem d_lcR {a : Expr} {p pos2 : Pos} {ta : TA} {wa : WL} (hc : X.calm = true) (hN : X.N.Nodup) (hm : X.mg "range" = none) (ha : PDA X [a] ta wa) (ok : BlkOk X.N X.env.scope scope own) (go : GOwn (own.map (·.2)) g)
    (hg : ∀ (s : Shared) (H : Hp) (C : Addr) (cl : List (Str × Addr)) (fp : List Addr), PDG (X.blk s H scope (compEnvC scope cl C X.env) fp) tg g wg) (ht : ∀ (s : Shared) (H : Hp) (C : Addr) (cl : List (Str × Addr)) (fp : List Addr), PDTs (X.blk s H scope (compEnvC scope cl C X.env) fp) ifs tt wt)
    (he : ∀ (s : Shared) (H : Hp) (C : Addr) (cl : List (Str × Addr)) (fp : List Addr), PD (X.blk s H scope (compEnvC scope cl C X.env) fp) elt te we) (hgl : Gl X "range" := by rfl) (hst : starEach [a] X.env = [(false, eval a X.env)] := by rfl) (hs : ∀ x, foldedSetIterable (.Call (.Name "range" p) [a] [] pos2) X.env x = pure x := by intro _; rfl) :
    PD X (.ListComp elt [⟨tg, .Call (.Name "range" p) [a] [] pos2, ifs, 0⟩] scope pos) (tLc (iRng1 ta) g tt te (own.map (·.2))) (wLcR wa (own.map (·.2)) wg wt we) := by
  refine ⟨pe_lc hc hN (pi_range1 hgl hm ha.pe hst) ok (fun s H C cl fp => (hg s H C cl fp).pe) (fun s H C cl fp => (ht s H C cl fp).pe) (fun s H C cl fp => (he s H C cl fp).pe) hs, fun A S σ H ρ Q Q' R E h k => ?_⟩
  have sg : SndG X.G g wg := (hg X.s_0 X.H_0 0 [] []).sd
  have st : SndT X.G tt wt := (ht X.s_0 X.H_0 0 [] []).sd
  have se : SndE X.G te we := (he X.s_0 X.H_0 0 [] []).sd
  refine ha.sd A S σ H ρ _ _ R E h fun ds S1 A1 vs H1 g1 R1 hv q1 => ?_
  cases hv with
  | nil => exact q1.elim
  | cons h1 tv =>
    cases tv with
    | cons _ _ => cases h1 <;> exact q1.elim
    | nil =>
      cases h1 <;> first | exact q1.elim | skip
      rename_i j
      refine ⟨j, rfl, q1.1.1, q1.1.2, fun Dl hD => ?_⟩
      have gD := grow_mut (o := .lst []) R1 hD
      have RD := R1.newMut hD (vs := []) (ds := []) .nil
      have hm : (A1 ++ [Dl])[S1.length]? = some Dl := by rw [← R1.len, List.getElem?_append_right (Nat.le_refl _), Nat.sub_self]; rfl
      refine lc_range (lo := 0) (n := j.toNat) (fun i H2 => ∃ A2 S2, Grow (A1 ++ [Dl]) A2 (upd H1 Dl (.lst [])) H2 ∧ Rep X.G A2 S2 H2 ∧ lcD ((rangeD 0 j.toNat).drop i) (lcStep S1.length (own.map (·.2)) wg wt we ρ) (fun S' => Q' (.mut S1.length) S') S2)
        ⟨A1 ++ [Dl], S1 ++ [[]], .refl, RD, q1.2⟩ ?_ ?_
      · rintro i H2 hi ⟨A2, S2, g2, R2, q2⟩
        rw [drop_range 0 _ i hi] at q2
        exact lc_turn sg st se go R2 (E.mono (g1.trans (gD.trans g2))) (.int _) (g2.pre _ _ hm) q2 fun S' A' H' g' R' z => ⟨A', S', g2.trans g', R', z⟩
      · rintro H2 ⟨A2, S2, g2, R2, q2⟩
        have e : (rangeD 0 j.toNat).drop j.toNat = [] := List.drop_eq_nil_of_le (by unfold rangeD; simp)
        rw [e] at q2
        exact k _ S2 A2 _ H2 (g1.trans (gD.trans g2)) R2 (.mut (g2.pre _ _ hm)) q2
end
end DL

set_option Elab.async false
set_option linter.all false
set_option maxRecDepth 100000
/-! Rules: calls of defs, classes, built-ins; equality. -/
namespace DL
open PySem PySem.Spec PyProof.Rows L2
abbrev WF := List D → MS → (D → MS → Prop) → Prop
/-- a def's promise by data -/
def spW (mg : MG) (n : Nat) (w : WF) : Sp := fun vs H Q _ => ∃ A S ds Q', Rep mg A S H ∧ IsL mg A H vs ds ∧ ds.length = n ∧ w ds S Q' ∧ EndV mg A H Q Q'
theorem spW.len {mg : MG} {n : Nat} {w : WF} {vs : List V} {H : Hp} {Q : VK} {E : XK} (h : spW mg n w vs H Q E) : vs.length = n := by
  obtain ⟨A, S, ds, Q', R, l, e, _⟩ := h
  rw [l.length, e]
/-- a reading by data may be weakened -/
theorem spW.imp {mg : MG} {n : Nat} {w w' : WF} (i : ∀ ds S Q, w' ds S Q → w ds S Q) {vs : List V} {H : Hp} {Q : VK} {E : XK} (h : spW mg n w' vs H Q E) : spW mg n w vs H Q E := by
  obtain ⟨A, S, ds, Q', R, l, e, q, k⟩ := h
  exact ⟨A, S, ds, Q', R, l, e, i _ _ _ q, k⟩
def startD (N : List Str) (ds : List D) : DEnv := ds.map some ++ List.replicate (N.length - ds.length) none
theorem env_start {mg : MG} {A : List Addr} {H : Hp} {N : List Str} {vs : List V} {ds : List D} (l : IsL mg A H vs ds) : EnvD mg A H (L2.start N vs) (startD N ds) := by
  unfold L2.start startD
  refine ⟨by simp [l.length], fun i d h => ?_⟩
  by_cases hi : i < ds.length
  · rw [List.getElem?_append_left (by simpa using hi), List.getElem?_map] at h
    have hi2 : i < vs.length := by rw [l.length]; exact hi
    rw [List.getElem?_append_left (by simpa using hi2), List.getElem?_map]
    cases e : ds[i]? with
    | none => rw [e] at h; cases h
    | some d' =>
      rw [e] at h
      cases h
      obtain ⟨v, h1, h2⟩ := l.get e
      exact ⟨v, by rw [h1]; rfl, h2⟩
  · rw [List.getElem?_append_right (by simpa using hi), List.getElem?_replicate] at h
    split at h <;> cases h
section
variable {P : Program} {w : World} {K : PySem.W.Frag} {mg : Str → Option Value} {base : Heap}
/-- THE RULE for a def -/
theorem fnD {x qual : Str} {st : Stmt} {f : Addr} {fd : FuncData} {N ps : List Str} {k : Nat} {wf : WF} {ws : WS} (F : Fun K x qual st f fd) (S : FnScope N ps (defScope st))
    (hb : ∀ (cdv : Value) (A : Around) (outer : List Env) (s : Shared) (H : Hp) (E : XK), Room k (A.deeper (envOfC qual (defScope st) s.heap.objs.size f cdv)) →
      ∃ t, PDSs (cxOf CX0 P w K mg base N qual (defScope st) f cdv A outer s H E).nox (defBody st) t ws)
    (hw : ∀ ds S Q, ds.length = ps.length → wf ds S Q → ws { nx := fun _ S' => Q .non S', rt := Q } (startD N ds) S) : FnOk P w K mg base CX0 (k + 1) f fd ps (spW ⟨K, mg⟩ ps.length wf) := by
  refine F.ok S (fun vs H Q E h => h.len) fun cdv A outer s H vs Q E hr h => ?_
  obtain ⟨t, hp⟩ := hb cdv A outer s H E hr
  obtain ⟨A', S', ds, Q', R, l, e, q, k⟩ := h
  refine ⟨t, hp.pe, hp.sd A' S' (L2.start N vs) H (startD N ds) _ _ R (env_start l) (hw ds S' Q' e q) ⟨fun ρ1 S1 A1 σ1 H1 g1 R1 E1 q1 => k _ S1 A1 .non H1 g1 R1 .non q1, k, ?_, ?_⟩⟩
  · intro ρ1 S1 A1 σ1 H1 g1 R1 E1 q1
    exact q1.elim
  · intro ρ1 S1 A1 σ1 H1 g1 R1 E1 q1
    exact q1.elim
end
def wCall (n : Nat) (w : WF) (wl : WL) : WD := fun ρ S Q => wl ρ S fun ds S1 => ds.length = n ∧ w ds S1 Q
section
variable {X : Cx} {k n : Nat} {f C : Addr} {fd : FuncData} {ps : List Str} {w : WF} {x c : Str} {p pos : Pos} {e o : Expr} {es : List Expr} {t : TA} {wl : WL} {te : TE} {we : WD}
theorem d_call (F : FnOk X.prog X.w X.K X.mg X.base CX0 k f fd ps (spW X.G n w)) (hr : Room k X.A) (hm : X.mg x = some (.ref f)) (hk : PySem.W.keepIn X.K (.ref f) = true) (hb : Binds X.K fd ps [])
    (ha : PDA X (e :: es) t wl) (hg : Gl X x := by rfl) (hdb : (x == ("__debug__" : Str)) = false := by decide) (he : starEach (e :: es) X.env = (false, eval e X.env) :: starEach es X.env := by rfl) (hpl : (backTo pos (starEach es X.env)).any (·.1) = false := by rfl) :
    PD X (.Call (.Name x p) (e :: es) [] pos) (tCall (spW X.G n w) [] E0 t) (wCall n w wl) := by
  refine ⟨pe_call F hr hg hm hk hb .nil pass0 ha.pe hdb he hpl, fun A S σ H ρ Q Q' R E h k => ?_⟩
  refine ha.sd A S σ H ρ _ _ R E h fun ds S1 A1 vs H1 g1 R1 hv q1 => ?_
  refine ⟨A1, S1, ds, Q', R1, by rw [List.append_nil]; exact hv, q1.1, q1.2, k.mono g1⟩
/-- a property -/
def wProp (c : Str) (w : WF) (we : WD) : WD := fun ρ S Q => we ρ S fun x S1 => match x with
  | .ins c' fds => c' = c ∧ w [.ins c' fds] S1 Q
  | _ => False
theorem d_prop {f' : Str} {pa g : Addr} (he : PD X e te we) (hC : X.mg c = some (.ref C)) (cl : Cls X.K C) (hp : PropOf X.K C f' pa g) (F : FnOk X.prog X.w X.K X.mg X.base CX0 k g fd ps (spW X.G 1 w)) (hr : Room (k + 1) X.A) (hb : Binds X.K fd ps [])
    (hab : attributeBase e f' X.env (eval e X.env) = eval e X.env := by rfl) : PD X (.Attribute e f' pos) (tProp C (spW X.G 1 w) [] E0 te) (wProp c w we) := by
  refine ⟨pe_prop he.pe cl hp F hr hb .nil pass0 hab, fun A S σ H ρ Q Q' R E h k => ?_⟩
  refine he.sd A S σ H ρ _ _ R E h fun d S1 A1 v H1 g1 R1 hv q1 => ?_
  cases hv <;> first | exact q1.elim | skip
  rename_i a C' dx c' fs fds na ec r l
  obtain ⟨rfl, q1⟩ := q1
  have ec := (show X.mg _ = _ from ec)
  rw [hC] at ec
  cases ec
  exact ⟨a, dx, fs, rfl, r, A1, S1, [.ins c' fds], Q', R1, .cons (.ins na hC r l) .nil, rfl, q1, k.mono g1⟩
/-- an attribute -/
def wFld (c f : Str) (we : WD) : WD := fun ρ S Q => we ρ S fun x S1 => match x with
  | .ins c' fds => c' = c ∧ (match fds.lookup f with
    | some d => Q d S1
    | none => False)
  | _ => False
theorem d_fld {f' : Str} (he : PD X e te we) (hC : X.mg c = some (.ref C)) (cl : Cls X.K C) (na : NoAttr X.K C f') (hab : attributeBase e f' X.env (eval e X.env) = eval e X.env := by rfl) : PD X (.Attribute e f' pos) (tFld X.K te f') (wFld c f' we) := by
  refine ⟨pe_fld he.pe hab, fun A S σ H ρ Q Q' R E h k => ?_⟩
  refine he.sd A S σ H ρ _ _ R E h fun d S1 A1 v H1 g1 R1 hv q1 => ?_
  cases hv <;> first | exact q1.elim | skip
  rename_i a C' dx c' fs fds nA ec r l
  obtain ⟨rfl, q1⟩ := q1
  split at q1
  case h_2 => exact q1.elim
  rename_i d hd
  have ec := (show X.mg _ = _ from ec)
  rw [hC] at ec
  cases ec
  obtain ⟨v, h1, h2⟩ := l.lookup hd
  exact ⟨a, C, dx, fs, v, rfl, r, cl, na, h1, k d S1 A1 v H1 g1 R1 h2 q1⟩
/-- a new instance, whose __init__ stores what never changes -/
abbrev WI := List D → MS → (List (Str × D) → MS → Prop) → Prop
def spInit (mg : MG) (c : Str) (n : Nat) (w : WI) : Sp := fun vs H Q _ => ∃ x C dx A S vs' ds Q', vs = .ref x :: vs' ∧ mg.f c = some (.ref C) ∧ H x = some (.ins C dx []) ∧ x ∉ A ∧ Rep mg A S H ∧ IsL mg A H vs' ds ∧ ds.length = n ∧ w ds S Q' ∧
  ∀ fs fds H', (∀ b o, b ≠ x → H b = some o → H' b = some o) → H' x = some (.ins C dx fs) → IsF mg A H' fs fds → Q' fds S → Q .non H'
theorem spInit.len {mg : MG} {n : Nat} {w : WI} {vs : List V} {H : Hp} {Q : VK} {E : XK} (h : spInit mg c n w vs H Q E) : vs.length = n + 1 := by
  obtain ⟨x, C, dx, A, S, vs', ds, Q', rfl, _, _, _, _, l, e, _⟩ := h
  rw [List.length_cons, l.length, e]
def wMake (c : Str) (n : Nat) (w : WI) (dds : List D) (wl : WL) : WD := fun ρ S Q => wl ρ S fun ds S1 => (ds ++ dds).length = n ∧ w (ds ++ dds) S1 fun fds S2 => Q (.ins c fds) S2
theorem made {mg : MG} {A : List Addr} {S : MS} {H : Hp} {x dx C : Addr} {vs : List V} {ds : List D} {w : WI} {Q : VK} {Q' : D → MS → Prop} (R : Rep mg A S H) (hC : mg.f c = some (.ref C)) (l : IsL mg A H vs ds) (hn : ds.length = n) (hw : w ds S fun fds S2 => Q' (.ins c fds) S2) (k : EndV mg A H Q Q')
    (hx : H x = none) (hd : H dx = none) (ne : dx ≠ x) : spInit mg c n w (.ref x :: vs) (upd (upd H dx (.own x)) x (.ins C dx [])) (fun v H2 => v = .non ∧ Q (.ref x) H2) E0 := by
  have hx1 : upd H dx (.own x) x = none := by rw [upd_ne (Ne.symm ne)]; exact hx
  have g1 := grow_new (o := .own x) R hd
  have R1 := R.new (o := .own x) hd
  have g2 := grow_new (o := .ins C dx []) R1 hx1
  have R2 := R1.new (o := .ins C dx []) hx1
  have g := g1.trans g2
  refine ⟨x, C, dx, A, S, vs, ds, _, rfl, hC, upd_same, R.fresh hx, R2, l.mono g, hn, hw, fun fs fds H' kp hx' lf q => ⟨rfl, ?_⟩⟩
  have nx : x ∉ A := R.fresh hx
  have kp' : ∀ b o, b ∉ A → H b = some o → H' b = some o ∧ b ∉ A := fun b o nb e => ⟨kp b o (ne_of_none e hx) (g.keep b o nb e).1, nb⟩
  have gg : Grow A A H H' := ⟨fun _ _ e => e, kp'⟩
  have R' : Rep mg A S H' := ⟨R.len, R.nd, fun i a ds e1 e2 => by
    obtain ⟨vs, h1, h2⟩ := R.at_ i a ds e1 e2
    refine ⟨vs, kp a _ (fun z => nx (z ▸ List.mem_of_getElem? e1)) ?_, h2.mono gg⟩
    rw [upd_ne (ne_of_none h1 hx), upd_ne (ne_of_none h1 hd)]
    exact h1⟩
  exact k _ S A _ H' gg R' (.ins nx hC hx' lf) q
end
end DL

set_option Elab.async false
set_option linter.all false
set_option maxRecDepth 100000
/-! Rules: built-ins, own operators, equality. -/
namespace DL
open PySem PySem.Spec PyProof.Rows L2
section
variable {X : Cx} {k n : Nat} {f C : Addr} {fd : FuncData} {ps : List Str} {w : WF} {x c : Str} {p pos : Pos} {e o : Expr} {es : List Expr} {t : TA} {wl : WL} {te : TE} {we : WD} {id T : String} {r : List V → Hp → VK → Prop} {od : LD}
/-! ### a new instance -/
theorem d_make {wi : WI} {dvs : List V} {ds : List Value} {dds : List D} (M : Mk X.K C f) (F : FnOk X.prog X.w X.K X.mg X.base CX0 k f fd ps (spInit X.G x n wi)) (hr : Room (k + 1) X.A) (hm : X.mg x = some (.ref C)) (hb : Binds X.K fd ps ds) (hd : Vals dvs ds) (hdd : ∀ A H, IsL X.G A H dvs dds)
    (ha : PDA X (e :: es) t wl) (hg : Gl X x := by rfl) (hdb : (x == ("__debug__" : Str)) = false := by decide) (he : starEach (e :: es) X.env = (false, eval e X.env) :: starEach es X.env := by rfl) (hpl : (backTo pos (starEach es X.env)).any (·.1) = false := by rfl) :
    PD X (.Call (.Name x p) (e :: es) [] pos) (tMake C (spInit X.G x n wi) dvs E0 t) (wMake x n wi dds wl) := by
  refine ⟨pe_make M F hr hg hm hb hd pass0 ha.pe hdb he hpl, fun A S σ H ρ Q Q' R E h k => ?_⟩
  refine ha.sd A S σ H ρ _ _ R E h fun ds S1 A1 vs H1 g1 R1 hv q1 => ?_
  intro a dx na nd ne
  exact made R1 hm (hv.append (hdd A1 H1)) q1.1 q1.2 (k.mono g1) na nd ne
/-! ### built-ins by their names -/
theorem d_callB (hc : CallR X (.builtin id) r) (hs : SndC X.G r od) (hm : X.mg x = none) (ha : PDA X (e :: es) t wl) (hg : Gl X x := by rfl) (hv : bootBuiltins x = some (.builtin id) := by decide +kernel) (hn : x ≠ "__name__" := by decide) (hdb : (x == ("__debug__" : Str)) = false := by decide)
    (he : starEach (e :: es) X.env = (false, eval e X.env) :: starEach es X.env := by rfl) (hpl : (backTo pos (starEach es X.env)).any (·.1) = false := by rfl) : PD X (.Call (.Name x p) (e :: es) [] pos) (tCB r t) (wCB od wl) := ⟨pe_callB hc hg hm hv ha.pe hn hdb he hpl, snd_cb hs ha.sd⟩
theorem d_callTy (hc : CallR X (.type T) r) (hs : SndC X.G r od) (hm : X.mg x = none) (ha : PDA X (e :: es) t wl) (hg : Gl X x := by rfl) (hv : bootBuiltins x = some (.type T) := by decide +kernel) (hn : x ≠ "__name__" := by decide) (hdb : (x == ("__debug__" : Str)) = false := by decide)
    (he : starEach (e :: es) X.env = (false, eval e X.env) :: starEach es X.env := by rfl) (hpl : (backTo pos (starEach es X.env)).any (·.1) = false := by rfl) : PD X (.Call (.Name x p) (e :: es) [] pos) (tCB r t) (wCB od wl) := ⟨pe_callTy hc hg hm hv ha.pe hn hdb he hpl, snd_cb hs ha.sd⟩
theorem d_callF (hc : CallR X (.builtin id) r) (hs : SndC X.G r od) (hm : X.mg x = some (.builtin id)) (ha : PDA X (e :: es) t wl) (hg : Gl X x := by rfl) (hdb : (x == ("__debug__" : Str)) = false := by decide)
    (he : starEach (e :: es) X.env = (false, eval e X.env) :: starEach es X.env := by rfl) (hpl : (backTo pos (starEach es X.env)).any (·.1) = false := by rfl) : PD X (.Call (.Name x p) (e :: es) [] pos) (tCB r t) (wCB od wl) := ⟨pe_callBfun hc hg hm ha.pe hdb he hpl, snd_cb hs ha.sd⟩
theorem CallR.or {f : Value} {r r' : List V → Hp → VK → Prop} (h : CallR X f r) (h' : CallR X f r') : CallR X f (fun xs H Q => r xs H Q ∨ r' xs H Q) := by
  intro pins s σ H vs us Q I rv q
  rcases q with q | q
  · exact h pins s σ H vs us Q I rv q
  · exact h' pins s σ H vs us Q I rv q
theorem UnR.or {f : Value → Sem Value} {r r' : V → Hp → VK → Prop} (h : UnR X f r) (h' : UnR X f r') : UnR X f (fun x H Q => r x H Q ∨ r' x H Q) := by
  intro pins s σ H x v Q I rv q
  rcases q with q | q
  · exact h pins s σ H x v Q I rv q
  · exact h' pins s σ H x v Q I rv q
theorem SndC.or {mg : MG} {r r' : List V → Hp → VK → Prop} {o o' : LD} (h : SndC mg r o) (h' : SndC mg r' o') : SndC mg (fun xs H Q => r xs H Q ∨ r' xs H Q) (fun xs S Q => o xs S Q ∨ o' xs S Q) := by
  intro A S H x dx Q Q' R hx q k
  rcases q with q | q
  · exact .inl (h A S H x dx Q Q' R hx q k)
  · exact .inr (h' A S H x dx Q Q' R hx q k)
theorem SndC.imp {mg : MG} {r : List V → Hp → VK → Prop} {o o' : LD} (h : SndC mg r o) (i : ∀ xs S Q, o' xs S Q → o xs S Q) : SndC mg r o' := fun A S H x dx Q Q' R hx q k => h A S H x dx Q Q' R hx (i _ _ _ q) k
theorem SndU.or {mg : MG} {r r' : V → Hp → VK → Prop} {o o' : UD} (h : SndU mg r o) (h' : SndU mg r' o') : SndU mg (fun x H Q => r x H Q ∨ r' x H Q) (fun x S Q => o x S Q ∨ o' x S Q) := by
  intro A S H x dx Q Q' R hx q k
  rcases q with q | q
  · exact .inl (h A S H x dx Q Q' R hx q k)
  · exact .inr (h' A S H x dx Q Q' R hx q k)
theorem SndU.imp {mg : MG} {r : V → Hp → VK → Prop} {o o' : UD} (h : SndU mg r o) (i : ∀ x S Q, o' x S Q → o x S Q) : SndU mg r o' := fun A S H x dx Q Q' R hx q k => h A S H x dx Q Q' R hx (i _ _ _ q) k
end
section
variable {mg : MG}
theorem IsL.one {A : List Addr} {H : Hp} {vs : List V} {d : D} (l : IsL mg A H vs [d]) : ∃ v, vs = [v] ∧ Is mg A H v d := by
  cases l with
  | cons h t => cases t; exact ⟨_, rfl, h⟩
theorem IsL.two {A : List Addr} {H : Hp} {vs : List V} {d e : D} (l : IsL mg A H vs [d, e]) : ∃ v w, vs = [v, w] ∧ Is mg A H v d ∧ Is mg A H w e := by
  cases l with
  | cons h t => obtain ⟨w, rfl, h2⟩ := t.one; exact ⟨_, _, rfl, h, h2⟩
/-- int(n), int(flag) -/
def oInt1 : LD := fun ds S Q => match ds with
  | [.int i] => Q (.int i) S
  | [.bl b] => Q (.int (if b then 1 else 0)) S
  | _ => False
theorem snd_int1 : SndC mg (fun xs H Q => (∃ i, xs = [.int i] ∧ Q (.int i) H) ∨ ∃ k, xs = [.bl k] ∧ Q (.int (if k then 1 else 0)) H) oInt1 := by
  intro A S H xs ds Q Q' R l q k
  cases l with
  | nil => exact q.elim
  | cons h t =>
    cases t with
    | cons _ _ => cases h <;> exact q.elim
    | nil =>
      cases h <;> first | exact q.elim | skip
      · exact .inr ⟨_, rfl, k _ S A _ H .refl R (.int _) q⟩
      · exact .inl ⟨_, rfl, k _ S A _ H .refl R (.int _) q⟩
def oAbsI : LD := fun ds S Q => match ds with
  | [.int i] => Q (.int (if i < 0 then -i else i)) S
  | _ => False
theorem snd_absI : SndC mg (fun xs H Q => ∃ i, xs = [.int i] ∧ Q (.int (if i < 0 then -i else i)) H) oAbsI := by
  intro A S H xs ds Q Q' R l q k
  cases l with
  | nil => exact q.elim
  | cons h t =>
    cases t with
    | cons _ _ => cases h <;> exact q.elim
    | nil =>
      cases h <;> first | exact q.elim | skip
      exact ⟨_, rfl, k _ S A _ H .refl R (.int _) q⟩
def oLen : LD := fun ds S Q => match ds with
  | [.lst es] => Q (.int es.length) S
  | [.scr es] => Q (.int es.length) S
  | [.tup es] => Q (.int es.length) S
  | [.mut m] => ∃ es, S[m]? = some es ∧ Q (.int es.length) S
  | _ => False
theorem snd_len : SndC mg (fun xs H Q => ∃ p ys, xs = [.ref p] ∧ (SqL mg.K H p ys ∨ SqT mg.K H p ys) ∧ Q (.int ys.length) H) oLen := by
  intro A S H xs ds Q Q' R l q k
  cases l with
  | nil => exact q.elim
  | cons h t =>
    cases t with
    | cons _ _ => cases h <;> exact q.elim
    | nil =>
      cases h <;> first | exact q.elim | skip
      · rename_i a vs ds n r l
        exact ⟨a, vs, rfl, .inr (.inl r), by rw [l.length]; exact k _ S A _ H .refl R (.int _) q⟩
      · rename_i a vs ds n r l
        exact ⟨a, vs, rfl, .inl (.of r), by rw [l.length]; exact k _ S A _ H .refl R (.int _) q⟩
      · rename_i a vs ds n r l
        exact ⟨a, vs, rfl, .inl (.inl r), by rw [l.length]; exact k _ S A _ H .refl R (.int _) q⟩
      · rename_i a vs ds r l
        exact ⟨a, vs, rfl, .inl (r H), by rw [l.length]; exact k _ S A _ H .refl R (.int _) q⟩
      · rename_i a m ea
        obtain ⟨es, hs, q⟩ := q
        obtain ⟨vs, h1, l⟩ := R.at_ m a es ea hs
        exact ⟨a, vs, rfl, .inl (.of h1), by rw [l.length]; exact k _ S A _ H .refl R (.int _) q⟩
def oGcd : LD := fun ds S Q => match ds with
  | [.int a, .int b] => Q (.int ((Nat.gcd a.natAbs b.natAbs : Nat) : Int)) S
  | _ => False
theorem snd_gcd : SndC mg rGcd oGcd := by
  intro A S H xs ds Q Q' R l q k
  match ds, q, l with
  | [.int a, .int b], q, l =>
    obtain ⟨v, w, rfl, h1, h2⟩ := l.two
    cases h1; cases h2
    exact ⟨a, b, rfl, k _ S A _ H .refl R (.int _) q⟩
def oMax2 : LD := fun ds S Q => match ds with
  | [.int a, .int b] => Q (.int (if b > a then b else a)) S
  | _ => False
def oMin2 : LD := fun ds S Q => match ds with
  | [.int a, .int b] => Q (.int (if b < a then b else a)) S
  | _ => False
theorem snd_max2 : SndC mg (fun xs H Q => ∃ i j, xs = [.int i, .int j] ∧ Q (.int (if j > i then j else i)) H) oMax2 := by
  intro A S H xs ds Q Q' R l q k
  match ds, q, l with
  | [.int a, .int b], q, l =>
    obtain ⟨v, w, rfl, h1, h2⟩ := l.two
    cases h1; cases h2
    exact ⟨a, b, rfl, k _ S A _ H .refl R (.int _) q⟩
theorem snd_min2 : SndC mg (fun xs H Q => ∃ i j, xs = [.int i, .int j] ∧ Q (.int (if j < i then j else i)) H) oMin2 := by
  intro A S H xs ds Q Q' R l q k
  match ds, q, l with
  | [.int a, .int b], q, l =>
    obtain ⟨v, w, rfl, h1, h2⟩ := l.two
    cases h1; cases h2
    exact ⟨a, b, rfl, k _ S A _ H .refl R (.int _) q⟩
/-- divmod by a positive divisor -/
def oDivmod : LD := fun ds S Q => match ds with
  | [.int i, .int j] => (0 < j ∧ j.natAbs.log2 < 9000) ∧ Q (.tup [.int (i / j), .int (i % j)]) S
  | _ => False
theorem snd_divmod : SndC mg (fun xs H Q => ∃ i j, xs = [.int i, .int j] ∧ CDivP i j ∧ ∀ p, H p = none → Q (.ref p) (upd H p (.tup [.int (i / j), .int (i % j)]))) oDivmod := by
  intro A S H xs ds Q Q' R l q k
  match ds, q, l with
  | [.int i, .int j], q, l =>
    obtain ⟨v, w, rfl, h1, h2⟩ := l.two
    cases h1; cases h2
    refine ⟨i, j, rfl, ⟨q.1.1, PyProof.noPylong_of_log2 q.1.2⟩, fun p hp => ?_⟩
    exact k _ S A _ _ (grow_new R hp) (R.new hp) (.tup (R.fresh hp) (.inl upd_same) (.cons (.int _) (.cons (.int _) .nil))) q.2
/-- all of a list of truths -/
def bls : List D → Option (List Bool)
  | [] => some []
  | .bl b :: ds => (bls ds).map (b :: ·)
  | _ => none
theorem IsL.bls {A : List Addr} {H : Hp} : ∀ {vs : List V} {ds : List D} {bs : List Bool}, IsL mg A H vs ds → DL.bls ds = some bs → vs = bs.map V.bl
  | _, _, _, .nil, e => by cases e; rfl
  | _, _, bs, .cons h t, e => by
    cases h <;> first | (cases e; done) | skip
    rename_i b
    cases q : DL.bls _ with
    | none => rw [DL.bls, q] at e; cases e
    | some cs => rw [DL.bls, q] at e; cases e; rw [IsL.bls t q]; rfl
def oAll : LD := fun ds S Q => match ds with
  | [.lst es] => ∃ bs, bls es = some bs ∧ Q (.bl (bs.all id)) S
  | [.mut m] => ∃ es bs, S[m]? = some es ∧ bls es = some bs ∧ Q (.bl (bs.all id)) S
  | _ => False
theorem snd_all {K : PySem.W.Frag} : SndC mg (rAll K) oAll := by
  intro A S H xs ds Q Q' R l q k
  cases l with
  | nil => exact q.elim
  | cons h t =>
    cases t with
    | cons _ _ => cases h <;> exact q.elim
    | nil =>
      cases h <;> first | exact q.elim | skip
      · rename_i a vs ds n r l
        obtain ⟨bs, e, q⟩ := q
        exact ⟨a, bs, rfl, by rw [← l.bls e]; exact .of r, k _ S A _ H .refl R (.bl _) q⟩
      · rename_i a m ea
        obtain ⟨es, bs, hs, e, q⟩ := q
        obtain ⟨vs, h1, l⟩ := R.at_ m a es ea hs
        exact ⟨a, bs, rfl, by rw [← l.bls e]; exact .of h1, k _ S A _ H .refl R (.bl _) q⟩
/-- str(n) -/
def oStrI : LD := fun ds S Q => match ds with
  | [.int i] => i.natAbs.log2 < 1920 ∧ Q (.str (toString i)) S
  | _ => False
theorem snd_strI : SndC mg (fun xs H Q => ∃ i, xs = [.int i] ∧ i.natAbs.log2 < 1920 ∧ Q (.str (toString i)) H) oStrI := by
  intro A S H xs ds Q Q' R l q k
  cases l with
  | nil => exact q.elim
  | cons h t =>
    cases t with
    | cons _ _ => cases h <;> exact q.elim
    | nil =>
      cases h <;> first | exact q.elim | skip
      exact ⟨_, rfl, q.1, k _ S A _ H .refl R (.str _) q.2⟩

/-! ### own operators -/
def oOwnB (c : Str) (w : WF) : OD := fun x y S Q => (∃ fds, x = .ins c fds) ∧ ((∃ fds, y = .ins c fds) ∨ ∃ i, y = .int i) ∧ w [x, y] S Q
def oOwnI (c : Str) (w : WF) : OD := fun x y S Q => (∃ i, x = .int i) ∧ (∃ fds, y = .ins c fds) ∧ w [y, x] S Q
def oOwnU (c : Str) (w : WF) : UD := fun x S Q => (∃ fds, x = .ins c fds) ∧ w [x] S Q
def oOwnL (c : Str) (w : WF) : LD := fun ds S Q => match ds with
  | [x] => (∃ fds, x = .ins c fds) ∧ w [x] S Q
  | _ => False
theorem Is.insOf {A : List Addr} {H : Hp} {c : Str} {C : Addr} {v : V} {fds : List (Str × D)} (h : Is mg A H v (.ins c fds)) (hC : mg.f c = some (.ref C)) : Ins C H v := by
  cases h with
  | ins n e r l => rw [hC] at e; cases e; exact ⟨_, _, _, rfl, r⟩
theorem Is.intOf {A : List Addr} {H : Hp} {v : V} {i : Int} (h : Is mg A H v (.int i)) : v = .int i := by cases h; rfl
theorem snd_ownB {c : Str} {C : Addr} {w : WF} {E : XK} (hC : mg.f c = some (.ref C)) : SndR mg (rOwnB C (spW mg 2 w) E) (oOwnB c w) := by
  intro A S H x y dx dy Q Q' R hx hy q k
  obtain ⟨⟨fds, rfl⟩, hyy, q⟩ := q
  refine ⟨hx.insOf hC, ?_, A, S, [_, dy], Q', R, .cons hx (.cons hy .nil), rfl, q, k⟩
  rcases hyy with ⟨fds', rfl⟩ | ⟨i, rfl⟩
  · exact .inl (hy.insOf hC)
  · exact .inr ⟨i, hy.intOf⟩
theorem snd_ownI {c : Str} {C : Addr} {w : WF} {E : XK} (hC : mg.f c = some (.ref C)) : SndR mg (rOwnI C (spW mg 2 w) E) (oOwnI c w) := by
  intro A S H x y dx dy Q Q' R hx hy q k
  obtain ⟨⟨i, rfl⟩, ⟨fds, rfl⟩, q⟩ := q
  exact ⟨⟨i, hx.intOf⟩, hy.insOf hC, A, S, [_, _], Q', R, .cons hy (.cons hx .nil), rfl, q, k⟩
theorem snd_ownU {c : Str} {C : Addr} {w : WF} {E : XK} (hC : mg.f c = some (.ref C)) : SndU mg (rOwnU C (spW mg 1 w) E) (oOwnU c w) := by
  intro A S H x dx Q Q' R hx q k
  obtain ⟨⟨fds, rfl⟩, q⟩ := q
  exact ⟨hx.insOf hC, A, S, [_], Q', R, .cons hx .nil, rfl, q, k⟩
end

/-! ### == and != of data -/
mutual
def dat (S : MS) : D → Option PyData
  | .non => some .none
  | .bl b => some (.bool b)
  | .int i => some (.int i)
  | .str x => some (.str x)
  | .tup ds => (datL S ds).map .tuple
  | .lst ds => (datL S ds).map .list
  | _ => none
def datL (S : MS) : List D → Option (List PyData)
  | [] => some []
  | d :: ds => match dat S d, datL S ds with
    | some a, some l => some (a :: l)
    | _, _ => none
end
/-- with a list that may change at the top -/
def datM (S : MS) : D → Option PyData
  | .mut m => (S[m]?).bind fun ds => (datL S ds).map .list
  | d => dat S d
section
variable {mg : MG} {A : List Addr} {S : MS} {H : Hp} {K : PySem.W.Frag}
mutual
theorem Is.dp : ∀ {v : V} {d : D} {p : PyData}, Is mg A H v d → dat S d = some p → Dp K H v p
  | _, _, _, .non, e => by cases e; exact .non
  | _, _, _, .bl b, e => by cases e; exact .bl b
  | _, _, _, .int i, e => by cases e; exact .int i
  | _, _, _, .str x, e => by cases e; exact .str x
  | _, _, _, .ty n, e => by cases e
  | _, _, _, .cls _, e => by cases e
  | _, _, p, .tup n r l, e => by
    rw [dat] at e
    cases q : datL S _ with
    | none => rw [q] at e; cases e
    | some ps => rw [q] at e; cases e; exact .tup (.inl r) (IsL.dp l q)
  | _, _, p, .lst n r l, e => by
    rw [dat] at e
    cases q : datL S _ with
    | none => rw [q] at e; cases e
    | some ps => rw [q] at e; cases e; exact .lst (.of r) (IsL.dp l q)
  | _, _, p, .scr n r l, e => by cases e
  | _, _, p, .scrK r l, e => by cases e
  | _, _, _, .ins _ _ _ _, e => by cases e
  | _, _, _, .mut _, e => by cases e
  | _, _, _, .obj _, e => by cases e
  | _, _, _, .dct _ _ _, e => by cases e
  | _, _, _, .exc _ _ _, e => by cases e
theorem IsL.dp : ∀ {vs : List V} {ds : List D} {ps : List PyData}, IsL mg A H vs ds → datL S ds = some ps → DpAll K H vs ps
  | _, _, _, .nil, e => by cases e; exact .nil
  | _, _, _, .cons h t, e => by
    rw [datL] at e
    split at e
    · rename_i a l h1 h2
      cases e
      exact .cons (Is.dp h h1) (IsL.dp t h2)
    · cases e
end
theorem Is.dpM {v : V} {d : D} {p : PyData} (R : Rep mg A S H) (h : Is mg A H v d) (e : datM S d = some p) : Dp K H v p := by
  cases d with
  | «mut» m =>
    cases h with
    | «mut» ea =>
      rw [datM] at e
      cases q : S[m]? with
      | none => rw [q] at e; cases e
      | some ds =>
        rw [q] at e
        obtain ⟨vs, h1, l⟩ := R.at_ m _ ds ea q
        cases q2 : datL S ds with
        | none => rw [Option.bind_some, q2] at e; cases e
        | some ps => rw [Option.bind_some, q2] at e; cases e; exact .lst (.of h1) (IsL.dp l q2)
  | non => exact Is.dp (S := S) h e
  | bl b => exact Is.dp (S := S) h e
  | int i => exact Is.dp (S := S) h e
  | str x => exact Is.dp (S := S) h e
  | ty n => exact Is.dp (S := S) h e
  | cls c => exact Is.dp (S := S) h e
  | tup ds => exact Is.dp (S := S) h e
  | lst ds => exact Is.dp (S := S) h e
  | scr ds => exact Is.dp (S := S) h e
  | ins c fs => exact Is.dp (S := S) h e
  | obj a => exact Is.dp (S := S) h e
  | dct ks => exact Is.dp (S := S) h e
  | exc a d fs => exact Is.dp (S := S) h e
end
def oEqD : OD := fun x y S Q => ∃ d e, datM S x = some d ∧ datM S y = some e ∧ SeqAt.shaped d = true ∧ SeqAt.shaped e = true ∧ Q (.bl (PyData.eqv d e)) S
def oNeD : OD := fun x y S Q => ∃ d e, datM S x = some d ∧ datM S y = some e ∧ SeqAt.shaped d = true ∧ SeqAt.shaped e = true ∧ Q (.bl (!PyData.eqv d e)) S
theorem snd_eqD {mg : MG} {K : PySem.W.Frag} : SndR mg (rEqD K) oEqD := by
  intro A S H x y dx dy Q Q' R hx hy ⟨d, e, h1, h2, s1, s2, q⟩ k
  exact ⟨d, e, hx.dpM R h1, hy.dpM R h2, s1, s2, k _ S A _ H .refl R (.bl _) q⟩
theorem snd_neD {mg : MG} {K : PySem.W.Frag} : SndR mg (rNeD K) oNeD := by
  intro A S H x y dx dy Q Q' R hx hy ⟨d, e, h1, h2, s1, s2, q⟩ k
  exact ⟨d, e, hx.dpM R h1, hy.dpM R h2, s1, s2, k _ S A _ H .refl R (.bl _) q⟩
/-! ### texts, lists put together -/
def oCatS : OD := fun x y S Q => match x, y with
  | .str i, .str j => i.length + j.length ≤ sizeLine ∧ Q (.str (i ++ j)) S
  | _, _ => False
theorem snd_catS {mg : MG} : SndR mg (fun x y H Q => ∃ i j, x = .str i ∧ y = .str j ∧ i.length + j.length ≤ sizeLine ∧ Q (.str (i ++ j)) H) oCatS := by
  intro A S H x y dx dy Q Q' R hx hy q k
  cases hx <;> cases hy <;> first | exact q.elim | skip
  exact ⟨_, _, rfl, rfl, q.1, k _ S A _ H .refl R (.str _) q.2⟩
/-- what a list holds -/
def itemsD (S : MS) : D → Option (List D)
  | .lst ds => some ds
  | .mut m => S[m]?
  | _ => none
/-- xs + ys, the result never changes (oCatL) or may change (oCatLM) -/
def oCatL : OD := fun x y S Q => ∃ ds es, itemsD S x = some ds ∧ itemsD S y = some es ∧ ds.length + es.length ≤ sizeLine ∧ Q (.lst (ds ++ es)) S
def oCatLM : OD := fun x y S Q => ∃ ds es, itemsD S x = some ds ∧ itemsD S y = some es ∧ ds.length + es.length ≤ sizeLine ∧ Q (.mut S.length) (S ++ [ds ++ es])
theorem Is.items {mg : MG} {A : List Addr} {S : MS} {H : Hp} {x : V} {d : D} {ds : List D} (R : Rep mg A S H) (h : Is mg A H x d) (e : itemsD S d = some ds) : ∃ a vs, x = .ref a ∧ H a = some (.lst vs) ∧ IsL mg A H vs ds := by
  cases h with
  | @lst a vs es n r l => cases e; exact ⟨a, vs, rfl, r, l⟩
  | @«mut» a m ea =>
    obtain ⟨vs, h1, l⟩ := R.at_ m a ds ea e
    exact ⟨a, vs, rfl, h1, l⟩
  | _ => cases e
theorem snd_catL {mg : MG} : SndR mg rCat oCatL := by
  intro A S H x y dx dy Q Q' R hx hy q k
  obtain ⟨ds, es, h1, h2, hz, q⟩ := q
  obtain ⟨a, vs, rfl, e1, l1⟩ := hx.items R h1
  obtain ⟨b, ws, rfl, e2, l2⟩ := hy.items R h2
  refine ⟨a, b, vs, ws, rfl, rfl, e1, e2, by rw [l1.length, l2.length]; exact hz, fun p hp => ?_⟩
  have g := grow_new (o := .lst (vs ++ ws)) R hp
  exact k _ S A _ _ g (R.new hp) (.lst (R.fresh hp) upd_same ((l1.append l2).mono g)) q
theorem snd_catLM {mg : MG} : SndR mg rCat oCatLM := by
  intro A S H x y dx dy Q Q' R hx hy q k
  obtain ⟨ds, es, h1, h2, hz, q⟩ := q
  obtain ⟨a, vs, rfl, e1, l1⟩ := hx.items R h1
  obtain ⟨b, ws, rfl, e2, l2⟩ := hy.items R h2
  refine ⟨a, b, vs, ws, rfl, rfl, e1, e2, by rw [l1.length, l2.length]; exact hz, fun p hp => ?_⟩
  have g := grow_mut (o := .lst (vs ++ ws)) R hp
  refine k _ _ (A ++ [p]) _ _ g (R.newMut hp (l1.append l2)) (.mut ?_) q
  rw [← R.len, List.getElem?_append_right (Nat.le_refl _), Nat.sub_self]
  rfl
/-! ### append -/
section
variable {X : Cx} {o e : Expr} {es : List Expr} {to : TE} {wo : WD} {t : TA} {wl : WL} {apos cpos : Pos}
def wAppend (wo : WD) (wl : WL) : WD := fun ρ S Q => wo ρ S fun o S1 => match o with
  | .mut m => wl ρ S1 fun ds S2 => match ds with
    | [d] => ∃ acc, S2[m]? = some acc ∧ acc.length < sizeLine ∧ Q .non (S2.set m (acc ++ [d]))
    | _ => False
  | _ => False
theorem d_append (ho : PD X o to wo) (ha : PDA X (e :: es) t wl)
    (hbase : attributeBase o "append" X.env (eval o X.env) = eval o X.env := by rfl)
    (hfew : ((backTo cpos (starEach (e :: es) X.env)).all (fun x => !x.1) && (backToKw cpos (keywordEach [] X.env)).all (fun x => x.1.isSome)
      && decide ((e :: es).length + ([] : List Keyword).length + (if ([] : List Keyword).isEmpty then 0 else 1) < 30)) = true := by rfl)
    (hline : (apos.endLine == cpos.line) = true := by rfl) (hs : starEach (e :: es) X.env = (false, eval e X.env) :: starEach es X.env := by rfl) (hplain : (backTo cpos (starEach es X.env)).any (·.1) = false := by rfl) :
    PD X (.Call (.Attribute o "append" apos) (e :: es) [] cpos) (tBM X.K "list" rAppend to t) (wAppend wo wl) := by
  refine ⟨pe_bm PySem.F.plainAttrs_list PySem.F.slot_list_append PySem.F.type_list_append mt_append ho.pe ha.pe hbase hfew hline hs hplain, fun A S σ H ρ Q Q' R E h k => ?_⟩
  refine ho.sd A S σ H ρ _ _ R E h fun o S1 A1 v H1 g1 R1 hv q1 => ?_
  cases hv <;> first | exact q1.elim | skip
  rename_i a m ea
  obtain ⟨es0, he0⟩ := R1.gets ea
  obtain ⟨vs0, h0, _⟩ := R1.at_ m a es0 ea he0
  refine ⟨.inl ⟨rfl, _, .of h0⟩, ?_⟩
  refine ha.sd A1 S1 σ H1 ρ _ _ R1 (E.mono g1) q1 fun ds S2 A2 vs H2 g2 R2 hvs q2 => ?_
  match ds, hvs, q2 with
  | [d], hvs, q2 =>
    obtain ⟨v, rfl, hv⟩ := hvs.one
    obtain ⟨acc, e1, hz, q3⟩ := q2
    have ea2 := g2.pre _ _ ea
    obtain ⟨ws, h5, l5⟩ := R2.at_ m a acc ea2 e1
    refine ⟨a, ws, v, rfl, rfl, h5, by rw [l5.length]; exact hz, ?_⟩
    have gw := grow_write (H := H2) (o := .lst (ws ++ [v])) ea2
    exact k _ _ A2 _ _ ((g1.trans g2).trans gw) (R2.write ea2 (l5.append (.cons hv .nil))) .non q3
end
end DL

set_option Elab.async false
set_option linter.all false
set_option maxRecDepth 100000
/-! Rules: isinstance, texts of own objects, f-strings, slices, truth. -/
namespace DL
open PySem PySem.Spec PyProof.Rows L2
/-! ### isinstance -/
inductive TyK where
  | ty (n : String) | cls (c : Str)
def tyOf : D → Option TyK
  | .non => some (.ty "NoneType")
  | .bl _ => some (.ty "bool")
  | .int _ => some (.ty "int")
  | .str _ => some (.ty "str")
  | .tup _ => some (.ty "tuple")
  | .lst _ => some (.ty "list")
  | .mut _ => some (.ty "list")
  | .ins c _ => some (.cls c)
  | .dct _ => some (.ty "dict")
  | _ => none
def clOf : D → Option TyK
  | .ty n => some (.ty n)
  | .cls c => some (.cls c)
  | _ => none
def ValK (mg : MG) : TyK → Value → Prop
  | .ty n, v => v = .type n
  | .cls c, v => mg.f c = some v ∧ ∃ C, v = .ref C
/-- what isinstance asks of an instance's class -/
structure InsT (K : PySem.W.Frag) (C : Addr) : Prop where
  cl : Cls K C
  ha : PySem.W.findIn K (.ref C) "__class__" = some (some (.builtin "object.__class__"))
  hn : PySem.W.specialIn K (.builtin "object.__class__") "__get__" = some (some (.builtin "getset_descriptor.__get__"))
  htk : PySem.W.takesIn K (.builtin "object.__class__") = some true
  hm : PySem.W.mroIn K C (.type "object") = some true
structure IsiT (K : PySem.W.Frag) (mg : MG) (kt : TyK → TyK → Option Bool) : Prop where
  ok : ∀ a b r va vb, kt a b = some r → ValK mg a va → ValK mg b vb → PySem.W.kitOne K va vb = some r
  ins : ∀ c b r C, kt (.cls c) b = some r → mg.f c = some (.ref C) → InsT K C
def oIsi (kt : TyK → TyK → Option Bool) : LD := fun ds S Q => match ds with
  | [x, c] => match tyOf x, clOf c with
    | some a, some b => (match kt a b with | some r => Q (.bl r) S | none => False)
    | _, _ => False
  | _ => False
theorem snd_isi {K : PySem.W.Frag} {mg : MG} {kt : TyK → TyK → Option Bool} (T : IsiT K mg kt) : SndC mg (rIsi K) (oIsi kt) := by
  intro A S H xs ds Q Q' R l q k
  match ds, q, l with
  | [x, c], q, l =>
    obtain ⟨v, w, rfl, hx, hc⟩ := l.two
    have q : ∃ a b r, tyOf x = some a ∧ clOf c = some b ∧ kt a b = some r ∧ Q' (.bl r) S := by
      unfold oIsi at q
      dsimp only at q
      split at q
      · rename_i a b e1 e2
        split at q
        · rename_i r e3
          exact ⟨a, b, r, e1, e2, e3, q⟩
        · exact q.elim
      · exact q.elim
    obtain ⟨a, b, r, e1, e2, e3, q⟩ := q
    have hb : ∃ vb, ValK mg b vb ∧ ClsV w vb := by
      cases hc with
      | ty n => cases e2; exact ⟨_, rfl, .ty _⟩
      | cls e => cases e2; exact ⟨_, ⟨e, _, rfl⟩, .own _⟩
      | _ => cases e2
    obtain ⟨vb, vb1, vb2⟩ := hb
    have hq : Q (.bl r) H := k _ S A _ H .refl R (.bl _) q
    have fin : ∀ va, ValK mg a va → TyX K H v va → rIsi K [v, w] H Q := fun va h1 h2 => ⟨v, w, va, vb, r, rfl, vb2, h2, T.ok a b r va vb e3 h1 vb1, hq⟩
    cases hx with
    | non => cases e1; exact fin _ rfl (.base .non)
    | bl b => cases e1; exact fin _ rfl (.base (.bl _))
    | int i => cases e1; exact fin _ rfl (.base (.int _))
    | str x => cases e1; exact fin _ rfl (.base (.str _))
    | tup n rd l =>
      cases e1
      rcases rd with rd | ⟨o, rd⟩
      · exact fin _ rfl (.base (.tup rd))
      · exact fin _ rfl (.fTuple rd)
    | lst n rd l => cases e1; exact fin _ rfl (.base (.lst rd))
    | scr n rd l => cases e1
    | scrK r l => cases e1
    | ins n e rd l =>
      cases e1
      have t := T.ins _ _ _ _ e3 e
      exact fin _ ⟨e, _, rfl⟩ (.base (.ins rd t.cl t.ha t.hn t.htk t.hm))
    | «mut» ea =>
      cases e1
      obtain ⟨es, he⟩ := R.gets ea
      obtain ⟨vs, h1, _⟩ := R.at_ _ _ es ea he
      exact fin _ rfl (.base (.lst h1))
    | ty n => cases e1
    | cls e => cases e1
    | obj a => cases e1
    | dct n rd l => cases e1; exact fin _ rfl (.base (.dK rd))
    | exc n rd l => cases e1
/-! ### abs, str, repr of an own object -/
section
variable {X : Cx} {k : Nat} {C g : Addr} {fd : FuncData} {ps : List Str} {sp : Sp}
theorem run_at {pins : List (Addr × Obj)} {σ : L2.St} {H : Hp} {s : Shared} {Q : VK} {us : List Value} {vs : List V} {A : Around} (F : FnOk X.prog X.w X.K X.mg X.base CX0 k g fd ps sp) (hr : Room k A) (he : Env0 X.prog X.w X.K X.mg X.base A X.stack s H) (hb : Binds X.K fd ps [])
    (I : Inv X pins σ H s) (r : Vals vs us) (h : sp vs H Q E0) : wpAny (model X.prog X.w) A (call (.ref g) us) (EP X pins σ Q) X.xe s := by
  have hl : us.length = ps.length := by rw [← r.length]; exact F.len _ _ _ _ h
  refine wpAny_call (codeAny_mono (F.run A X.stack s H ⟨us, []⟩ us vs Q E0 hr he (by simpa using hb s us I.kIn (by simpa using hl)) r h) fun r s' hq => ?_)
  cases r with
  | error e => exact False.elim hq
  | ok fl =>
    cases fl with
    | ret u => exact I.after hq
    | next => exact False.elim hq
    | brk => exact False.elim hq
    | cont => exact False.elim hq
def rOwn1 (C : Addr) (sp : Sp) : List V → Hp → VK → Prop := fun xs H Q => ∃ a dx fs, xs = [V.ref a] ∧ H a = some (.ins C dx fs) ∧ sp [.ref a] H Q E0
def rOwnS (C : Addr) (sp : Sp) : List V → Hp → VK → Prop := fun xs H Q => ∃ a dx fs, xs = [V.ref a] ∧ H a = some (.ins C dx fs) ∧ sp [.ref a] H (fun v H' => (∃ z, v = .str z) ∧ Q v H') E0
theorem call_absOwn (M : OwnM X.K C "__abs__" g) (F : FnOk X.prog X.w X.K X.mg X.base CX0 k g fd ps sp) (hr : Room (k + 1) X.A) (hb : Binds X.K fd ps []) : CallR X (.builtin "abs") (rOwn1 C sp) := by
  intro pins s σ H xs us Q I r h
  obtain ⟨a, dx, fs, rfl, ha, q⟩ := h
  obtain ⟨u, rfl, ru⟩ := vals1 r
  cases (show u = Value.ref a from ru)
  obtain ⟨mA, OM, _⟩ := ins_get I.hok ha
  obtain ⟨od, J, _⟩ := OM.look
  refine Calls.call_function_entry kind_abs plain_abs entry_abs (args_abs _) ?_
  unfold Builtin.«abs»
  refine wpAny_bind (m := oneArg "abs" _) (wpAny_pure ?_)
  refine wpAny_bind (m := callSpecial? (.ref a) (Str.ofString "__abs__")) (PySem.W.special_fn I.kIn J M.at_ (beq_iff_eq.mp M.fn) ?_)
  refine wpAny_mono (run_at (us := [.ref a]) (vs := [.ref a]) (A := X.A.in1) F hr.in1 I.env0.in1 hb I (.cons rfl .nil) q) (fun w s' z => ?_) fun _ _ e => e
  exact wpAny_pure ⟨_, rfl, z⟩
theorem call_strOwn (M : OwnM X.K C "__str__" g) (F : FnOk X.prog X.w X.K X.mg X.base CX0 k g fd ps sp) (hr : Room (k + 2) X.A) (hb : Binds X.K fd ps []) : CallR X (.type "str") (rOwnS C sp) := by
  intro pins s σ H xs us Q I r h
  obtain ⟨a, dx, fs, rfl, ha, q⟩ := h
  obtain ⟨u, rfl, ru⟩ := vals1 r
  cases (show u = Value.ref a from ru)
  obtain ⟨mA, OM, _⟩ := ins_get I.hok ha
  obtain ⟨od, J, _⟩ := OM.look
  have hr2 : Room k X.A.in1.in1 := (show Room (k + 1) X.A.in1 from Room.in1 hr).in1
  refine PySem.W.kso_call hr2.units0 I.kIn J M.at_ M.fn ?_
  refine wpAny_mono (run_at (us := [.ref a]) (vs := [.ref a]) (A := X.A.in1.in1) F hr2 I.env0.in1.in1 hb I (.cons rfl .nil) q) (fun w s' z => ?_) fun _ _ e => e
  obtain ⟨v, H', I', rv, ⟨zz, rfl⟩, qq⟩ := z
  obtain ⟨t, rfl⟩ := (show ∃ t, w = Value.str zz t from rv)
  exact ⟨.str zz, H', I', ⟨t, rfl⟩, qq⟩
theorem call_reprOwn (M : OwnM X.K C "__repr__" g) (F : FnOk X.prog X.w X.K X.mg X.base CX0 k g fd ps sp) (hr : Room (k + 1) X.A) (hb : Binds X.K fd ps []) : CallR X (.builtin "repr") (rOwnS C sp) := by
  intro pins s σ H xs us Q I r h
  obtain ⟨a, dx, fs, rfl, ha, q⟩ := h
  obtain ⟨u, rfl, ru⟩ := vals1 r
  cases (show u = Value.ref a from ru)
  obtain ⟨mA, OM, _⟩ := ins_get I.hok ha
  obtain ⟨od, J, _⟩ := OM.look
  obtain ⟨m, hF⟩ := I.fr
  refine PySem.W.repr_K hr.in1.units0 hF I.ok.mod.kin J M.at_ M.fn ?_
  refine wpAny_mono (run_at (us := [.ref a]) (vs := [.ref a]) (A := X.A.in1) F hr.in1 I.env0.in1 hb I (.cons rfl .nil) q) (fun w s' z => ?_) fun _ _ e => e
  obtain ⟨v, H', I', rv, ⟨zz, rfl⟩, qq⟩ := z
  obtain ⟨t, rfl⟩ := (show ∃ t, w = Value.str zz t from rv)
  exact ⟨.str zz, H', I', ⟨t, rfl⟩, qq⟩
end
section
variable {mg : MG}
theorem snd_own1 {c : Str} {C : Addr} {w : WF} (hC : mg.f c = some (.ref C)) : SndC mg (rOwn1 C (spW mg 1 w)) (oOwnL c w) := by
  intro A S H xs ds Q Q' R l q k
  match ds, q, l with
  | [x], q, l =>
    obtain ⟨v, rfl, hx⟩ := l.one
    obtain ⟨⟨fds, rfl⟩, q⟩ := q
    obtain ⟨a, dx, fs, rfl, ha⟩ := hx.insOf hC
    exact ⟨a, dx, fs, rfl, ha, A, S, [_], Q', R, .cons hx .nil, rfl, q, k⟩
/-- its answer is a text -/
def oOwnS (c : Str) (w : WF) : LD := fun ds S Q => match ds with
  | [x] => (∃ fds, x = .ins c fds) ∧ w [x] S fun d S' => (∃ z, d = .str z) ∧ Q d S'
  | _ => False
theorem snd_ownS {c : Str} {C : Addr} {w : WF} (hC : mg.f c = some (.ref C)) : SndC mg (rOwnS C (spW mg 1 w)) (oOwnS c w) := by
  intro A S H xs ds Q Q' R l q k
  match ds, q, l with
  | [x], q, l =>
    obtain ⟨v, rfl, hx⟩ := l.one
    obtain ⟨⟨fds, rfl⟩, q⟩ := q
    obtain ⟨a, dx, fs, rfl, ha⟩ := hx.insOf hC
    refine ⟨a, dx, fs, rfl, ha, A, S, [_], _, R, .cons hx .nil, rfl, q, fun d S' A' v H' g R' hv qq => ?_⟩
    obtain ⟨⟨z, rfl⟩, qq⟩ := qq
    cases hv
    exact ⟨⟨z, rfl⟩, k _ S' A' _ H' g R' (.str z) qq⟩
end
/-! ### f-strings -/
def wFmt (we : WD) : WD := fun ρ S Q => we ρ S fun x S1 => match x with
  | .str y => y.length ≤ sizeLine ∧ Q (.str y) S1
  | .int i => i.natAbs.log2 < 1920 ∧ Q (.str (toString i)) S1
  | _ => False
def wJs : List WD → Str → DEnv → MS → (Str → MS → Prop) → Prop
  | [], acc, _, S, Q => Q acc S
  | w :: ws, acc, ρ, S, Q => w ρ S fun x S1 => match x with
    | .str y => (acc ++ y).length ≤ sizeLine ∧ wJs ws (acc ++ y) ρ S1 Q
    | _ => False
def wJoined (ws : List WD) : WD := fun ρ S Q => wJs ws Str.empty ρ S fun out S1 => Q (.str out) S1
section
variable {X : Cx} {pos : Pos}
theorem d_fmt {e : Expr} {te : TE} {we : WD} (he : PD X e te we) : PD X (.FormattedValue e (-1) none pos) (tFmt te) (wFmt we) := by
  refine ⟨pe_fmt he.pe, fun A S σ H ρ Q Q' R E h k => ?_⟩
  refine he.sd A S σ H ρ _ _ R E h fun d S1 A1 v H1 g1 R1 hv q1 => ?_
  cases hv <;> first | exact q1.elim | skip
  · exact .inr ⟨_, rfl, q1.1, k _ S1 A1 _ H1 g1 R1 (.str _) q1.2⟩
  · exact .inl ⟨_, rfl, q1.1, k _ S1 A1 _ H1 g1 R1 (.str _) q1.2⟩
inductive PDJ (X : Cx) : List Expr → List TE → List WD → Prop where
  | nil : PDJ X [] [] []
  | cons {e : Expr} {t : TE} {w : WD} {es : List Expr} {ts : List TE} {ws : List WD} (h : PD X e t w) (r : PDJ X es ts ws) : PDJ X (e :: es) (t :: ts) (w :: ws)
theorem PDJ.pj {es : List Expr} {ts : List TE} {ws : List WD} (h : PDJ X es ts ws) : PJ X es ts := by
  induction h with
  | nil => exact .nil
  | cons h _ ih => exact .cons h.pe ih
theorem PDJ.sd {es : List Expr} {ts : List TE} {ws : List WD} (h : PDJ X es ts ws) : ∀ (acc : Str) A S σ H ρ (Q : Str → Hp → Prop) (Q' : Str → MS → Prop), Rep X.G A S H → EnvD X.G A H σ ρ → wJs ws acc ρ S Q' →
    (∀ out S' A' H', Grow A A' H H' → Rep X.G A' S' H' → Q' out S' → Q out H') → tJs ts acc σ H Q := by
  induction h with
  | nil => intro acc A S σ H ρ Q Q' R E q k; exact k acc S A H .refl R q
  | cons h _ ih =>
    intro acc A S σ H ρ Q Q' R E q k
    refine h.sd A S σ H ρ _ _ R E q fun d S1 A1 v H1 g1 R1 hv q1 => ?_
    cases hv <;> first | exact q1.elim | skip
    exact ⟨_, rfl, q1.1, ih _ A1 S1 σ H1 ρ Q Q' R1 (E.mono g1) q1.2 fun out S' A' H' g R' z => k out S' A' H' (g1.trans g) R' z⟩
theorem d_joined {v1 v2 : Expr} {rest : List Expr} {ts : List TE} {ws : List WD} (h : PDJ X (v1 :: v2 :: rest) ts ws) : PD X (.JoinedStr (v1 :: v2 :: rest) pos) (fun σ H Q => tJs ts Str.empty σ H fun out H1 => Q (.str out) H1) (wJoined ws) :=
  ⟨pe_joined h.pj, fun A S σ H ρ Q Q' R E q k => h.sd Str.empty A S σ H ρ _ _ R E q fun out S' A' H' g R' z => k (.str out) S' A' _ H' g R' (.str out) z⟩
end
/-! ### slices of lists -/
def cutD (xs : List D) (lo hi : Option Int) : List D := (xs.drop (HT.sIx xs.length 0 lo)).take (HT.sIx xs.length xs.length hi - HT.sIx xs.length 0 lo)
theorem IsL.drop {mg : MG} {A : List Addr} {H : Hp} : ∀ {vs : List V} {ds : List D} (n : Nat), IsL mg A H vs ds → IsL mg A H (vs.drop n) (ds.drop n)
  | _, _, 0, l => l
  | _, _, _ + 1, .nil => .nil
  | _, _, n + 1, .cons _ t => IsL.drop n t
theorem IsL.take {mg : MG} {A : List Addr} {H : Hp} : ∀ {vs : List V} {ds : List D} (n : Nat), IsL mg A H vs ds → IsL mg A H (vs.take n) (ds.take n)
  | _, _, 0, _ => .nil
  | _, _, _ + 1, .nil => .nil
  | _, _, n + 1, .cons h t => .cons h (IsL.take n t)
theorem IsL.cut {mg : MG} {A : List Addr} {H : Hp} {vs : List V} {ds : List D} (lo hi : Option Int) (l : IsL mg A H vs ds) : IsL mg A H (cutV vs lo hi) (cutD ds lo hi) := by
  unfold cutV cutD
  rw [l.length]
  exact (l.drop _).take _
/-- xs[:n], n written -/
def wCutTo (we : WD) (n : Int) : WD := fun ρ S Q => we ρ S fun x S1 => match x with
  | .scr ds => Q (.lst (cutD ds none (some n))) S1
  | _ => False
theorem d_cutTo {X : Cx} {e : Expr} {te : TE} {we : WD} {n : Int} {j p1 p2 pos} (he : PD X e te we) : PD X (.Subscript e (.Slice none (some (.Constant (.int n) j p1)) none p2) pos) (tSl (rSlL X.K) te tNoPart (tPart (tC (.int n)))) (wCutTo we n) := by
  refine ⟨pe_slice sl_list he.pe po_none (po_some pe_int), fun A S σ H ρ Q Q' R E h k => ?_⟩
  refine he.sd A S σ H ρ _ _ R E h fun d S1 A1 v H1 g1 R1 hv q1 => ?_
  cases d <;> first | exact q1.elim | skip
  obtain ⟨a, vs, rfl, sq, l⟩ := hv.scrAt
  refine ⟨n, rfl, a, vs, rfl, sq _ _ .refl, fun p hp => ?_⟩
  have g := grow_new (o := .lst (cutV vs none (some n))) R1 hp
  exact k _ S1 A1 _ _ (g1.trans g) (R1.new hp) (.lst (R1.fresh hp) upd_same ((l.cut _ _).mono g)) q1
/-! ### truth -/
def wTruth (we : WD) : WB := fun ρ S Q => we ρ S fun x S1 => match x with
  | .non => Q false S1
  | .bl b => Q b S1
  | .int i => Q (i != 0) S1
  | .str y => y.length ≤ sizeLine ∧ Q ((y.length : Int) != 0) S1
  | .lst ds => Q (!ds.isEmpty) S1
  | .scr ds => Q (!ds.isEmpty) S1
  | .tup ds => Q (!ds.isEmpty) S1
  | .mut m => ∃ ds, S1[m]? = some ds ∧ Q (!ds.isEmpty) S1
  | _ => False
theorem isEmpty_isL {mg : MG} {A : List Addr} {H : Hp} {vs : List V} {ds : List D} (l : IsL mg A H vs ds) : vs.isEmpty = ds.isEmpty := by cases l <;> rfl
theorem dt_truth {X : Cx} {e : Expr} {te : TE} {we : WD} (he : PD X e te we) (hi : ∀ whole, isTrue e X.env whole = (do let v ← whole; standAt e.pos; holding [v] (truthy v)) := by intro _; rfl) :
    PDT X e (fun σ H Q => te σ H fun x H' => ∃ k, TruV X.K x H' k ∧ Q k H') (wTruth we) := by
  refine ⟨pt_truth he.pe hi, fun A S σ H ρ Q Q' R E h k => ?_⟩
  refine he.sd A S σ H ρ _ _ R E h fun d S1 A1 v H1 g1 R1 hv q1 => ?_
  cases hv <;> first | exact q1.elim | skip
  · exact ⟨false, rfl, k _ S1 A1 H1 g1 R1 q1⟩
  · exact ⟨_, rfl, k _ S1 A1 H1 g1 R1 q1⟩
  · exact ⟨_, rfl, k _ S1 A1 H1 g1 R1 q1⟩
  · exact ⟨_, ⟨q1.1, rfl⟩, k _ S1 A1 H1 g1 R1 q1.2⟩
  · rename_i a vs ds n r l
    exact ⟨!vs.isEmpty, .inr (.inl ⟨vs, .inl r, rfl⟩), by rw [isEmpty_isL l]; exact k _ S1 A1 H1 g1 R1 q1⟩
  · rename_i a vs ds n r l
    exact ⟨!vs.isEmpty, .inl ⟨vs, .of r, rfl⟩, by rw [isEmpty_isL l]; exact k _ S1 A1 H1 g1 R1 q1⟩
  · rename_i a vs ds n r l
    exact ⟨!vs.isEmpty, .inl ⟨vs, .inl r, rfl⟩, by rw [isEmpty_isL l]; exact k _ S1 A1 H1 g1 R1 q1⟩
  · rename_i a vs ds r l
    exact ⟨!vs.isEmpty, .inl ⟨vs, r _, rfl⟩, by rw [isEmpty_isL l]; exact k _ S1 A1 H1 g1 R1 q1⟩
  · rename_i a m ea
    obtain ⟨ds, hs, q⟩ := q1
    obtain ⟨vs, h1, l⟩ := R1.at_ m a ds ea hs
    exact ⟨!vs.isEmpty, .inl ⟨vs, .of h1, rfl⟩, by rw [isEmpty_isL l]; exact k _ S1 A1 H1 g1 R1 q⟩
end DL

set_option Elab.async false
set_option linter.all false
set_option maxRecDepth 100000
/-! The built-in names. -/
namespace DL
open PySem PySem.Spec PyProof.Rows L2
theorem bt_isinstance : bootBuiltins "isinstance" = some (.builtin "isinstance") := by decide +kernel
theorem bt_repr : bootBuiltins "repr" = some (.builtin "repr") := by decide +kernel
theorem bt_abs : bootBuiltins "abs" = some (.builtin "abs") := by decide +kernel
theorem bt_len : bootBuiltins "len" = some (.builtin "len") := by decide +kernel
theorem bt_max : bootBuiltins "max" = some (.builtin "max") := by decide +kernel
theorem bt_min : bootBuiltins "min" = some (.builtin "min") := by decide +kernel
theorem bt_divmod : bootBuiltins "divmod" = some (.builtin "divmod") := by decide +kernel
theorem bt_all : bootBuiltins "all" = some (.builtin "all") := by decide +kernel
theorem bt_int : bootBuiltins "int" = some (.type "int") := by decide +kernel
theorem bt_bool : bootBuiltins "bool" = some (.type "bool") := by decide +kernel
theorem bt_str : bootBuiltins "str" = some (.type "str") := by decide +kernel
theorem bt_list : bootBuiltins "list" = some (.type "list") := by decide +kernel
theorem bt_tuple : bootBuiltins "tuple" = some (.type "tuple") := by decide +kernel
end DL

set_option Elab.async false
set_option linter.all false
set_option maxRecDepth 100000
/-! One class beside the ints: operators by what stands on both sides. -/
namespace DL
open PySem PySem.Spec PyProof.Rows L2
abbrev OInt := Int → Int → MS → (D → MS → Prop) → Prop
def oJust (oi : OInt) : OD := fun x y S Q => match x, y with
  | .int i, .int j => oi i j S Q
  | _, _ => False
/-- ints by oi, an instance on the left by wl, on the right of an int by wr -/
def oU2 (oi : OInt) (c : Str) (wl wr : WF) : OD := fun x y S Q => match x, y with
  | .int i, .int j => oi i j S Q
  | .ins c' fs, .ins d gs => c' = c ∧ d = c ∧ wl [.ins c' fs, .ins d gs] S Q
  | .ins c' fs, .int i => c' = c ∧ wl [.ins c' fs, .int i] S Q
  | .int i, .ins d gs => d = c ∧ wr [.ins d gs, .int i] S Q
  | _, _ => False
def wNo : WF := fun _ _ _ => False
def rU2 (ri : L2.R2) (C : Addr) (mg : MG) (wl wr : WF) : L2.R2 := fun x y H Q => ri x y H Q ∨ rOwnB C (spW mg 2 wl) E0 x y H Q ∨ rOwnI C (spW mg 2 wr) E0 x y H Q
def rU1 (ri : L2.R2) (C : Addr) (mg : MG) (wl : WF) : L2.R2 := fun x y H Q => ri x y H Q ∨ rOwnB C (spW mg 2 wl) E0 x y H Q
theorem snd_U2 {mg : MG} {ri : L2.R2} {oi : OInt} {c : Str} {C : Addr} {wl wr : WF} (hi : SndR mg ri (oJust oi)) (hC : mg.f c = some (.ref C)) : SndR mg (rU2 ri C mg wl wr) (oU2 oi c wl wr) := by
  refine SndR.imp (SndR.or hi (SndR.or (snd_ownB hC) (snd_ownI hC))) fun x y S Q q => ?_
  cases x <;> cases y <;> first | exact q.elim | skip
  · exact .inl q
  · obtain ⟨rfl, q⟩ := q
    exact .inr (.inr ⟨⟨_, rfl⟩, ⟨_, rfl⟩, q⟩)
  · obtain ⟨rfl, q⟩ := q
    exact .inr (.inl ⟨⟨_, rfl⟩, .inr ⟨_, rfl⟩, q⟩)
  · obtain ⟨rfl, rfl, q⟩ := q
    exact .inr (.inl ⟨⟨_, rfl⟩, .inl ⟨_, rfl⟩, q⟩)
theorem snd_U1 {mg : MG} {ri : L2.R2} {oi : OInt} {c : Str} {C : Addr} {wl : WF} (hi : SndR mg ri (oJust oi)) (hC : mg.f c = some (.ref C)) : SndR mg (rU1 ri C mg wl) (oU2 oi c wl wNo) := by
  refine SndR.imp (SndR.or hi (snd_ownB hC)) fun x y S Q q => ?_
  cases x <;> cases y <;> first | exact q.elim | skip
  · exact .inl q
  · exact q.2.elim
  · obtain ⟨rfl, q⟩ := q
    exact .inr ⟨⟨_, rfl⟩, .inr ⟨_, rfl⟩, q⟩
  · obtain ⟨rfl, rfl, q⟩ := q
    exact .inr ⟨⟨_, rfl⟩, .inl ⟨_, rfl⟩, q⟩
/-- the ints' part -/
def iAdd : OInt := fun i j S Q => Q (.int (i + j)) S
def iSub : OInt := fun i j S Q => Q (.int (i - j)) S
def iMul : OInt := fun i j S Q => CMulW i j ∧ Q (.int (i * j)) S
def iFdiv : OInt := fun i j S Q => CDivWN i j ∧ Q (.int (i.fdiv j)) S
def iMod : OInt := fun i j S Q => j ≠ 0 ∧ Q (.int (i.fmod j)) S
def iEq : OInt := fun i j S Q => Q (.bl (decide (i = j))) S
def iNe : OInt := fun i j S Q => Q (.bl (!decide (i = j))) S
def iLt : OInt := fun i j S Q => Q (.bl (decide (i < j))) S
def iLe : OInt := fun i j S Q => Q (.bl (decide (i ≤ j))) S
def iGt : OInt := fun i j S Q => Q (.bl (decide (j < i))) S
def iGe : OInt := fun i j S Q => Q (.bl (decide (j ≤ i))) S
section
variable {mg : MG}
theorem snd_just0 {g : Int → Int → V} {g' : Int → Int → D} (hg : ∀ i j A H, Is mg A H (g i j) (g' i j)) : SndR mg (rI0 g) (oJust fun i j S Q => Q (g' i j) S) := SndR.imp (snd_rI0 hg) fun x y S Q q => by
  cases x <;> cases y <;> first | exact q.elim | exact q
theorem snd_justC {C : Int → Int → Prop} {g : Int → Int → V} {g' : Int → Int → D} (hg : ∀ i j A H, Is mg A H (g i j) (g' i j)) : SndR mg (rI C g) (oJust fun i j S Q => C i j ∧ Q (g' i j) S) := SndR.imp (snd_rI hg) fun x y S Q q => by
  cases x <;> cases y <;> first | exact q.elim | exact q
theorem snd_iAdd : SndR mg (rI0 fun i j => .int (i + j)) (oJust iAdd) := snd_just0 fun _ _ _ _ => .int _
theorem snd_iSub : SndR mg (rI0 fun i j => .int (i - j)) (oJust iSub) := snd_just0 fun _ _ _ _ => .int _
theorem snd_iMul : SndR mg (rI CMulW fun i j => .int (i * j)) (oJust iMul) := snd_justC fun _ _ _ _ => .int _
theorem snd_iFdiv : SndR mg (rI CDivWN fun i j => .int (i.fdiv j)) (oJust iFdiv) := snd_justC fun _ _ _ _ => .int _
theorem snd_iMod : SndR mg (rI (fun _ j => j ≠ 0) fun i j => .int (i.fmod j)) (oJust iMod) := snd_justC fun _ _ _ _ => .int _
theorem snd_iLt : SndR mg (rI0 fun i j => .bl (decide (i < j))) (oJust iLt) := snd_just0 fun _ _ _ _ => .bl _
theorem snd_iLe : SndR mg (rI0 fun i j => .bl (decide (i ≤ j))) (oJust iLe) := snd_just0 fun _ _ _ _ => .bl _
theorem snd_iGt : SndR mg (rI0 fun i j => .bl (decide (j < i))) (oJust iGt) := snd_just0 fun _ _ _ _ => .bl _
theorem snd_iGe : SndR mg (rI0 fun i j => .bl (decide (j ≤ i))) (oJust iGe) := snd_just0 fun _ _ _ _ => .bl _
/-- == and != of ints, of texts -/
theorem snd_iEq : SndR mg rEq (oJust iEq) := by
  intro A S H x y dx dy Q Q' R hx hy q k
  cases dx <;> cases dy <;> first | exact q.elim | skip
  cases hx; cases hy
  refine ⟨rfl, ?_⟩
  rename_i i j
  have e : decide (V.int i = V.int j) = decide (i = j) := by simp
  rw [e]
  exact k _ S A _ H .refl R (.bl _) q
theorem snd_iNe : SndR mg rNe (oJust iNe) := by
  intro A S H x y dx dy Q Q' R hx hy q k
  cases dx <;> cases dy <;> first | exact q.elim | skip
  cases hx; cases hy
  refine ⟨rfl, ?_⟩
  rename_i i j
  have e : decide (V.int i = V.int j) = decide (i = j) := by simp
  rw [e]
  exact k _ S A _ H .refl R (.bl _) q
/-- minus, abs -/
def oUn1 (oi : Int → MS → (D → MS → Prop) → Prop) (c : Str) (w : WF) : UD := fun x S Q => match x with
  | .int i => oi i S Q
  | .ins c' fs => c' = c ∧ w [.ins c' fs] S Q
  | _ => False
def rUn1 (ri : V → Hp → VK → Prop) (C : Addr) (mg : MG) (w : WF) : V → Hp → VK → Prop := fun x H Q => ri x H Q ∨ rOwnU C (spW mg 1 w) E0 x H Q
def iNeg : Int → MS → (D → MS → Prop) → Prop := fun i S Q => Q (.int (-i)) S
theorem snd_neg1 {c : Str} {C : Addr} {w : WF} (hC : mg.f c = some (.ref C)) : SndU mg (rUn1 (rU fun i => .int (-i)) C mg w) (oUn1 iNeg c w) := by
  refine SndU.imp (SndU.or (snd_rU (g' := fun i => .int (-i)) fun _ _ _ => .int _) (snd_ownU hC)) fun x S Q q => ?_
  cases x <;> first | exact q.elim | skip
  · exact .inl q
  · obtain ⟨rfl, q⟩ := q
    exact .inr ⟨⟨_, rfl⟩, q⟩
/-- a built-in of one value: of an int by oi, of an instance by w -/
def oL1 (oi : Int → MS → (D → MS → Prop) → Prop) (c : Str) (w : WF) : LD := fun ds S Q => match ds with
  | [.int i] => oi i S Q
  | [.ins c' fs] => c' = c ∧ w [.ins c' fs] S Q
  | _ => False
def iAbs : Int → MS → (D → MS → Prop) → Prop := fun i S Q => Q (.int (if i < 0 then -i else i)) S
def iStr : Int → MS → (D → MS → Prop) → Prop := fun i S Q => i.natAbs.log2 < 1920 ∧ Q (.str (toString i)) S
def rAbs1 (C : Addr) (mg : MG) (w : WF) : List V → Hp → VK → Prop := fun xs H Q => (∃ i, xs = [.int i] ∧ Q (.int (if i < 0 then -i else i)) H) ∨ rOwn1 C (spW mg 1 w) xs H Q
theorem snd_abs1 {c : Str} {C : Addr} {w : WF} (hC : mg.f c = some (.ref C)) : SndC mg (rAbs1 C mg w) (oL1 iAbs c w) := by
  refine SndC.imp (SndC.or snd_absI (snd_own1 hC)) fun xs S Q q => ?_
  match xs, q with
  | [.int i], q => exact .inl q
  | [.ins c' fs], q =>
    have q' : c' = c ∧ w [.ins c' fs] S Q := q
    obtain ⟨rfl, q'⟩ := q'
    exact .inr ⟨⟨_, rfl⟩, q'⟩
def oS1 (oi : Int → MS → (D → MS → Prop) → Prop) (c : Str) (w : WF) : LD := fun ds S Q => match ds with
  | [.int i] => oi i S Q
  | [.ins c' fs] => c' = c ∧ w [.ins c' fs] S fun d S' => match d with
    | .str z => Q (.str z) S'
    | _ => False
  | _ => False
def rStr1 (C : Addr) (mg : MG) (w : WF) : List V → Hp → VK → Prop := fun xs H Q => (∃ i, xs = [.int i] ∧ i.natAbs.log2 < 1920 ∧ Q (.str (toString i)) H) ∨ rOwnS C (spW mg 1 w) xs H Q
theorem snd_str1 {c : Str} {C : Addr} {w : WF} (hw : ∀ ds S Q Q', (∀ d S, Q d S → Q' d S) → w ds S Q → w ds S Q') (hC : mg.f c = some (.ref C)) : SndC mg (rStr1 C mg w) (oS1 iStr c w) := by
  refine SndC.imp (SndC.or snd_strI (snd_ownS hC)) fun xs S Q q => ?_
  match xs, q with
  | [.int i], q => exact .inl q
  | [.ins c' fs], q =>
    have q' : c' = c ∧ w [.ins c' fs] S (fun d S' => match d with
      | .str z => Q (.str z) S'
      | _ => False) := q
    obtain ⟨rfl, q'⟩ := q'
    refine .inr ⟨⟨_, rfl⟩, hw _ _ _ _ (fun d S h => ?_) q'⟩
    cases d <;> first | exact h.elim | exact ⟨⟨_, rfl⟩, h⟩
/-- repr of an instance alone -/
def oR1 (c : Str) (w : WF) : LD := fun ds S Q => match ds with
  | [.ins c' fs] => c' = c ∧ w [.ins c' fs] S fun d S' => match d with
    | .str z => Q (.str z) S'
    | _ => False
  | _ => False
theorem snd_repr1 {c : Str} {C : Addr} {w : WF} (hw : ∀ ds S Q Q', (∀ d S, Q d S → Q' d S) → w ds S Q → w ds S Q') (hC : mg.f c = some (.ref C)) : SndC mg (rOwnS C (spW mg 1 w)) (oR1 c w) := by
  refine SndC.imp (snd_ownS hC) fun xs S Q q => ?_
  match xs, q with
  | [.ins c' fs], q =>
    have q' : c' = c ∧ w [.ins c' fs] S (fun d S' => match d with
      | .str z => Q (.str z) S'
      | _ => False) := q
    obtain ⟨rfl, q'⟩ := q'
    refine ⟨⟨_, rfl⟩, hw _ _ _ _ (fun d S h => ?_) q'⟩
    cases d <;> first | exact h.elim | exact ⟨⟨_, rfl⟩, h⟩
end
section
variable {X : Cx}
/-- three names at once -/
theorem _root_.L2.CallR.orD {f : Value} {r r' : List V → Hp → VK → Prop} (h : CallR X f r) (h' : CallR X f r') : CallR X f (fun xs H Q => r xs H Q ∨ r' xs H Q) := DL.CallR.or h h'
end
end DL

set_option Elab.async false
set_option linter.all false
set_option maxRecDepth 100000
/-! Calls by two names, in the other order; three names at once. -/
namespace DL
open PySem PySem.Spec PyProof.Rows L2
structure PDK (X : Cx) (kws : List Keyword) (t : TA) (w : WL) : Prop where
  pe : PK X kws t
  sd : SndA X.G t w
section
variable {X : Cx} {CX : CXT} {k : Nat} {f C : Addr} {fd : FuncData} {ps ks : List Str} {sp : Sp} {E : XK} {x : Str} {p pos kpos : Pos} {kws : List Keyword} {t tk : TA} {g : List Value → List Value → List Value} {gV : List V → List V → List V} {nm : Option Str} {e : Expr} {te : TE} {we : WD} {wl : WL}
theorem pe_callK0 (F : FnOk X.prog X.w X.K X.mg X.base CX k f fd ps sp) (hr : Room k X.A) (hg : Gl X x) (hm : X.mg x = some (.ref f)) (hk : PySem.W.keepIn X.K (.ref f) = true) (hb : KBinds X.K fd ps ks g gV) (hx : Passes CX X E) (hkw : PK X kws tk)
    (hall : (backToKw pos (keywordEach kws X.env)).all (·.1.isSome) = true := by rfl) (hks : (backToKw pos (keywordEach kws X.env)).filterMap (·.1) = ks := by rfl) (hdb : (x == ("__debug__" : Str)) = false := by decide)
    (hpl : ((backTo pos (starEach [] X.env)).any (·.1) || (backToKw pos (keywordEach kws X.env)).any (·.1.isNone)) = false := by rfl) :
    PE X (.Call (.Name x p) [] kws pos) (tCallK sp gV E tNil tk) := by
  refine ⟨fun pins s σ H Q I h => ?_⟩
  refine wpAny_Call_Name_kw (ld_glob I hg hm ?_ hdb)
  refine PySem.W.callWith_KW0 (h₀ := X.base) I.ok.mod.kin hk hall ?_ hpl
  refine thn (hkw.run pos pins s σ H _ I h) fun ws s2 ⟨zs, H2, I2, rz, q2⟩ => ⟨I2.kIn, ?_⟩
  rw [hks]
  exact run_fnk (us := []) (vs := []) F hr hb hx I2 .nil rz q2
theorem dk_nil : PDK X [] tNil wNil := ⟨pk_nil, snd_nil⟩
theorem dk_cons (ha : PD X e te we) (hr : PDK X kws t wl) : PDK X (⟨nm, e, kpos⟩ :: kws) (tCons te t) (wCons we wl) := ⟨pk_cons ha.pe hr.pe, snd_cons ha.sd hr.sd⟩
/-- two values, the other way round -/
def swV : List V → List V → List V
  | [], [a, b] => [b, a]
  | _, _ => []
def swU : List Value → List Value → List Value
  | [], [a, b] => [b, a]
  | _, _ => []
def sw1V : List V → List V → List V
  | [x], [a, b] => [x, b, a]
  | _, _ => []
def sw1U : List Value → List Value → List Value
  | [x], [a, b] => [x, b, a]
  | _, _ => []
theorem sw_rel {vs zs : List V} {us ws : List Value} (r : Vals vs us) (rz : Vals zs ws) : Vals (swV vs zs) (swU us ws) := by
  cases r with
  | cons _ _ => exact .nil
  | nil =>
    cases rz with
    | nil => exact .nil
    | cons h1 t1 =>
      cases t1 with
      | nil => exact .nil
      | cons h2 t2 =>
        cases t2 with
        | nil => exact .cons h2 (.cons h1 .nil)
        | cons _ _ => exact .nil
theorem sw1_rel {vs zs : List V} {us ws : List Value} (r : Vals vs us) (rz : Vals zs ws) : Vals (sw1V vs zs) (sw1U us ws) := by
  cases r with
  | nil => exact .nil
  | cons h0 t0 =>
    cases t0 with
    | cons _ _ => exact .nil
    | nil =>
      cases rz with
      | nil => exact .nil
      | cons h1 t1 =>
        cases t1 with
        | nil => exact .nil
        | cons h2 t2 =>
          cases t2 with
          | nil => exact .cons h0 (.cons h2 (.cons h1 .nil))
          | cons _ _ => exact .nil
def wCallSw (w : WF) (wl : WL) : WD := fun ρ S Q => wl ρ S fun ds S1 => match ds with
  | [a, b] => w [b, a] S1 Q
  | _ => False
theorem d_callSw {w : WF} (F : FnOk X.prog X.w X.K X.mg X.base CX0 k f fd ps (spW X.G 2 w)) (hr : Room k X.A) (hm : X.mg x = some (.ref f)) (hk : PySem.W.keepIn X.K (.ref f) = true) (hb : KBinds X.K fd ps ks swU swV) (hkw : PDK X kws tk wl) (hg : Gl X x := by rfl)
    (hall : (backToKw pos (keywordEach kws X.env)).all (·.1.isSome) = true := by rfl) (hks : (backToKw pos (keywordEach kws X.env)).filterMap (·.1) = ks := by rfl) (hdb : (x == ("__debug__" : Str)) = false := by decide)
    (hpl : ((backTo pos (starEach [] X.env)).any (·.1) || (backToKw pos (keywordEach kws X.env)).any (·.1.isNone)) = false := by rfl) :
    PD X (.Call (.Name x p) [] kws pos) (tCallK (spW X.G 2 w) swV E0 tNil tk) (wCallSw w wl) := by
  refine ⟨pe_callK0 F hr hg hm hk hb pass0 hkw.pe hall hks hdb hpl, fun A S σ H ρ Q Q' R E h k => ?_⟩
  refine hkw.sd A S σ H ρ _ _ R E h fun ds S1 A1 vs H1 g1 R1 hv q1 => ?_
  match ds, hv, q1 with
  | [a, b], hv, q1 =>
    obtain ⟨v, w', rfl, h1, h2⟩ := hv.two
    exact ⟨A1, S1, [b, a], Q', R1, .cons h2 (.cons h1 .nil), rfl, q1, k.mono g1⟩
def wMakeSw (c : Str) (w : WI) (wl : WL) : WD := fun ρ S Q => wl ρ S fun ds S1 => match ds with
  | [a, b] => w [b, a] S1 fun fds S2 => Q (.ins c fds) S2
  | _ => False
theorem d_makeSw {wi : WI} (M : Mk X.K C f) (F : FnOk X.prog X.w X.K X.mg X.base CX0 k f fd ps (spInit X.G x 2 wi)) (hr : Room (k + 1) X.A) (hm : X.mg x = some (.ref C)) (hb : KBn X.K fd ps 1 ks sw1U sw1V) (hkw : PDK X kws tk wl) (hl : ks.length = 2 := by rfl) (hg : Gl X x := by rfl)
    (hall : (backToKw pos (keywordEach kws X.env)).all (·.1.isSome) = true := by rfl) (hks : (backToKw pos (keywordEach kws X.env)).filterMap (·.1) = ks := by rfl) (hdb : (x == ("__debug__" : Str)) = false := by decide)
    (hpl : ((backTo pos (starEach [] X.env)).any (·.1) || (backToKw pos (keywordEach kws X.env)).any (·.1.isNone)) = false := by rfl) :
    PD X (.Call (.Name x p) [] kws pos) (tMakeK C 0 ks.length (spInit X.G x 2 wi) sw1V E0 tNil tk) (wMakeSw x wi wl) := by
  refine ⟨pe_makeK0 M F hr hg hm hb pass0 hkw.pe hall hks hdb hpl, fun A S σ H ρ Q Q' R E h k => ?_⟩
  refine hkw.sd A S σ H ρ _ _ R E h fun ds S1 A1 vs H1 g1 R1 hv q1 => ?_
  match ds, hv, q1 with
  | [a, b], hv, q1 =>
    obtain ⟨v, w', rfl, h1, h2⟩ := hv.two
    refine ⟨rfl, hl.symm, fun y dx ny nd ne => ?_⟩
    exact made R1 hm (.cons h2 (.cons h1 .nil)) rfl q1 (k.mono g1) ny nd ne
end
end DL

set_option Elab.async false
set_option linter.all false
set_option maxRecDepth 100000
/-! Methods of own objects, of texts, of lists; bool(n); is None. -/
namespace DL
open PySem PySem.Spec PyProof.Rows L2
section
variable {X : Cx} {k n : Nat} {f C : Addr} {fd : FuncData} {ps : List Str} {w : WF} {x c m : Str} {p pos apos : Pos} {e o : Expr} {es : List Expr} {t : TA} {wl : WL} {te to : TE} {we wo : WD}
def wMeth (c m : Str) (n : Nat) (w : WF) (wo : WD) (wl : WL) : WD := fun ρ S Q => wo ρ S fun x S1 => match x with
  | .ins c' fs => c' = c ∧ fs.lookup m = none ∧ wl ρ S1 fun ds S2 => ds.length + 1 = n ∧ w (.ins c' fs :: ds) S2 Q
  | _ => False
theorem d_meth {pl : Sem Bool} (ho : PD X o to wo) (hC : X.mg c = some (.ref C)) (cl : Cls X.K C) (hm : Meth X.K C m f) (F : FnOk X.prog X.w X.K X.mg X.base CX0 k f fd ps (spW X.G n w)) (hr : Room k X.A) (hb : Binds X.K fd ps []) (ha : PDA X (e :: es) t wl)
    (hst : starEach (e :: es) X.env = (false, eval e X.env) :: starEach es X.env := by rfl) (hpl : (backTo pos (starEach es X.env)).any (·.1) = false := by rfl)
    (ht : eval (.Call (.Attribute o m apos) (e :: es) [] pos) X.env = (do
      let ov ← eval o X.env
      standAt apos.atName
      let (f, first) ← holding [ov] (getMethod ov m pl)
      callWith pos f first (backTo pos (starEach (e :: es) X.env)) (backToKw pos (keywordEach [] X.env))) := by rfl) :
    PD X (.Call (.Attribute o m apos) (e :: es) [] pos) (tMeth C m (spW X.G n w) [] E0 to t) (wMeth c m n w wo wl) := by
  refine ⟨pe_meth (pl := pl) ho.pe cl hm F hr hb .nil pass0 ha.pe hst hpl ht, fun A S σ H ρ Q Q' R E h k => ?_⟩
  refine ho.sd A S σ H ρ _ _ R E h fun d S1 A1 v H1 g1 R1 hv q1 => ?_
  cases hv <;> first | exact q1.elim | skip
  rename_i a C' dx c' fs fds na ec r l
  obtain ⟨rfl, hl, q1⟩ := q1
  have ec := (show X.mg _ = _ from ec)
  rw [hC] at ec
  cases ec
  refine ⟨a, dx, fs, rfl, r, l.no hl, ?_⟩
  refine ha.sd A1 S1 σ H1 ρ _ _ R1 (E.mono g1) q1 fun ds S2 A2 vs H2 g2 R2 hvs q2 => ?_
  exact ⟨A2, S2, .ins c' fds :: ds, Q', R2, by rw [List.append_nil]; exact .cons ((Is.ins na hC r l).mono g2) hvs, q2.1, q2.2, k.mono (g1.trans g2)⟩
def oBool1 : LD := fun ds S Q => match ds with
  | [.int i] => Q (.bl (i != 0)) S
  | [.bl b] => Q (.bl b) S
  | _ => False
theorem snd_bool1 {mg : MG} : SndC mg (fun xs H Q => (∃ i, xs = [.int i] ∧ Q (.bl (i != 0)) H) ∨ ∃ k, xs = [.bl k] ∧ Q (.bl k) H) oBool1 := by
  intro A S H xs ds Q Q' R l q k
  cases l with
  | nil => exact q.elim
  | cons h t =>
    cases t with
    | cons _ _ => cases h <;> exact q.elim
    | nil =>
      cases h <;> first | exact q.elim | skip
      · exact .inr ⟨_, rfl, k _ S A _ H .refl R (.bl _) q⟩
      · exact .inl ⟨_, rfl, k _ S A _ H .refl R (.bl _) q⟩
/-- x is None -/
def oIsN : OD := fun x y S Q => match y with
  | .non => (match x with
    | .non => Q (.bl true) S
    | .int _ => Q (.bl false) S
    | .bl _ => Q (.bl false) S
    | .str _ => Q (.bl false) S
    | .ins _ _ => Q (.bl false) S
    | .tup _ => Q (.bl false) S
    | .lst _ => Q (.bl false) S
    | _ => False)
  | _ => False
theorem snd_isN {mg : MG} : SndR mg (fun x y H Q => y = .non ∧ Q (.bl (decide (x = .non))) H) oIsN := by
  intro A S H x y dx dy Q Q' R hx hy q k
  cases hy <;> first | exact q.elim | skip
  refine ⟨rfl, ?_⟩
  cases hx <;> first | exact q.elim | skip
  all_goals exact k _ S A _ H .refl R (.bl _) q
/-! ### texts -/
def wM0 (g : Str → D) (wo : WD) : WD := fun ρ S Q => wo ρ S fun x S1 => match x with
  | .str a => Q (g a) S1
  | _ => False
def wM1 (c : Str → Str → Prop) (g : Str → Str → D) (wo we : WD) : WD := fun ρ S Q => wo ρ S fun x S1 => match x with
  | .str a => we ρ S1 fun y S2 => (match y with
    | .str b => c a b ∧ Q (g a b) S2
    | _ => False)
  | _ => False
theorem d_m0 {id : String} {name : Str} {g : Str → V} {g' : Str → D} (slot : Slot "str" name id) (ty : typeOf (.builtin id) = pure (.type "method_descriptor")) (rule : MtR X id (fun x xs H Q => ∃ a, x = .str a ∧ xs = [] ∧ True ∧ Q (g a) H)) (hg : ∀ a A H, Is X.G A H (g a) (g' a)) (ho : PD X o to wo)
    (hbase : attributeBase o name X.env (eval o X.env) = eval o X.env := by rfl) (hline : (apos.endLine == pos.line) = true := by rfl) : PD X (.Call (.Attribute o name apos) [] [] pos) (tM0 (fun x xs H Q => ∃ a, x = .str a ∧ xs = [] ∧ True ∧ Q (g a) H) to) (wM0 g' wo) := by
  refine ⟨pe_m0 slot ty rule ho.pe hbase hline, fun A S σ H ρ Q Q' R E h k => ?_⟩
  refine ho.sd A S σ H ρ _ _ R E h fun d S1 A1 v H1 g1 R1 hv q1 => ?_
  cases hv <;> first | exact q1.elim | skip
  exact ⟨⟨_, rfl⟩, _, rfl, rfl, trivial, k _ S1 A1 _ H1 g1 R1 (hg _ _ _) q1⟩
theorem d_m1 {id : String} {name : Str} {c : Str → Str → Prop} {g : Str → Str → V} {g' : Str → Str → D} {r : V → List V → Hp → VK → Prop} (slot : Slot "str" name id) (ty : typeOf (.builtin id) = pure (.type "method_descriptor")) (rule : MtR X id r) (hr : ∀ a b H Q, c a b → Q (g a b) H → r (.str a) [.str b] H Q) (hg : ∀ a b A H, Is X.G A H (g a b) (g' a b)) (ho : PD X o to wo) (he : PD X e te we)
    (hs : starEach [e] X.env = [(false, eval e X.env)] := by rfl) (hbase : attributeBase o name X.env (eval o X.env) = eval o X.env := by rfl) (hline : (apos.endLine == pos.line) = true := by rfl) :
    PD X (.Call (.Attribute o name apos) [e] [] pos) (tM1 r to te) (wM1 c g' wo we) := by
  refine ⟨pe_m1 slot ty rule ho.pe he.pe hs hbase hline, fun A S σ H ρ Q Q' R E h k => ?_⟩
  refine ho.sd A S σ H ρ _ _ R E h fun d S1 A1 v H1 g1 R1 hv q1 => ?_
  cases hv <;> first | exact q1.elim | skip
  refine ⟨⟨_, rfl⟩, ?_⟩
  refine he.sd A1 S1 σ H1 ρ _ _ R1 (E.mono g1) q1 fun d2 S2 A2 v2 H2 g2 R2 hv2 q2 => ?_
  cases hv2 <;> first | exact q2.elim | skip
  exact hr _ _ _ _ q2.1 (k _ S2 A2 _ H2 (g1.trans g2) R2 (hg _ _ _ _) q2.2)
def wPart (wo we : WD) : WD := wM1 (fun a b => (b.length == 0) = false ∧ a.length ≤ sizeLine) (fun a b => .tup [.str (Txt.partition a b).1, .str (Txt.partition a b).2.1, .str (Txt.partition a b).2.2]) wo we
theorem d_partition (ho : PD X o to wo) (he : PD X e te we) (hs : starEach [e] X.env = [(false, eval e X.env)] := by rfl) (hbase : attributeBase o "partition" X.env (eval o X.env) = eval o X.env := by rfl) (hline : (apos.endLine == pos.line) = true := by rfl) :
    PD X (.Call (.Attribute o "partition" apos) [e] [] pos) (tM1 (fun x xs H Q => ∃ a b, x = .str a ∧ xs = [.str b] ∧ (b.length == 0) = false ∧ a.length ≤ sizeLine ∧ ∀ p, H p = none → Q (.ref p) (upd H p (.tup [.str (Txt.partition a b).1, .str (Txt.partition a b).2.1, .str (Txt.partition a b).2.2]))) to te) (wPart wo we) := by
  refine ⟨pe_partition ho.pe he.pe hs hbase hline, fun A S σ H ρ Q Q' R E h k => ?_⟩
  refine ho.sd A S σ H ρ _ _ R E h fun d S1 A1 v H1 g1 R1 hv q1 => ?_
  cases hv <;> first | exact q1.elim | skip
  refine ⟨⟨_, rfl⟩, ?_⟩
  refine he.sd A1 S1 σ H1 ρ _ _ R1 (E.mono g1) q1 fun d2 S2 A2 v2 H2 g2 R2 hv2 q2 => ?_
  cases hv2 <;> first | exact q2.elim | skip
  rename_i a b
  refine ⟨_, _, rfl, rfl, q2.1.1, q2.1.2, fun p hp => ?_⟩
  have g := grow_new (o := .tup [.str (Txt.partition a b).1, .str (Txt.partition a b).2.1, .str (Txt.partition a b).2.2]) R2 hp
  exact k _ S2 A2 _ _ ((g1.trans g2).trans g) (R2.new hp) (.tup (R2.fresh hp) (.inl upd_same) (.cons (.str _) (.cons (.str _) (.cons (.str _) .nil)))) q2.2
/-! ### how often a truth stands in a list of them -/
def eqb (k : Bool) (v : Value) : Bool := match v with
  | .bool n => n == k
  | _ => false
theorem vals_bool : ∀ {bs : List Bool} {us : List Value}, Vals (bs.map V.bl) us → us = bs.map Value.bool
  | [], _, .nil => rfl
  | b :: bs, _, .cons h t => by
    rw [vals_bool t]
    cases (show _ = Value.bool b from h)
    rfl
theorem eqb_count {k : Bool} : ∀ bs : List Bool, (bs.map Value.bool).countP (eqb k) = bs.count k
  | [] => rfl
  | b :: bs => by
    rw [List.map_cons, List.countP_cons, List.count_cons, eqb_count bs]
    rfl
def rCntB (K : PySem.W.Frag) : V → List V → Hp → VK → Prop := fun x xs H Q => ∃ (p : Addr) (bs : List Bool) (k : Bool), x = .ref p ∧ xs = [.bl k] ∧ SqL K H p (bs.map V.bl) ∧ Q (.int (bs.count k : Nat)) H
theorem mt_lcountB : MtR X "list.count" (rCntB X.K) := fun pins s σ H x xs v us Q inv relx relxs hyp => by
  obtain ⟨l, truths, b, rfl, rfl, seq, fin⟩ := hyp
  cases relx
  obtain ⟨y, rfl, rely⟩ := relxs.one
  cases (show y = Value.bool b from rely)
  obtain ⟨held, relh, ⟨⟨kind, dict, dat, slots⟩, cap, here, hkind, hdict, hdat⟩, few⟩ := inv.list seq
  simp only at hkind hdat
  subst hkind hdat
  have flat := vals_bool relh
  have total : held.toArray.toList.countP (eqb b) = truths.count b := by
    rw [flat]
    exact eqb_count truths
  have facts := PySem.F.args_list_count_2 (.ref l) (.bool b)
  refine call_meets PySem.F.slot_list_count ⟨_, here, rfl⟩ PySem.F.entry_list_count facts (SeqAt.list_countAt l held.toArray cap dict slots (.bool b) (eqb b)) ⟨here, fun z hz => ?_, ?_⟩
  · have hz' : z ∈ held := by simpa using hz
    rw [flat] at hz'
    obtain ⟨t, _, rfl⟩ := List.mem_map.mp hz'
    exact SeqAt.EqAt.bool_bool t b
  · refine ⟨.int (truths.count b : Nat), H, inv.tok _, ⟨s.toks, ?_⟩, fin⟩
    show Value.int ((held.toArray.toList.countP (eqb b) : Nat) : Int) s.toks = Value.int ((truths.count b : Nat) : Int) s.toks
    rw [total]
def wCountB (wo we : WD) : WD := fun ρ S Q => wo ρ S fun x S1 => match x with
  | .lst ds => we ρ S1 fun y S2 => (match y with
    | .bl k => ∃ bs, bls ds = some bs ∧ Q (.int (bs.count k : Nat)) S2
    | _ => False)
  | _ => False
theorem d_countB (ho : PD X o to wo) (he : PD X e te we)
    (hbase : attributeBase o "count" X.env (eval o X.env) = eval o X.env := by rfl)
    (hfew : ((backTo pos (starEach [e] X.env)).all (fun x => !x.1) && (backToKw pos (keywordEach [] X.env)).all (fun x => x.1.isSome)
      && decide (([e] : List Expr).length + ([] : List Keyword).length + (if ([] : List Keyword).isEmpty then 0 else 1) < 30)) = true := by rfl)
    (hline : (apos.endLine == pos.line) = true := by rfl) (hs : starEach [e] X.env = (false, eval e X.env) :: starEach [] X.env := by rfl) (hplain : (backTo pos (starEach ([] : List Expr) X.env)).any (·.1) = false := by rfl) :
    PD X (.Call (.Attribute o "count" apos) [e] [] pos) (tBM X.K "list" (rCntB X.K) to (tCons te tNil)) (wCountB wo we) := by
  refine ⟨pe_bm PySem.F.plainAttrs_list PySem.F.slot_list_count PySem.F.type_list_count mt_lcountB ho.pe (pa_cons he.pe pa_nil hs) hbase hfew hline hs hplain, fun A S σ H ρ Q Q' R E h k => ?_⟩
  refine ho.sd A S σ H ρ _ _ R E h fun d S1 A1 v H1 g1 R1 hv q1 => ?_
  cases hv <;> first | exact q1.elim | skip
  rename_i a vs ds na r l
  refine ⟨.inl ⟨rfl, vs, .inl (.inl r)⟩, ?_⟩
  refine he.sd A1 S1 σ H1 ρ _ _ R1 (E.mono g1) q1 fun d2 S2 A2 v2 H2 g2 R2 hv2 q2 => ?_
  cases hv2 <;> first | exact q2.elim | skip
  obtain ⟨bs, hb, q2⟩ := q2
  have e1 := l.bls hb
  subst e1
  exact ⟨a, bs, _, rfl, rfl, .inl (.inl (g2.keep _ _ na r).1), k _ S2 A2 _ H2 (g1.trans g2) R2 (.int _) q2⟩
end
end DL

set_option Elab.async false
set_option linter.all false
set_option maxRecDepth 100000
/-! Defs whose promise wants that no repr is under way further down the stack. -/
namespace DL
open PySem PySem.Spec PyProof.Rows L2
structure FnG (P : Program) (w : World) (K : PySem.W.Frag) (mg : Str → Option Value) (base : Heap) (k : Nat) (f : Addr) (fd : FuncData) (ps : List Str) (sp : Sp) : Prop where
  lenG : ∀ vs H Q, sp vs H Q E0 → vs.length = ps.length
  runG : ∀ (A : Around) (outer : List Env) (s : Shared) (H : Hp) (g : Args) (us : List Value) (vs : List V) (Q : VK), Room k A → A.guards = some [] → Env0 P w K mg base A outer s H →
    BindsTo s fd g (ps.zip us) → Vals vs us → sp vs H Q E0 → codeAny (model P w) A (.call (.ref f) g) (CR CX0 outer P w H s Q E0) s
section
variable {P : Program} {w : World} {K : PySem.W.Frag} {mg : Str → Option Value} {base : Heap} {k : Nat} {f : Addr} {fd : FuncData} {ps : List Str} {sp sp' : Sp}
theorem FnG.of (F : FnOk P w K mg base CX0 k f fd ps sp) : FnG P w K mg base k f fd ps sp := ⟨fun vs H Q h => F.len vs H Q E0 h, fun A o s H g us vs Q hr _ => F.run A o s H g us vs Q E0 hr⟩
theorem FnG.impG (F : FnG P w K mg base k f fd ps sp) (i : ∀ vs H Q, sp' vs H Q E0 → sp vs H Q E0) : FnG P w K mg base k f fd ps sp' :=
  ⟨fun vs H Q h => F.lenG vs H Q (i _ _ _ h), fun A o s H g us vs Q a b c d e h => F.runG A o s H g us vs Q a b c d e (i _ _ _ h)⟩
theorem fnG {x qual : Str} {st : Stmt} {N : List Str} (F : Fun K x qual st f fd) (S : FnScope N ps (defScope st)) (hl : ∀ vs H Q, sp vs H Q E0 → vs.length = ps.length)
    (hb : ∀ (cdv : Value) (A : Around) (outer : List Env) (s : Shared) (H : Hp) (vs : List V) (Q : VK), Room k (A.deeper (envOfC qual (defScope st) s.heap.objs.size f cdv)) → A.guards = some [] → sp vs H Q E0 →
      ∃ t, PSs (cxOf CX0 P w K mg base N qual (defScope st) f cdv A outer s H E0).nox (defBody st) t ∧ t { nx := fun _ H' => Q .non H', rt := Q } (L2.start N vs) H) : FnG P w K mg base (k + 1) f fd ps sp := by
  obtain ⟨oc, od, kV, doc, pm, an, cdv, ct, osl, rfl, lk, hcd⟩ := F.ex
  refine ⟨hl, fun A outer s H g us vs Q hr hg e0 bd rv hs => ?_⟩
  have inK := e0.mod.kin.keeps fun b o e => (e0.bs b o e).1
  have nol := e0.mod.nolimit.keeps fun b o e => (e0.bs b o e).1
  refine codeAny_call_function hr.depth (inK _ _ lk) rfl S.co S.gen rfl (PySem.W.codeRec_of inK hcd) (bd _ _ _ _ ?_)
  refine wpAny_newFunctionEnv_cells S.kind (fun y hy => ?_) fun env he s1 ic => ?_
  · have hm : y.1 ∈ ps := (List.of_mem_zip (a := y.1) (b := y.2) hy).1
    exact (S.par y.1 hm).imp id fun q => ⟨q, PySem.W.cellsFrom_some _ _ _ (Or.inl q)⟩
  subst he
  obtain ⟨t, hp, q⟩ := hb cdv A outer s H vs Q (hr.deeper _) hg hs
  have J := inv_start (CX := CX0) (qual := qual) (f := f) (cd := cdv) (E := E0) S hr.hd e0 (hl _ _ _ hs) rv ic
  refine ⟨nol.keeps ic.toInCall.keep, codeAny_func (wpAny_mono (hp.nox.run [] s1 (L2.start N vs) H _ J q) (fun fl s' z => ?_) fun _ _ z => z)⟩
  cases fl with
  | brk => obtain ⟨_, _, _, n⟩ := z; exact (n : False).elim
  | cont => obtain ⟨_, _, _, n⟩ := z; exact (n : False).elim
  | next => obtain ⟨σ', H', I, n⟩ := z; exact ⟨V.non, H', I.os, I.bare, I.base, I.hok, rfl, n⟩
  | ret u => obtain ⟨v, σ', H', I, rr, n⟩ := z; exact ⟨v, H', I.os, I.bare, I.base, I.hok, rr, n⟩
/-- THE RULE for such a def, by data -/
theorem fnDG {x qual : Str} {st : Stmt} {N : List Str} {wf : WF} {ws : WS} (F : Fun K x qual st f fd) (S : FnScope N ps (defScope st))
    (hb : ∀ (cdv : Value) (A : Around) (outer : List Env) (s : Shared) (H : Hp), Room k (A.deeper (envOfC qual (defScope st) s.heap.objs.size f cdv)) → A.guards = some [] →
      ∃ t, PDSs (cxOf CX0 P w K mg base N qual (defScope st) f cdv A outer s H E0).nox (defBody st) t ws)
    (hw : ∀ ds S Q, ds.length = ps.length → wf ds S Q → ws { nx := fun _ S' => Q .non S', rt := Q } (startD N ds) S) : FnG P w K mg base (k + 1) f fd ps (spW ⟨K, mg⟩ ps.length wf) := by
  refine fnG F S (fun vs H Q h => h.len) fun cdv A outer s H vs Q hr hg h => ?_
  obtain ⟨t, hp⟩ := hb cdv A outer s H hr hg
  obtain ⟨A', S', ds, Q', R, l, e, q, kk⟩ := h
  refine ⟨t, hp.pe, hp.sd A' S' (L2.start N vs) H (startD N ds) _ _ R (env_start l) (hw ds S' Q' e q) ⟨fun ρ1 S1 A1 σ1 H1 g1 R1 E1 q1 => kk _ S1 A1 .non H1 g1 R1 .non q1, kk, ?_, ?_⟩⟩
  · intro ρ1 S1 A1 σ1 H1 g1 R1 E1 q1; exact q1.elim
  · intro ρ1 S1 A1 σ1 H1 g1 R1 E1 q1; exact q1.elim
end
section
variable {X : Cx} {k n : Nat} {f : Addr} {fd : FuncData} {ps : List Str} {sp : Sp} {w : WF} {x : Str} {p pos : Pos} {e : Expr} {es : List Expr} {t : TA} {wl : WL}
theorem run_G {pins : List (Addr × Obj)} {σ : L2.St} {H : Hp} {s : Shared} {Q : VK} {us : List Value} {vs : List V} (F : FnG X.prog X.w X.K X.mg X.base k f fd ps sp) (hr : Room k X.A) (hg : X.A.guards = some []) (hb : Binds X.K fd ps [])
    (I : Inv X pins σ H s) (r : Vals vs us) (h : sp vs H Q E0) : wpAny (model X.prog X.w) X.A (call (.ref f) us) (EP X pins σ Q) X.xe s := by
  have hl : (us ++ []).length = ps.length := by rw [List.append_nil, ← r.length]; exact F.lenG _ _ _ h
  have bt := hb s us I.kIn hl
  rw [List.append_nil] at bt
  refine wpAny_call (codeAny_mono (F.runG X.A X.stack s H ⟨us, []⟩ us vs Q hr hg I.env0 bt r h) fun z s' hz => ?_)
  match z, hz with
  | .ok (.ret u), hz => exact I.after hz
theorem pe_callG (F : FnG X.prog X.w X.K X.mg X.base k f fd ps sp) (hr : Room k X.A) (hgd : X.A.guards = some []) (hg : Gl X x) (hm : X.mg x = some (.ref f)) (hk : PySem.W.keepIn X.K (.ref f) = true) (hb : Binds X.K fd ps []) (ha : PA X (e :: es) t)
    (hdb : (x == ("__debug__" : Str)) = false) (he : starEach (e :: es) X.env = (false, eval e X.env) :: starEach es X.env) (hpl : (backTo pos (starEach es X.env)).any (·.1) = false) :
    PE X (.Call (.Name x p) (e :: es) [] pos) (fun σ H Q => t σ H fun vs H1 => sp vs H1 Q E0) := ⟨fun pins s σ H Q I h =>
  wpAny_Call_Name_kw (ld_glob I hg hm (PySem.W.callWith_K (h₀ := X.base) I.ok.mod.kin hk (thn (ha.run pos pins s σ H _ I h) fun us s1 z => by
    obtain ⟨vs, H1, I1, r, q⟩ := z
    exact ⟨I1.kIn, run_G F hr hgd hb I1 r q⟩) he hpl) hdb)⟩
theorem d_callG (F : FnG X.prog X.w X.K X.mg X.base k f fd ps (spW X.G n w)) (hr : Room k X.A) (hgd : X.A.guards = some []) (hm : X.mg x = some (.ref f)) (hk : PySem.W.keepIn X.K (.ref f) = true) (hb : Binds X.K fd ps [])
    (ha : PDA X (e :: es) t wl) (hg : Gl X x := by rfl) (hdb : (x == ("__debug__" : Str)) = false := by decide) (he : starEach (e :: es) X.env = (false, eval e X.env) :: starEach es X.env := by rfl) (hpl : (backTo pos (starEach es X.env)).any (·.1) = false := by rfl) :
    PD X (.Call (.Name x p) (e :: es) [] pos) (fun σ H Q => t σ H fun vs H1 => spW X.G n w vs H1 Q E0) (wCall n w wl) := by
  refine ⟨pe_callG F hr hgd hg hm hk hb ha.pe hdb he hpl, fun A S σ H ρ Q Q' R E h kk => ?_⟩
  exact ha.sd A S σ H ρ _ _ R E h fun ds S1 A1 vs H1 g1 R1 hv q1 => ⟨A1, S1, ds, Q', R1, hv, q1.1, q1.2, kk.mono g1⟩
theorem d_callGC {G' : MG} (F : FnG X.prog X.w X.K X.mg X.base k f fd ps (spW G' n w)) (hr : Room k X.A) (hgd : X.A.guards = some []) (hm : X.mg x = some (.ref f)) (hk : PySem.W.keepIn X.K (.ref f) = true) (hb : Binds X.K fd ps [])
    (ha : PDA X (e :: es) t wl) (hG : G' = X.G := by rfl) (hg : Gl X x := by rfl) (hdb : (x == ("__debug__" : Str)) = false := by decide) (he : starEach (e :: es) X.env = (false, eval e X.env) :: starEach es X.env := by rfl) (hpl : (backTo pos (starEach es X.env)).any (·.1) = false := by rfl) :
    PD X (.Call (.Name x p) (e :: es) [] pos) (fun σ H Q => t σ H fun vs H1 => spW G' n w vs H1 Q E0) (wCall n w wl) := by
  subst hG
  exact d_callG F hr hgd hm hk hb ha hg hdb he hpl
end
/-! ### the law's call -/
section
variable {P : Program} {w : World} {K : PySem.W.Frag} {mg mb : Str → Option Value} {k : Nat} {fa a : Addr} {fd : FuncData} {x : Str} {sp : Sp} {s1 : Shared} {vs : List Value} {ns : List Int}
theorem lawG (KX : K.In s1.heap) (nm : s1.heap.Ns mainGlobals mg) (nb : s1.heap.Ns builtinsNs mb) (bb : ∀ x : Str, x ≠ "__name__" → mb x = bootBuiltins x) (nl : s1.heap.NoLimit) (gn : s1.gens = #[])
    (ha : s1.heap.get? a = some { cls := .type "list", data := .seq vs.toArray }) (hi : IntsAre vs ns) (hz : ns.length ≤ sizeLine) (hr : Room k callerA)
    (F : ∀ base : Heap, K.In base → base.Ns mainGlobals mg → FnG P w K mg base k fa fd [x] sp) (bd : ∀ (s : Shared) (u : Value), BindsTo s fd ⟨[u], []⟩ [(x, u)])
    (hs : ∀ H : Hp, Only H → SqL K H a (ns.map V.int) → sp [.ref a] H (fun v _ => v = .bl true) E0) :
    codeAny (model P w) callerA (.call (.ref fa) ⟨[.ref a], []⟩) (fun r s' => r = .ok (.ret (.bool true)) ∧ OldK s1.heap s'.heap ∧ s'.os = s1.os ∧ AllBare s'.gens) s1 := by
  have rv := vals_ints hi
  have main : ∀ H : Hp, Only H → SqL K H a (ns.map V.int) → HOk P w H s1.heap → (∀ b, b ≠ a → H b = none) → (K.lookup a ≠ none → H a = none) →
      codeAny (model P w) callerA (.call (.ref fa) ⟨[.ref a], []⟩) (fun r s' => r = .ok (.ret (.bool true)) ∧ OldK s1.heap s'.heap ∧ s'.os = s1.os ∧ AllBare s'.gens) s1 := by
    intro H only sq ok far own
    have keepN : ∀ {b : Addr} {m : Str → Option Value}, s1.heap.Ns b m → (hidT s1.heap H).Ns b m := by
      rintro b m ⟨o, es, ep, e, d, r⟩
      have hb : b ≠ a := by
        rintro rfl
        rw [ha] at e
        cases e
        exact nomatch (show Data.seq vs.toArray _ = Data.dict es ep from d)
      exact ⟨o, es, ep, hidT_get e (far b hb), d, r⟩
    have kin : K.In (hidT s1.heap H) := by
      intro b o e
      refine hidT_get (KX b o e) ?_
      by_cases hb : b = a
      · subst hb
        exact own (by rw [e]; simp)
      · exact far b hb
    have md : Mod K mg (hidT s1.heap H) := by
      obtain ⟨mc, l1, l2⟩ := nl
      exact ⟨kin, keepN nm, ⟨mb, keepN nb, bb⟩, mc, keepN l1, l2⟩
    have env : Env0 P w K mg (hidT s1.heap H) callerA [] s1 H := ⟨rfl, md, fun _ _ e => of_hidT e, Nat.le_of_eq (hidT_size _ _), trivial, fun _ hb => (by cases hb), ok, .of_eq gn⟩
    have run := (F _ kin (keepN nm)).runG callerA [] s1 H ⟨[.ref a], []⟩ [.ref a] [.ref a] _ hr rfl env (bd s1 (.ref a)) (.cons rfl .nil) (hs H only sq)
    refine codeAny_mono run fun r s' h => ?_
    match r, h with
    | .ok (.ret u), ⟨v, H', os, bare, un, ok', ru, q⟩ =>
      cases (show v = .bl true from q)
      cases (show u = Value.bool true from ru)
      refine ⟨rfl, OldK.of_keep fun b o e => ?_, os, bare⟩
      by_cases hn : H b = none
      · exact un.keep b o e hn (fun z => by cases z) (fun z => by cases z)
      · obtain ⟨ob, xs, fz⟩ := (only b).resolve_left hn
        have k1 := (ok b _ fz).1
        have k2 := (ok' b _ (un.frzs b ob _ fz)).1
        rw [e] at k1
        cases k1
        exact k2
  by_cases hk : K.lookup a = none
  · let H : Hp := fun b => if b = a then some (.frz { cls := .type "list", data := .seq vs.toArray } (.lst (ns.map V.int))) else none
    have at_a : H a = some (.frz { cls := .type "list", data := .seq vs.toArray } (.lst (ns.map V.int))) := if_pos rfl
    have no : ∀ b, b ≠ a → H b = none := fun b hb => if_neg hb
    refine main H (fun b => ?_) (.inl (.inr ⟨_, at_a⟩)) (fun b u z => ?_) no (fun z => absurd hk z)
    · by_cases hb : b = a
      · rw [hb]; exact .inr ⟨_, _, at_a⟩
      · exact .inl (no b hb)
    · by_cases hb : b = a
      · subst hb
        rw [at_a] at z
        cases z
        exact ⟨ha, by simpa using hz, vs, _, rv, ha⟩
      · rw [no b hb] at z
        cases z
  · obtain ⟨o, e⟩ : ∃ o, K.lookup a = some o := by
      cases h : K.lookup a with
      | none => exact absurd h hk
      | some o => exact ⟨o, rfl⟩
    have e' := KX a o e
    rw [ha] at e'
    cases e'
    have lv : vs.length ≤ sizeLine := by rw [hi.length]; exact hz
    exact main (fun _ => none) (fun _ => .inl rfl) (.inr ⟨_, vs.toArray, _, e, rfl, rfl, rfl, by simpa using lv, by simpa using rv⟩) (fun b u z => by cases (show (none : Option HO) = some u from z)) (fun _ _ => rfl) fun _ => rfl
end
theorem walkG {l : PySem.W.OpenLaw} {n k : Nat} {q : Program} {loose : List Str} {XP : (Str → Option Value) → Heap → Prop} {YP : World → Heap → Prop} {d : DefRec} {K : Params → PySem.W.Frag} {sp : World → Sp} {x : Str}
    (hn : l.most = some n) (hz : n ≤ sizeLine) (hd : d.params.defaults = []) (hr : Room k callerA) (hY : ∀ (w : World) (h : Heap), YP w h → (K w.params).In h)
    (F : ∀ (w : World) (mg : Str → Option Value) (fa : Addr) (h : Heap), (K w.params).In h → h.Ns mainGlobals mg → mg d.name = some (.ref fa) →
      ∃ fd : FuncData, (∀ (s : Shared) (u : Value), BindsTo s fd ⟨[u], []⟩ [(x, u)]) ∧ ∀ base : Heap, (K w.params).In base → base.Ns mainGlobals mg → FnG l.prog w (K w.params) mg base k fa fd [x] (sp w))
    (hs : ∀ (w : World) (H : Hp) (a : Addr) (ns : List Int), ns.length ≤ n → Only H → SqL (K w.params) H a (ns.map V.int) → sp w [.ref a] H (fun v _ => v = .bl true) E0) :
    PySem.W.WalkO q loose XP YP l.row.toRowW d [] (fun f vs => PySem.call f vs) := by
  refine Att.attach_call hn hd fun w s0 s1 mg mb fa o pm cd doc a vs ns G Y ho hdd hcd hmg hobj hints hl hg => ?_
  obtain ⟨fd, hb, hF⟩ := F w mg fa _ (hY w _ Y) G.T.g hmg
  exact lawG (hY w _ Y) G.T.g G.T.b G.T.builtins G.T.nolimit hg hobj hints (Nat.le_trans hl hz) hr hF hb fun H h1 h2 => hs w H a ns hl h1 h2
end DL

set_option Elab.async false
set_option linter.all false
set_option maxRecDepth 100000
/-! repr of data, truth of own objects, own comparisons with anything, written dicts. -/
namespace DL
open PySem PySem.Spec PyProof.Rows L2
/-! ### repr -/
structure Shows (d : PyData) : Prop where
  ok : d.showable = true
  nod : d.hasDict = false
  dp : d.depth ≤ 100
  sz : d.shown.length ≤ sizeLine
def rReprD (K : PySem.W.Frag) : List V → Hp → VK → Prop := fun xs H Q => ∃ x d, xs = [x] ∧ Dp K H x d ∧ Shows d ∧ Q (.str d.shown) H
section
variable {X : Cx} {k : Nat}
theorem call_reprD (hr : Room k X.A) (hg : X.A.guards = some []) : CallR X (.builtin "repr") (rReprD X.K) := by
  intro pins s σ H xs us Q I r h
  obtain ⟨x, d, rfl, hd, sh, q⟩ := h
  obtain ⟨u, rfl, ru⟩ := vals1 r
  have un := hr.un
  have low : ∀ {n : Nat}, n ≤ 101 → X.A.units + n < cLine := fun h => by omega
  cases hd with
  | non => cases (show u = Value.none from ru); exact PySem.P.repr_of_none ⟨.str _, H, I.tok _, ⟨_, rfl⟩, q⟩
  | bl b => cases (show u = Value.bool b from ru); exact PySem.P.repr_of_bool ⟨.str _, H, I.tok _, ⟨_, rfl⟩, q⟩
  | int i =>
    obtain ⟨t, rfl⟩ := (show ∃ t, u = Value.int i t from ru)
    exact PySem.P.repr_of_int (by simpa [PyData.showable] using sh.ok) ⟨.str _, H, I.tok _, ⟨_, rfl⟩, q⟩
  | str y =>
    obtain ⟨t, rfl⟩ := (show ∃ t, u = Value.str y t from ru)
    exact PySem.P.repr_of_str ⟨.str _, H, I.tok _, ⟨_, rfl⟩, q⟩ (by simpa [PyData.shown] using sh.sz)
  | @lst a zs ds hs ha =>
    obtain ⟨as, rd⟩ := Dp.reads I _ _ u (.lst hs ha) ru
    cases (show u = Value.ref a from ru)
    exact repr_of_reads' rd sh.ok (PyData.noDict_hsm sh.nod) hg (low (Nat.succ_le_succ sh.dp)) (fun _ _ e => e) (fun h' v tk hk => ⟨.str _, H, I.kept hk, ⟨v, rfl⟩, q⟩) sh.sz
  | @tup a zs ds hs ha =>
    obtain ⟨as, rd⟩ := Dp.reads I _ _ u (.tup hs ha) ru
    cases (show u = Value.ref a from ru)
    exact repr_of_reads' rd sh.ok (PyData.noDict_hsm sh.nod) hg (low (Nat.succ_le_succ sh.dp)) (fun _ _ e => e) (fun h' v tk hk => ⟨.str _, H, I.kept hk, ⟨v, rfl⟩, q⟩) sh.sz
end
def oReprD : LD := fun ds S Q => match ds with
  | [x] => ∃ d, datM S x = some d ∧ Shows d ∧ Q (.str d.shown) S
  | _ => False
theorem snd_reprD {mg : MG} {K : PySem.W.Frag} : SndC mg (rReprD K) oReprD := by
  intro A S H xs ds Q Q' R l q k
  match ds, q, l with
  | [x], ⟨d, h1, h2, q⟩, l =>
    obtain ⟨v, rfl, hv⟩ := l.one
    exact ⟨v, d, rfl, hv.dpM R h1, h2, k _ S A _ H .refl R (.str _) q⟩
/-! ### truth of own objects -/
section
variable {X : Cx} {k : Nat} {C g : Addr} {fd : FuncData} {ps : List Str} {sp : Sp} {c : Str} {w : WF}
theorem truthyK {A : Around} {pins : List (Addr × Obj)} {σ : L2.St} {H : Hp} {s : Shared} {a dx : Addr} {fs : List (Str × V)} {QB : Bool → Hp → Prop} (M : OwnM X.K C "__bool__" g) (F : FnOk X.prog X.w X.K X.mg X.base CX0 k g fd ps sp) (hr : Room k A)
    (he : Env0 X.prog X.w X.K X.mg X.base A X.stack s H) (hb : Binds X.K fd ps []) (I : Inv X pins σ H s) (ha : H a = some (.ins C dx fs)) (q : sp [.ref a] H (fun v H' => ∃ b, v = .bl b ∧ QB b H') E0) :
    wpAny (model X.prog X.w) A (truthy (.ref a)) (fun b s' => ∃ H', Inv X pins σ H' s' ∧ QB b H') X.xe s := by
  obtain ⟨mA, OM, _⟩ := ins_get I.hok ha
  obtain ⟨od, J, _⟩ := OM.look
  unfold truthy
  have step : wpAny (model X.prog X.w) A (callSpecial? (.ref a) (Str.ofString "__bool__")) (fun r s' => ∃ b, r = some (.bool b) ∧ ∃ H', Inv X pins σ H' s' ∧ QB b H') X.xe s := by
    refine PySem.W.special_fn I.kIn J M.at_ (beq_iff_eq.mp M.fn) ?_
    refine wpAny_mono (run_at (us := [.ref a]) (vs := [.ref a]) (A := A) F hr he hb I (.cons rfl .nil) q) (fun u s' z => ?_) fun _ _ e => e
    obtain ⟨v, H', I', rv, ⟨b, rfl, qq⟩⟩ := z
    cases (show u = Value.bool b from rv)
    exact ⟨b, rfl, H', I', qq⟩
  first
    | (refine wpAny_bind (m := callSpecial? (.ref a) (Str.ofString "__bool__")) (wpAny_mono step (fun r s' z => ?_) fun _ _ e => e))
    | (refine wpAny_bind (wpAny_pure ?_); refine wpAny_bind (m := callSpecial? (.ref a) (Str.ofString "__bool__")) (wpAny_mono step (fun r s' z => ?_) fun _ _ e => e))
  obtain ⟨b, rfl, z⟩ := z
  exact wpAny_pure z
def wOwnT (c : Str) (w : WF) (we : WD) : WB := fun ρ S Q => we ρ S fun x S1 => match x with
  | .ins c' fs => c' = c ∧ w [.ins c' fs] S1 fun d S2 => match d with
    | .bl b => Q b S2
    | _ => False
  | _ => False
theorem endB {mg : MG} {A : List Addr} {H : Hp} {Q : Bool → Hp → Prop} {Q' : Bool → MS → Prop} (k : EndB mg A H Q Q') : EndV mg A H (fun v H' => ∃ b, v = .bl b ∧ Q b H') (fun d S => match d with
    | .bl b => Q' b S
    | _ => False) := fun d S' A' v H' g' R' hv z => by
  cases hv <;> first | exact z.elim | skip
  exact ⟨_, rfl, k _ S' A' H' g' R' z⟩
/-- an own object as a test -/
theorem dt_own {e : Expr} {te : TE} {we : WD} (he : PD X e te we) (hC : X.mg c = some (.ref C)) (M : OwnM X.K C "__bool__" g) (F : FnOk X.prog X.w X.K X.mg X.base CX0 k g fd ps (spW X.G 1 w)) (hr : Room k X.A) (hb : Binds X.K fd ps [])
    (hi : ∀ whole, isTrue e X.env whole = (do let v ← whole; standAt e.pos; holding [v] (truthy v)) := by intro _; rfl) :
    PDT X e (fun σ H Q => te σ H fun x H' => ∃ a dx fs, x = .ref a ∧ H' a = some (.ins C dx fs) ∧ spW X.G 1 w [.ref a] H' (fun v H2 => ∃ b, v = .bl b ∧ Q b H2) E0) (wOwnT c w we) := by
  refine ⟨⟨fun pins s σ H Q I h => ?_⟩, fun A S σ H ρ Q Q' R E h kk => ?_⟩
  · refine isTrue_plain (thn (he.pe.run pins s σ H _ I h) fun v s1 z => ?_) (hi _)
    obtain ⟨x, H1, I1, rx, a, dx, fs, rfl, ha, q⟩ := z
    cases (show v = Value.ref a from rx)
    exact truthyK M F hr I1.env0 hb I1 ha q
  · refine he.sd A S σ H ρ _ _ R E h fun d S1 A1 v H1 g1 R1 hv q1 => ?_
    cases hv <;> first | exact q1.elim | skip
    rename_i a C' dx c' fs fds na ec r l
    obtain ⟨rfl, q1⟩ := q1
    cases hC.symm.trans (show X.mg _ = _ from ec)
    exact ⟨a, dx, fs, rfl, r, A1, S1, [_], _, R1, .cons (.ins na hC r l) .nil, rfl, q1, endB (kk.mono g1)⟩
def oOwnN (c : Str) (w : WF) : UD := fun x S Q => match x with
  | .ins c' fs => c' = c ∧ w [.ins c' fs] S fun d S2 => match d with
    | .bl b => Q (.bl (!b)) S2
    | _ => False
  | _ => False
def rOwnN (C : Addr) (sp : Sp) : V → Hp → VK → Prop := fun x H Q => ∃ a dx fs, x = .ref a ∧ H a = some (.ins C dx fs) ∧ sp [.ref a] H (fun v H2 => ∃ b, v = .bl b ∧ Q (.bl (!b)) H2) E0
/-- not o -/
theorem un_ownNot (M : OwnM X.K C "__bool__" g) (F : FnOk X.prog X.w X.K X.mg X.base CX0 k g fd ps sp) (hr : Room k X.A) (hb : Binds X.K fd ps []) : UnR X (unaryOp .Not) (rOwnN C sp) := by
  intro pins s σ H x v Q I rx h
  obtain ⟨a, dx, fs, rfl, ha, q⟩ := h
  cases (show v = Value.ref a from rx)
  refine not_of (wpAny_mono (truthyK (QB := fun b H' => Q (.bl (!b)) H') M F hr I.env0 hb I ha q) (fun b s' z => ?_) fun _ _ e => e)
  obtain ⟨H', I', z⟩ := z
  exact ⟨.bl (!b), H', I', rfl, z⟩
theorem snd_ownN {mg : MG} (hC : mg.f c = some (.ref C)) : SndU mg (rOwnN C (spW mg 1 w)) (oOwnN c w) := by
  intro A S H x dx Q Q' R hx q kk
  cases hx <;> first | exact q.elim | skip
  rename_i a C' dy c' fs fds na ec r l
  obtain ⟨rfl, q⟩ := q
  cases hC.symm.trans (show mg.f _ = _ from ec)
  exact ⟨a, dy, fs, rfl, r, A, S, [_], _, R, .cons (.ins na hC r l) .nil, rfl, q, endB (Q := fun b H2 => Q (.bl (!b)) H2) (Q' := fun b S2 => Q' (.bl (!b)) S2) fun b S' A' H' g' R' z => kk _ S' A' _ H' g' R' (.bl _) z⟩
/-- bool(o) -/
theorem call_boolOwn (M : OwnM X.K C "__bool__" g) (F : FnOk X.prog X.w X.K X.mg X.base CX0 k g fd ps sp) (hr : Room (k + 3) X.A) (hb : Binds X.K fd ps []) :
    CallR X (.type "bool") (fun xs H Q => ∃ a dx fs, xs = [.ref a] ∧ H a = some (.ins C dx fs) ∧ sp [.ref a] H (fun v H2 => ∃ b, v = .bl b ∧ Q (.bl b) H2) E0) := by
  intro pins s σ H xs us Q I r h
  obtain ⟨a, dx, fs, rfl, ha, q⟩ := h
  obtain ⟨u, rfl, ru⟩ := vals1 r
  cases (show u = Value.ref a from ru)
  have hr2 : Room k X.A.in1.in1 := ((hr.mono (show k + 2 ≤ k + 3 by omega)).in1 : Room (k + 1) X.A.in1).in1
  have run := truthyK (QB := fun b H' => Q (.bl b) H') M F hr2 I.env0.in1.in1 hb I ha q
  refine callType_newIn (S := fun A R s => wpAny (model X.prog X.w) A.in1 (truthy (.ref a)) (fun b s' => R (.ok (.ret (.bool b))) s') (fun e s' => R (.error e) s') s)
    PySem.F.called_bool PySem.F.newNe_bool (PySem.F.typeCall_bool_1 _) (PySem.F.newCall_bool_1 _) (fun obj => PySem.F.args_object_init_2 obj _) PySem.F.entry_bool_new ?_ ?_
  · refine MeetsIn.of_wp fun A R s hs => ?_
    have f1 := PySem.F.conv_sub_bool
    unfold Builtin.«bool.__new__»
    repeat (any_goals (first | assumption | (with_reducible refine wpAny_bind (m := truthy (.ref a)) (wpAny_mono hs (fun b s' z => ?_) fun _ _ z => z)) | wp_step))
    all_goals first | exact ⟨_, rfl, z⟩ | exact z | skip
  · refine wpAny_mono run (fun b s' z => ?_) fun e s' z => z
    obtain ⟨H', I', z⟩ := z
    exact ⟨rfl, .bl b, H', I', rfl, z⟩
end
/-! ### own comparisons with anything -/
theorem looks_ty {M : Model} {s : Shared} {v : Value} {T : String} (h : s.TypeIs v T) : PySem.W.Looks M s.heap (typeOf v) (.type T) := fun A Q E s' kp q => wpAny_typeOf (by
  cases v with
  | ref a => obtain ⟨o, h1, h2⟩ := h; exact ⟨o, kp _ _ h1, h2⟩
  | _ => exact h) q
section
variable {X : Cx} {CX : CXT} {k : Nat} {C g : Addr} {fd : FuncData} {ps : List Str} {sp : Sp} {E : XK} {c : Str} {w : WF}
def rOwnA (C : Addr) (ts : List String) (K : PySem.W.Frag) (sp : Sp) (E : XK) : L2.R2 := fun x y H Q => Ins C H x ∧ (∃ T, T ∈ ts ∧ TyB K H y T) ∧ sp [x, y] H Q E
theorem op_ownCmpA {op : CmpOp} {ts : List String} (hop : ∀ a b, compareOp op a b = richCompare op a b) (M : OwnM X.K C (cmpInfo op).2.1 g) (hts : ∀ T ∈ ts, PySem.W.subIn X.K (.type T) (.ref C) = some false)
    (F : FnOk X.prog X.w X.K X.mg X.base CX k g fd ps sp) (hr : Room k X.A) (hb : Binds X.K fd ps []) (hx : Passes CX X E) : OpR X (compareOp op) (rOwnA C ts X.K sp E) := by
  intro pins s σ H x y v u Q I rx ry h
  obtain ⟨⟨a, dx, fs, rfl, ha⟩, ⟨T, hT, ty⟩, q⟩ := h
  cases (show v = Value.ref a from rx)
  obtain ⟨mA, OM, _⟩ := ins_get I.hok ha
  obtain ⟨od, J, _⟩ := OM.look
  obtain ⟨m, hF⟩ := I.fr
  rw [hop]
  have run := run_fn (us := [.ref a, u]) (vs := [.ref a, y]) F hr hb .nil hx I (.cons rfl (.cons ry .nil)) (by simpa using q)
  refine PySem.W.cmp_K (tb := .type T) hr.units0 hF I.ok.mod.kin J ?_ (by simp [PySem.W.notFirst, hts T hT]) M.at_ M.fn (wpAny_mono run (fun z s' hz => ?_) fun _ _ e => e)
  · exact looks_ty (ty.is I ry)
  · obtain ⟨z', H', I', rz, qz⟩ := hz
    exact cmpback rz ⟨z', H', I', rz, qz⟩
end
theorem Is.tyB {mg : MG} {A : List Addr} {S : MS} {H : Hp} {v : V} {d : D} {T : String} (R : Rep mg A S H) (h : Is mg A H v d) (e : tyOf d = some (.ty T)) : TyB mg.K H v T := by
  cases h with
  | non => cases e; exact .non
  | bl b => cases e; exact .bl b
  | int i => cases e; exact .int i
  | str x => cases e; exact .str x
  | tup n r l => cases e; exact .tup (.inl r)
  | lst n r l => cases e; exact .lst (.of r)
  | dct n r l => cases e; exact .dK r
  | exc n r l => cases e
  | «mut» ea =>
    cases e
    obtain ⟨es, he⟩ := R.gets ea
    obtain ⟨vs, h1, _⟩ := R.at_ _ _ es ea he
    exact .lst (.of h1)
  | _ => cases e
def oOwnA (c : Str) (ts : List String) (w : WF) : OD := fun x y S Q => (∃ fds, x = .ins c fds) ∧ (∃ T, T ∈ ts ∧ tyOf y = some (.ty T)) ∧ w [x, y] S Q
theorem snd_ownA {mg : MG} {c : Str} {C : Addr} {ts : List String} {w : WF} {E : XK} (hC : mg.f c = some (.ref C)) : SndR mg (rOwnA C ts mg.K (spW mg 2 w) E) (oOwnA c ts w) := by
  intro A S H x y dx dy Q Q' R hx hy q k
  obtain ⟨⟨fds, rfl⟩, ⟨T, hT, ty⟩, q⟩ := q
  exact ⟨hx.insOf hC, ⟨T, hT, hy.tyB R ty⟩, A, S, [_, dy], Q', R, .cons hx (.cons hy .nil), rfl, q, k⟩
/-! ### written dicts -/
def keyD : Key → D
  | .inl i => .int i
  | .inr x => .str x
def putD (kvs : List (Key × D)) (k : Key) (v : D) : List (Key × D) :=
  if (kvs.any fun kv => decide (kv.1 = k)) = true then kvs.map (fun kv => if kv.1 = k then (kv.1, v) else kv) else kvs ++ [(k, v)]
def mergeD (kvs more : List (Key × D)) : List (Key × D) := more.foldl (fun acc kv => putD acc kv.1 kv.2) kvs
section
variable {mg : MG} {A A' : List Addr} {S : MS} {H H' : Hp}
theorem IsK.append : ∀ {as bs : List (Key × V)} {cs ds : List (Key × D)}, IsK mg A H as cs → IsK mg A H bs ds → IsK mg A H (as ++ bs) (cs ++ ds)
  | _, _, _, _, .nil, q => q
  | _, _, _, _, .cons h t, q => .cons h (t.append q)
theorem IsK.any (k : Key) : ∀ {as : List (Key × V)} {cs : List (Key × D)}, IsK mg A H as cs → (as.any fun kv => decide (kv.1 = k)) = cs.any fun kv => decide (kv.1 = k)
  | _, _, .nil => rfl
  | _, _, .cons _ t => by rw [List.any_cons, List.any_cons, t.any k]
theorem IsK.upd {k : Key} {v : V} {d : D} (h : Is mg A H v d) : ∀ {as : List (Key × V)} {cs : List (Key × D)}, IsK mg A H as cs →
    IsK mg A H (as.map fun kv => if kv.1 = k then (kv.1, v) else kv) (cs.map fun kv => if kv.1 = k then (kv.1, d) else kv)
  | _, _, .nil => .nil
  | _, _, .cons (f := f) h0 t => by
    rw [List.map_cons, List.map_cons]
    by_cases e : f = k
    · rw [if_pos e, if_pos e]; exact .cons h (t.upd h)
    · rw [if_neg e, if_neg e]; exact .cons h0 (t.upd h)
theorem IsK.put {k : Key} {v : V} {d : D} {as : List (Key × V)} {cs : List (Key × D)} (l : IsK mg A H as cs) (h : Is mg A H v d) : IsK mg A H (L2.putK as k v) (putD cs k d) := by
  unfold L2.putK putD
  rw [l.any k]
  split
  · exact l.upd h
  · exact l.append (.cons h .nil)
theorem IsK.merge : ∀ {bs : List (Key × V)} {ds : List (Key × D)} {as : List (Key × V)} {cs : List (Key × D)}, IsK mg A H bs ds → IsK mg A H as cs → IsK mg A H (L2.mergeK as bs) (mergeD cs ds)
  | _, _, _, _, .nil, q => q
  | _, _, _, _, .cons (f := f) h t, q => by
    show IsK mg A H (L2.mergeK (L2.putK _ f _) _) (mergeD (putD _ f _) _)
    exact IsK.merge t (q.put h)
theorem IsK.length : ∀ {as : List (Key × V)} {cs : List (Key × D)}, IsK mg A H as cs → as.length = cs.length
  | _, _, .nil => rfl
  | _, _, .cons _ t => congrArg Nat.succ t.length
end
/-- an expression that reads a name or a constant: its value does not hang on the heap -/
structure PDQ (X : Cx) (e : Expr) (t : TE) (q : DEnv → Option D) : Prop where
  pe : PE X e t
  sd : ∀ A H σ ρ d, EnvD X.G A H σ ρ → q ρ = some d → ∃ v, Is X.G A H v d ∧ ∀ (H' : Hp) (Q : VK), Q v H' → t σ H' Q
def qVar (i : Nat) : DEnv → Option D := fun ρ => match ρ[i]? with
  | some (some d) => some d
  | _ => none
def qC (d : D) : DEnv → Option D := fun _ => some d
section
variable {X : Cx}
theorem q_var (i : Nat) {x : Str} {pos : Pos} (hN : X.N[i]? = some x := by rfl) (hv : Vis X.env.scope x := by first | exact Or.inl rfl | exact Or.inr (Or.inl rfl) | exact Or.inr (Or.inr rfl)) (hd : (x == ("__debug__" : Str)) = false := by decide)
    (hcd : (x == ("__classdict__" : Str)) = false := by decide) : PDQ X (.Name x pos) (tVar i) (qVar i) := ⟨pe_var hN hv hd hcd, fun A H σ ρ d E e => by
  unfold qVar at e
  split at e
  · rename_i d' hd'
    cases e
    obtain ⟨v, h1, h2⟩ := E.at_ i d hd'
    exact ⟨v, h2, fun H' Q h => ⟨v, h1, h⟩⟩
  · cases e⟩
theorem q_int {i j pos} : PDQ X (.Constant (.int i) j pos) (tC (.int i)) (qC (.int i)) := ⟨pe_int, fun A H σ ρ d E e => by cases e; exact ⟨_, .int i, fun H' Q h => h⟩⟩
theorem q_str {x j pos} : PDQ X (.Constant (.str x) j pos) (tC (.str x)) (qC (.str x)) := ⟨pe_str, fun A H σ ρ d E e => by cases e; exact ⟨_, .str x, fun H' Q h => h⟩⟩
end
def evQ : List ((DEnv → Option D) × (DEnv → Option D)) → DEnv → Option (List (D × D))
  | [], _ => some []
  | (a, b) :: r, ρ => match a ρ, b ρ, evQ r ρ with
    | some x, some y, some l => some ((x, y) :: l)
    | _, _, _ => none
inductive PDP (X : Cx) (pos : Pos) : List (Option Expr) → List Expr → List (TE × TE) → List ((DEnv → Option D) × (DEnv → Option D)) → Prop where
  | nil : PDP X pos [] [] [] []
  | cons {a b : Expr} {ks : List (Option Expr)} {vs : List Expr} {ta tb : TE} {wa wb : DEnv → Option D} {ts : List (TE × TE)} {ws : List ((DEnv → Option D) × (DEnv → Option D))} (ha : PDQ X a ta wa) (hb : PDQ X b tb wb) (r : PDP X pos ks vs ts ws) : PDP X pos (some a :: ks) (b :: vs) ((ta, tb) :: ts) ((wa, wb) :: ws)
theorem PDP.pp {X : Cx} {pos : Pos} {ks : List (Option Expr)} {vs : List Expr} {ts : List (TE × TE)} {ws : List ((DEnv → Option D) × (DEnv → Option D))} (h : PDP X pos ks vs ts ws) : PPs X pos ks vs ts := by
  induction h with
  | nil => exact pps_nil
  | cons ha hb _ ih => exact pps_cons ha.pe hb.pe ih
/-- pairs of values told by pairs of data -/
def IsP (mg : MG) (A : List Addr) (H : Hp) (p : List (V × V)) (q : List (D × D)) : Prop := IsL mg A H (p.map (·.1)) (q.map (·.1)) ∧ IsL mg A H (p.map (·.2)) (q.map (·.2))
theorem PDP.sd {X : Cx} {pos : Pos} {ks : List (Option Expr)} {vs : List Expr} {ts : List (TE × TE)} {ws : List ((DEnv → Option D) × (DEnv → Option D))} (h : PDP X pos ks vs ts ws) : ∀ A H σ ρ q, EnvD X.G A H σ ρ → evQ ws ρ = some q →
    ∃ p, IsP X.G A H p q ∧ ∀ (H' : Hp) (Q : List (V × V) → Hp → Prop), Q p H' → tPairs ts σ H' Q := by
  induction h with
  | nil => intro A H σ ρ q E e; cases e; exact ⟨[], ⟨.nil, .nil⟩, fun H' Q h => h⟩
  | cons ha hb _ ih =>
    intro A H σ ρ q E e
    unfold evQ at e
    split at e
    · rename_i x y l e1 e2 e3
      cases e
      obtain ⟨u, hu, ku⟩ := ha.sd A H σ ρ x E e1
      obtain ⟨v, hv, kv⟩ := hb.sd A H σ ρ y E e2
      obtain ⟨p, hp, kp⟩ := ih A H σ ρ l E e3
      exact ⟨(u, v) :: p, ⟨.cons hu hp.1, .cons hv hp.2⟩, fun H' Q h => ku H' _ (kv H' _ (kp H' _ h))⟩
    · cases e
theorem isP_keys {mg : MG} {A : List Addr} {H : Hp} : ∀ {p : List (V × V)} {kds : List (Key × D)}, IsP mg A H p (kds.map fun kv => (keyD kv.1, kv.2)) → ∃ kvs : List (Key × V), p = kvs.map (fun kv => (kV kv.1, kv.2)) ∧ IsK mg A H kvs kds
  | [], [], _ => ⟨[], rfl, .nil⟩
  | [], _ :: _, h => by cases h.1
  | _ :: _, [], h => by cases h.1
  | (a, b) :: p, (k, d) :: kds, h => by
    obtain ⟨h1, h2⟩ := h
    rw [List.map_cons, List.map_cons, List.map_cons] at h1 h2
    cases h1 with
    | cons x1 t1 =>
      cases h2 with
      | cons x2 t2 =>
        obtain ⟨kvs, e, l⟩ := isP_keys (p := p) (kds := kds) ⟨t1, t2⟩
        refine ⟨(k, b) :: kvs, ?_, .cons x2 l⟩
        rw [e, List.map_cons]
        cases k with
        | inl i => cases x1; rfl
        | inr y => cases x1; rfl
/-- {k: v, ..} of names and constants: a dict that never changes -/
def wDisp (ws : List ((DEnv → Option D) × (DEnv → Option D))) : WD := fun ρ S Q => ∃ kds : List (Key × D), evQ ws ρ = some (kds.map fun kv => (keyD kv.1, kv.2)) ∧ kds.length ≤ 15 ∧ Q (.dct (mergeD [] kds)) S
theorem d_disp {X : Cx} {pos : Pos} {keys : List (Option Expr)} {values : List Expr} {ts : List (TE × TE)} {ws : List ((DEnv → Option D) × (DEnv → Option D))} (h : PDP X pos keys values ts ws) (h0 : keys ≠ [] := by intro z; cases z) (hall : keys.all (·.isSome) = true := by rfl) (hl : keys.length = values.length := by rfl) (h15 : keys.length ≤ 15 := by decide) :
    PD X (.Dict keys values pos) (tDisp ts) (wDisp ws) := by
  refine ⟨pe_disp h.pp hall hl h0 h15, fun A S σ H ρ Q Q' R E q k => fun p hp => ?_⟩
  obtain ⟨kds, e, l15, q⟩ := q
  obtain ⟨ps, hps, run⟩ := h.sd A H σ ρ _ E e
  obtain ⟨kvs, rfl, lk⟩ := isP_keys hps
  refine run _ _ ⟨upd_same, kvs, rfl, by rw [lk.length]; exact l15, ?_⟩
  rw [upd_upd]
  have g := grow_new (o := .dK (L2.mergeK [] kvs)) R hp
  exact k _ S A _ _ g (R.new hp) (.dct (R.fresh hp) upd_same (IsK.merge (lk.mono g) .nil)) q
theorem d_dict0 {X : Cx} {pos : Pos} : PD X (.Dict [] [] pos) tDNewK (wC (.dct [])) := ⟨pe_dnewK, fun A S σ H ρ Q Q' R E q k p hp => k _ S A _ _ (grow_new R hp) (R.new hp) (.dct (R.fresh hp) upd_same .nil) q⟩
theorem d_callC {X : Cx} {G' : MG} {k n : Nat} {f : Addr} {fd : FuncData} {ps : List Str} {w : WF} {x : Str} {p pos : Pos} {e : Expr} {es : List Expr} {t : TA} {wl : WL} (F : FnOk X.prog X.w X.K X.mg X.base CX0 k f fd ps (spW G' n w)) (hr : Room k X.A) (hm : X.mg x = some (.ref f)) (hk : PySem.W.keepIn X.K (.ref f) = true) (hb : Binds X.K fd ps [])
    (ha : PDA X (e :: es) t wl) (hG : G' = X.G := by rfl) (hg : Gl X x := by rfl) (hdb : (x == ("__debug__" : Str)) = false := by decide) (he : starEach (e :: es) X.env = (false, eval e X.env) :: starEach es X.env := by rfl) (hpl : (backTo pos (starEach es X.env)).any (·.1) = false := by rfl) :
    PD X (.Call (.Name x p) (e :: es) [] pos) (tCall (spW G' n w) [] E0 t) (wCall n w wl) := by
  subst hG
  exact d_call F hr hm hk hb ha hg hdb he hpl
end DL

set_option Elab.async false
set_option linter.all false
set_option maxRecDepth 100000
/-! Errors, by data: what is raised carries the class and the fields of its own dict. -/
namespace DL
open PySem PySem.Spec PyProof.Rows L2
/-- how raising ends, by data: the names as they stand, the class's name, the fields -/
abbrev EX := DEnv → Str → List (Str × D) → MS → Prop
abbrev EF := Str → List (Str × D) → MS → Prop
def XF (mg : MG) (A : List Addr) (H : Hp) : Option Addr → List (Str × D) → Prop
  | none, fs => fs = []
  | some d, fs => ∃ fvs, d ∉ A ∧ H d = some (.xd fvs) ∧ IsF mg A H fvs fs
/-- what a clause's name holds -/
def exD (a : Addr) : Option Addr → List (Str × D) → D
  | none, _ => .obj a
  | some d, fs => .exc a d fs
theorem XF.is {mg : MG} {A : List Addr} {H : Hp} {d : Option Addr} {fs : List (Str × D)} (x : XF mg A H d fs) (a : Addr) : Is mg A H (.ref a) (exD a d fs) := by
  cases d with
  | none => exact .obj a
  | some d =>
    obtain ⟨fvs, n, r, l⟩ := x
    exact .exc n r l
def EndW (mg : MG) (A : List Addr) (H : Hp) (W : WX) (E' : EX) : Prop := ∀ c fs S' A' σ' H' ρ' C d, Grow A A' H H' → Rep mg A' S' H' → EnvD mg A' H' σ' ρ' → mg.f c = some (.ref C) → XF mg A' H' d fs → E' ρ' c fs S' → W (.ref C) d σ' H'
def EndX (mg : MG) (A : List Addr) (H : Hp) (E : XK) (E' : EF) : Prop := ∀ c fs S' A' H' C d, Grow A A' H H' → Rep mg A' S' H' → mg.f c = some (.ref C) → XF mg A' H' d fs → E' c fs S' → E (.ref C) d H'
section
variable {mg : MG} {A A' : List Addr} {H H' : Hp}
theorem EndW.mono {W E'} (e : EndW mg A H W E') (g : Grow A A' H H') : EndW mg A' H' W E' := fun c fs S2 A2 σ2 H2 ρ2 C d g2 => e c fs S2 A2 σ2 H2 ρ2 C d (g.trans g2)
theorem EndX.mono {W E'} (e : EndX mg A H W E') (g : Grow A A' H H') : EndX mg A' H' W E' := fun c fs S2 A2 H2 C d g2 => e c fs S2 A2 H2 C d (g.trans g2)
theorem EndX.toW {E : XK} {E' : EF} (e : EndX mg A H E E') : EndW mg A H (fun cls d _ H' => E cls d H') (fun _ => E') := fun c fs S2 A2 σ2 H2 ρ2 C d g2 R2 _ => e c fs S2 A2 H2 C d g2 R2
/-- seen from one place of the def's run -/
theorem EndW.at_ {W : WX} {E' : EX} {σ : L2.St} {ρ : DEnv} (e : EndW mg A H W E') (E : EnvD mg A H σ ρ) : EndX mg A H (WE W σ) (E' ρ) := fun c fs S2 A2 H2 C d g2 R2 hc x q => e c fs S2 A2 σ H2 ρ C d g2 R2 (E.mono g2) hc x q
end
def SndEX (mg : MG) (W : WX) (t : TE) (w : EX → WD) : Prop := ∀ A S σ H ρ Q Q' E', Rep mg A S H → EnvD mg A H σ ρ → EndW mg A H W E' → w E' ρ S Q' → EndV mg A H Q Q' → t σ H Q
def SndSX (mg : MG) (W : WX) (t : TS) (w : EX → WS) : Prop := ∀ A S σ H ρ D D' E', Rep mg A S H → EnvD mg A H σ ρ → EndW mg A H W E' → w E' D' ρ S → EndS mg A H D D' → t D σ H
structure PDX (X : Cx) (W : WX) (e : Expr) (t : TE) (w : EX → WD) : Prop where
  pe : PE X e t
  sd : SndEX X.G W t w
structure PDSX (X : Cx) (W : WX) (st : Stmt) (t : TS) (w : EX → WS) : Prop where
  pe : PS X st t
  sd : SndSX X.G W t w
structure PDSsX (X : Cx) (W : WX) (st : List Stmt) (t : TS) (w : EX → WS) : Prop where
  pe : PSs X st t
  sd : SndSX X.G W t w
section
variable {X : Cx} {W : WX} {e : Expr} {te : TE} {we : WD} {wx : EX → WD} {st : Stmt} {rest : List Stmt} {t u : TS} {w : WS} {wsx wsy : EX → WS} {pos : Pos}
theorem PD.x (h : PD X e te we) : PDX X W e te (fun _ => we) := ⟨h.pe, fun A S σ H ρ Q Q' E' R E _ q k => h.sd A S σ H ρ Q Q' R E q k⟩
theorem PDS.x (h : PDS X st t w) : PDSX X W st t (fun _ => w) := ⟨h.pe, fun A S σ H ρ Q Q' E' R E _ q k => h.sd A S σ H ρ Q Q' R E q k⟩
theorem PDSs.x (h : PDSs X rest t w) : PDSsX X W rest t (fun _ => w) := ⟨h.pe, fun A S σ H ρ Q Q' E' R E _ q k => h.sd A S σ H ρ Q Q' R E q k⟩
theorem dxs_nil : PDSsX X W [] tNext (fun _ => sNext) := dss_nil.x
theorem dxs_cons (h1 : PDSX X W st t wsx) (h2 : PDSsX X W rest u wsy) : PDSsX X W (st :: rest) (tSeq t u) (fun E' => sSeq (wsx E') (wsy E')) := by
  refine ⟨pss_cons h1.pe h2.pe, fun A S σ H ρ D D' E' R E x h k => h1.sd A S σ H ρ _ _ E' R E x h ⟨?_, k.rt, k.bk, k.ct⟩⟩
  intro ρ1 S1 A1 σ1 H1 g1 R1 E1 q1
  exact h2.sd A1 S1 σ1 H1 ρ1 _ _ E' R1 E1 (x.mono g1) q1 (k.mono g1)
theorem dxs_one (h1 : PDSX X W st t wsx) : PDSsX X W [st] t wsx := ⟨pss_one h1.pe, h1.sd⟩
theorem dx_if {c : Expr} {a b : List Stmt} {tc : TT} {wc : WB} (hc : PDT X c tc wc) (ha : PDSsX X W a t wsx) (hb : PDSsX X W b u wsy) : PDSX X W (.If c a b pos) (tIfS tc t u) (fun E' => sIf wc (wsx E') (wsy E')) := by
  refine ⟨ps_if hc.pe ha.pe hb.pe, fun A S σ H ρ D D' E' R E x h k => hc.sd A S σ H ρ _ _ R E h fun b' S1 A1 H1 g1 R1 q1 => ?_⟩
  cases b' with
  | true => exact ha.sd A1 S1 σ H1 ρ _ _ E' R1 (E.mono g1) (x.mono g1) q1 (k.mono g1)
  | false => exact hb.sd A1 S1 σ H1 ρ _ _ E' R1 (E.mono g1) (x.mono g1) q1 (k.mono g1)
theorem dx_ret (he : PDX X W e te wx) : PDSX X W (.Return (some e) pos) (tRet te) (fun E' => sRet (wx E')) := ⟨ps_ret he.pe, fun A S σ H ρ D D' E' R E x h k => he.sd A S σ H ρ _ _ E' R E x h k.rt⟩
theorem dx_set {i : Nat} {x : Str} {pos' : Pos} (hN : X.N.Nodup) (he : PDX X W e te wx) (hi : X.N[i]? = some x := by rfl) (hx : Loc X.env.scope x := by first | exact Or.inl rfl | exact Or.inr rfl) (hs : swapsWith e (some (.Name x pos')) pos.line X.env = pure false := by rfl) (hf : X.fn x = true ∨ X.env.scope.names.lookup x = some .local := by first | exact .inl rfl | exact .inr rfl) :
    PDSX X W (.Assign [.Name x pos'] e pos) (tAsg te (gName i)) (fun E' => sAsg (wx E') (gwName i)) := by
  refine ⟨ps_set (i := i) hN hi hx he.pe hs hf, fun A S σ H ρ D D' E' R E x h k => he.sd A S σ H ρ _ _ E' R E x h fun d S1 A1 v H1 g1 R1 hv q1 => ?_⟩
  exact sndg_name A1 S1 σ H1 ρ v d _ _ R1 (E.mono g1) hv q1 (k.nx.mono g1)
end
/-! ### a def that may raise -/
abbrev WFX := List D → MS → (D → MS → Prop) → EF → Prop
def spX (mg : MG) (n : Nat) (w : WFX) : Sp := fun vs H Q E => ∃ A S ds Q' E', Rep mg A S H ∧ IsL mg A H vs ds ∧ ds.length = n ∧ w ds S Q' E' ∧ EndV mg A H Q Q' ∧ EndX mg A H E E'
theorem spX.len {mg : MG} {n : Nat} {w : WFX} {vs : List V} {H : Hp} {Q : VK} {E : XK} (h : spX mg n w vs H Q E) : vs.length = n := by
  obtain ⟨A, S, ds, Q', E', R, l, e, _⟩ := h
  rw [l.length, e]
section
variable {P : Program} {w : World} {K : PySem.W.Frag} {mg : Str → Option Value} {base : Heap}
theorem fnX {x qual : Str} {st : Stmt} {f : Addr} {fd : FuncData} {N ps : List Str} {k : Nat} {wf : WFX} {ws : EX → WS} (F : Fun K x qual st f fd) (S : FnScope N ps (defScope st))
    (hb : ∀ (cdv : Value) (A : Around) (outer : List Env) (s : Shared) (H : Hp) (E : XK), Room k (A.deeper (envOfC qual (defScope st) s.heap.objs.size f cdv)) →
      ∃ t, PDSsX (cxOf (L2.CX P w) P w K mg base N qual (defScope st) f cdv A outer s H E) (fun cls d _ H' => E cls d H') (defBody st) t ws)
    (hw : ∀ ds S Q E, ds.length = ps.length → wf ds S Q E → ws (fun _ => E) { nx := fun _ S' => Q .non S', rt := Q } (startD N ds) S) : FnOk P w K mg base (L2.CX P w) (k + 1) f fd ps (spX ⟨K, mg⟩ ps.length wf) := by
  refine F.okX S (fun vs H Q E h => h.len) fun cdv A outer s H vs Q E hr h => ?_
  obtain ⟨t, hp⟩ := hb cdv A outer s H E hr
  obtain ⟨A', S', ds, Q', E', R, l, e, q, k, kx⟩ := h
  refine ⟨t, hp.pe, hp.sd A' S' (L2.start N vs) H (startD N ds) _ _ _ R (env_start l) kx.toW (hw ds S' Q' E' e q) ⟨fun ρ1 S1 A1 σ1 H1 g1 R1 E1 q1 => k _ S1 A1 .non H1 g1 R1 .non q1, k, ?_, ?_⟩⟩
  · intro ρ1 S1 A1 σ1 H1 g1 R1 E1 q1
    exact q1.elim
  · intro ρ1 S1 A1 σ1 H1 g1 R1 E1 q1
    exact q1.elim
end
/-! ### calls of such a def -/
def wCallX (n : Nat) (w : WFX) (wl : WL) : EX → WD := fun E' ρ S Q => wl ρ S fun ds S1 => ds.length = n ∧ w ds S1 Q (E' ρ)
section
variable {X : Cx} {W : WX} {k n : Nat} {f C : Addr} {fd : FuncData} {ps : List Str} {w : WFX} {x c m : Str} {p pos apos : Pos} {e o : Expr} {es : List Expr} {t : TA} {wl : WL} {to : TE} {wo : WD}
theorem dx_call (tk : Takes X W) (F : FnOk X.prog X.w X.K X.mg X.base (L2.CX X.prog X.w) k f fd ps (spX X.G n w)) (hr : Room k X.A) (hm : X.mg x = some (.ref f)) (hk : PySem.W.keepIn X.K (.ref f) = true) (hb : Binds X.K fd ps [])
    (ha : PDA X (e :: es) t wl) (hg : Gl X x := by rfl) (hdb : (x == ("__debug__" : Str)) = false := by decide) (he : starEach (e :: es) X.env = (false, eval e X.env) :: starEach es X.env := by rfl) (hpl : (backTo pos (starEach es X.env)).any (·.1) = false := by rfl) :
    PDX X W (.Call (.Name x p) (e :: es) [] pos) (tCallS (spX X.G n w) (WE W) t) (wCallX n w wl) := by
  refine ⟨pe_callS F hr hg hm hk hb (fun σ => passAt tk σ) ha.pe hdb he hpl, fun A S σ H ρ Q Q' E' R E x h k => ?_⟩
  refine ha.sd A S σ H ρ _ _ R E h fun ds S1 A1 vs H1 g1 R1 hv q1 => ?_
  exact ⟨A1, S1, ds, Q', E' ρ, R1, hv, q1.1, q1.2, k.mono g1, (x.mono g1).at_ (E.mono g1)⟩
/-- .. of a classmethod -/
theorem run_cmS {CX : CXT} {pins : List (Addr × Obj)} {σ : L2.St} {H : Hp} {s : Shared} {q g : Addr} {sp : Sp} {E : XK} {Q : VK} {us : List Value} {vs : List V} (F : FnR X.prog X.w X.K X.mg X.base CX k g sp) (hr : Room k X.A) (hx : PassesAt CX X σ E)
    (I : Inv X ((q, PySem.W.methodObj (.ref g) (.ref C)) :: pins) σ H s) (r : Vals vs us) (h : sp (.ref C :: vs) H Q E) : wpAny (model X.prog X.w) X.A (call (.ref q) us) (EP X pins σ Q) X.xe s := by
  have run : codeAny (model X.prog X.w) X.A (.call (.ref g) ⟨.ref C :: us, []⟩) (fun r s' => match r with | .ok (.ret v) => EP X ((q, PySem.W.methodObj (.ref g) (.ref C)) :: pins) σ Q v s' | .ok _ => False | .error e => X.xe e s') s := by
    refine codeAny_mono (F X.A X.stack s H (.ref C :: us) (.ref C :: vs) Q E hr I.env0 (.cons rfl r) h) fun r s' hq => ?_
    match r, hq with
    | .error e, hq => exact hx _ H s e s' I hq
    | .ok (.ret u), hq => exact I.after hq
  exact thn (wpAny_call (PySem.W.method_call (ClX.pin_at I) run)) fun _ _ y => ClX.unpinE y
def tCMethS (C : Addr) (sp : Sp) (E : L2.St → XK) (ta : TE) (t : TA) : TE := fun σ H Q => ta σ H fun x H1 => x = .ref C ∧ t σ H1 fun vs H2 => sp (.ref C :: vs) H2 Q (E σ)
def wCMethX (c : Str) (n : Nat) (w : WFX) (wo : WD) (wl : WL) : EX → WD := fun E' ρ S Q => wo ρ S fun x S1 => match x with
  | .cls c' => c' = c ∧ wl ρ S1 fun ds S2 => ds.length + 1 = n ∧ w (.cls c' :: ds) S2 Q (E' ρ)
  | _ => False
theorem dx_cmeth {p' g : Addr} {mc : Value} {pl : Sem Bool} (tk : Takes X W) (ho : PD X o to wo) (hC : X.mg c = some (.ref C)) (r : ClX.CRead X.K C mc) (cm : ClX.CMet X.K C mc m p' g) (F : FnOk X.prog X.w X.K X.mg X.base (L2.CX X.prog X.w) k g fd ps (spX X.G n w)) (hr : Room k X.A) (hb : Binds X.K fd ps []) (ha : PDA X (e :: es) t wl)
    (hst : starEach (e :: es) X.env = (false, eval e X.env) :: starEach es X.env := by rfl) (hpl : (backTo pos (starEach es X.env)).any (·.1) = false := by rfl)
    (ht : eval (.Call (.Attribute o m apos) (e :: es) [] pos) X.env = (do
      let ov ← eval o X.env
      standAt apos.atName
      let (f, first) ← holding [ov] (getMethod ov m pl)
      callWith pos f first (backTo pos (starEach (e :: es) X.env)) (backToKw pos (keywordEach [] X.env))) := by rfl) :
    PDX X W (.Call (.Attribute o m apos) (e :: es) [] pos) (tCMethS C (fun vs H Q E => spX X.G n w (vs ++ []) H Q E) (WE W) to t) (wCMethX c n w wo wl) := by
  refine ⟨⟨fun pins s σ H Q I h => ?_⟩, fun A S σ H ρ Q Q' E' R E x h k => ?_⟩
  · refine PySem.W.methodCall_KW (pl := pl) (thn (ho.pe.run pins s σ H _ I h) fun u s1 z => ?_) ht
    obtain ⟨y, H1, I1, ry, ey, q⟩ := z
    subst ey
    cases (show u = Value.ref C from ry)
    refine ClX.getmethcm_ok I1 r cm fun s2 I2 => ?_
    refine ClX.callwith_cm I2 (ClX.base_none I1 (Nat.le_refl _)) cm.fi (thn (ha.pe.run pos _ s2 σ H1 _ I2 q) fun us s3 z3 => ?_) hst hpl
    obtain ⟨vs, H2, I3, rv, q2⟩ := z3
    exact ⟨⟨ClX.pin_at I3, I3.kIn⟩, run_cmS (F.raw hb .nil) hr (passAt tk σ) I3 rv q2⟩
  · refine ho.sd A S σ H ρ _ _ R E h fun d S1 A1 v H1 g1 R1 hv q1 => ?_
    cases hv <;> first | exact q1.elim | skip
    rename_i c' C' ec
    obtain ⟨rfl, q1⟩ := q1
    have ec' := (show X.mg _ = _ from ec)
    rw [hC] at ec'
    cases ec'
    refine ⟨rfl, ?_⟩
    refine ha.sd A1 S1 σ H1 ρ _ _ R1 (E.mono g1) q1 fun ds S2 A2 vs H2 g2 R2 hvs q2 => ?_
    exact ⟨A2, S2, .cls c' :: ds, Q', E' ρ, R2, by rw [List.append_nil]; exact .cons ((Is.cls hC).mono (Grow.refl)) hvs, q2.1, q2.2, k.mono (g1.trans g2), (x.mono (g1.trans g2)).at_ (E.mono (g1.trans g2))⟩
end
/-! ### try .. except B as n -/
def sTryAs (mg : MG) (b : Value) (i : Nat) (wb : EX → WS) (ws : Addr → Value → Option Addr → WS) : WS := fun DD ρ S => wb (fun ρ' c fs S' => ∀ C, mg.f c = some (.ref C) → PySem.W.exmOne mg.K (.ref C) b = some true ∧
    ∀ a d, (d = none → fs = []) → ws a (.ref C) d { nx := fun ρ2 S2 => DD.nx (ρ2.set i none) S2, rt := DD.rt, bk := fun ρ2 S2 => DD.bk (ρ2.set i none) S2, ct := fun ρ2 S2 => DD.ct (ρ2.set i none) S2 } (ρ'.set i (some (exD a d fs))) S') DD ρ S
theorem EnvD.drop {mg : MG} {A : List Addr} {H : Hp} {σ : L2.St} {ρ : DEnv} (e : EnvD mg A H σ ρ) (i : Nat) : EnvD mg A H (σ.set i none) (ρ.set i none) := by
  refine ⟨by simp [e.len], fun j d hj => ?_⟩
  by_cases hji : i = j
  · subst hji
    by_cases hl : i < ρ.length
    · rw [List.getElem?_set_self hl] at hj; cases hj
    · rw [List.getElem?_eq_none (by simp; omega)] at hj; cases hj
  · rw [List.getElem?_set_ne hji] at hj ⊢
    exact e.at_ j d hj
theorem ds_try_as {X : Cx} {G' : MG} {x n : Str} {c : Value} {i : Nat} {body suite : List Stmt} {b₀ : Stmt} {np pos pos' : Pos} {tb : WX → TS} {wb : EX → WS} {ts : Addr → Value → Option Addr → TS} {ws : Addr → Value → Option Addr → WS} (hs : X.stack = X.env :: X.outer) (hf : X.env.frame = some X.env.locals) (hN : X.N.Nodup) (hc : Names X x c)
    (hb : ∀ (W : WX) (pn : List (Addr × Obj)) (xe : Value → Shared → Prop), Takes (X.tr pn xe) W → PDSsX (X.tr pn xe) W body (tb W) wb)
    (hsu : ∀ (a : Addr) (oe : Obj) (cls : Value) (d : Option Addr) (pn : List (Addr × Obj)), Zc cls d oe → (∃ vs, oe.data = .fields vs) → PDSs (X.suite a ((a, oe) :: pn)) (b₀ :: suite) (ts a cls d) (ws a cls d))
    (hi : X.N[i]? = some n := by rfl) (hln : X.env.kindOf n = some .local := by rfl) (hG : G' = X.G := by rfl) :
    PDS X (.Try body [.ExceptHandler (some (.Name x np)) (some n) (b₀ :: suite) pos'] [] [] pos) (fun D σ H => tb (wAs X.K c i ts (fun _ _ _ _ => False) D) D σ H) (sTryAs G' c i wb ws) := by
  subst hG
  refine ⟨ps_try_as hs hf hN hi hln hc takes0 (fun W pn xe tk _ => (hb W pn xe tk).pe) (fun a oe cls d pn hz hd => (hsu a oe cls d pn hz hd).pe), fun A S σ H ρ D D' R E h k => ?_⟩
  refine (hb (wAs X.K c i ts (fun _ _ _ _ => False) D) [] (fun _ _ => True) (fun _ _ _ => True.intro)).sd A S σ H ρ D D' _ R E ?_ h k
  intro cn fs S1 A1 σ1 H1 ρ1 C d g1 R1 E1 hC xf q
  obtain ⟨e1, q1⟩ := q C hC
  refine ⟨true, e1, fun _ a ha => ?_, fun z => Bool.noConfusion z⟩
  have q2 := q1 a d (fun z => by subst z; exact xf)
  have dat : ∃ vs, (⟨.ref C, d, .fields #[], #[]⟩ : Obj).data = .fields vs := ⟨_, rfl⟩
  refine (hsu a ⟨.ref C, d, .fields #[], #[]⟩ (.ref C) d [] ⟨rfl, rfl⟩ dat).sd A1 S1 _ H1 _ _ _ R1 (E1.set i (xf.is a)) q2 ?_
  have k1 := k.mono g1
  exact ⟨fun ρ2 S2 A2 σ2 H2 g2 R2 E2 z => k1.nx _ S2 A2 _ H2 g2 R2 (E2.drop i) z, k1.rt, fun ρ2 S2 A2 σ2 H2 g2 R2 E2 z => k1.bk _ S2 A2 _ H2 g2 R2 (E2.drop i) z, fun ρ2 S2 A2 σ2 H2 g2 R2 E2 z => k1.ct _ S2 A2 _ H2 g2 R2 (E2.drop i) z⟩
end DL

set_option Elab.async false
set_option linter.all false
set_option maxRecDepth 100000
/-! In an except suite: isinstance of the caught error, repr of data, dicts and own objects. -/
namespace DL
open PySem PySem.Spec PyProof.Rows L2
/-! ### a def that may run while an error is handled -/
section
variable {P : Program} {w : World} {K : PySem.W.Frag} {mg : Str → Option Value} {base : Heap}
theorem fnDH {x qual : Str} {st : Stmt} {f : Addr} {fd : FuncData} {N ps : List Str} {k : Nat} {wf : WF} {ws : WS} (F : Fun K x qual st f fd) (S : FnScope N ps (defScope st))
    (hb : ∀ (cdv : Value) (A : Around) (outer : List Env) (s : Shared) (H : Hp) (E : XK) (p : Addr × Obj), L2H.Hot1 A p → L2H.RoomH k (A.deeper (envOfC qual (defScope st) s.heap.objs.size f cdv)) →
      ∃ t, PDSs (L2H.cxH CX0 P w K mg base N qual (defScope st) f cdv A outer s H E p) (defBody st) t ws)
    (hw : ∀ ds S Q, ds.length = ps.length → wf ds S Q → ws { nx := fun _ S' => Q .non S', rt := Q } (startD N ds) S) : L2H.FnH P w K mg base CX0 (k + 1) f fd ps (spW ⟨K, mg⟩ ps.length wf) := by
  obtain ⟨oc, od, kV, doc, pm, an, cdv, ct, osl, rfl, lk, hcd⟩ := F.ex
  refine L2H.fn_ofH lk hcd S (fun vs H Q E h => h.len) fun A outer s H vs Q E p hot hr h => ?_
  obtain ⟨t, hp⟩ := hb cdv A outer s H E p hot hr
  obtain ⟨A', S', ds, Q', R, l, e, q, k⟩ := h
  refine ⟨t, hp.pe, hp.sd A' S' (L2.start N vs) H (startD N ds) _ _ R (env_start l) (hw ds S' Q' e q) ⟨fun ρ1 S1 A1 σ1 H1 g1 R1 E1 q1 => k _ S1 A1 .non H1 g1 R1 .non q1, k, ?_, ?_⟩⟩
  · intro ρ1 S1 A1 σ1 H1 g1 R1 E1 q1
    exact q1.elim
  · intro ρ1 S1 A1 σ1 H1 g1 R1 E1 q1
    exact q1.elim
end
section
variable {X : Cx} {k : Nat} {C g : Addr} {fd : FuncData} {ps : List Str} {sp : Sp}
theorem run_atH {pins : List (Addr × Obj)} {σ : L2.St} {H : Hp} {s : Shared} {Q : VK} {us : List Value} {vs : List V} {A : Around} {p : Addr × Obj} (F : L2H.FnH X.prog X.w X.K X.mg X.base CX0 k g fd ps sp) (hr : L2H.RoomH k A) (hot : L2H.Hot1 A p) (hp : p ∈ X.pn) (he : Env0 X.prog X.w X.K X.mg X.base A X.stack s H) (hb : Binds X.K fd ps [])
    (I : Inv X pins σ H s) (r : Vals vs us) (h : sp vs H Q E0) : wpAny (model X.prog X.w) A (call (.ref g) us) (EP X pins σ Q) X.xe s := by
  have hl : us.length = ps.length := by rw [← r.length]; exact F.len _ _ _ _ h
  have P1 := I.pin p (List.mem_append_left _ hp)
  have hpin : L2H.PinOk X.stack H s p := ⟨P1.1, P1.2.1, fun hm => (List.mem_cons.mp (I.stkSub p.1 hm)).elim P1.2.2.1 P1.2.2.2.1, P1.2.2.2.2⟩
  refine wpAny_call (codeAny_mono (F.run A X.stack s H ⟨us, []⟩ us vs Q E0 p hr hot hpin he (by simpa using hb s us I.kIn (by simpa using hl)) r h) fun r s' hq => ?_)
  match r, hq with
  | .ok (.ret u), hq => exact I.after hq
/-- repr(o) there -/
theorem call_reprOwnH {p : Addr × Obj} (M : OwnM X.K C "__repr__" g) (F : L2H.FnH X.prog X.w X.K X.mg X.base CX0 k g fd ps sp) (hr : L2H.RoomH (k + 1) X.A) (hot : L2H.Hot1 X.A p) (hp : p ∈ X.pn) (hb : Binds X.K fd ps []) : CallR X (.builtin "repr") (rOwnS C sp) := by
  intro pins s σ H xs us Q I r h
  obtain ⟨a, dx, fs, rfl, ha, q⟩ := h
  obtain ⟨u, rfl, ru⟩ := vals1 r
  cases (show u = Value.ref a from ru)
  obtain ⟨mA, OM, _⟩ := ins_get I.hok ha
  obtain ⟨od, J, _⟩ := OM.look
  obtain ⟨m, hF⟩ := I.fr
  have r1 : L2H.RoomH k X.A.in1 := ⟨by have := hr.dp; show X.A.depth + 3 * k + 5 < _; omega, by have := hr.un; show X.A.units + 1 + 16 * k + 200 < _; omega⟩
  refine PySem.W.repr_K (by have := r1.un; omega) hF I.ok.mod.kin J M.at_ M.fn ?_
  refine wpAny_mono (run_atH (us := [.ref a]) (vs := [.ref a]) (A := X.A.in1) F r1 hot hp I.env0.in1 hb I (.cons rfl .nil) q) (fun w s' z => ?_) fun _ _ e => e
  obtain ⟨v, H', I', rv, ⟨zz, rfl⟩, qq⟩ := z
  obtain ⟨t, rfl⟩ := (show ∃ t, w = Value.str zz t from rv)
  exact ⟨.str zz, H', I', ⟨t, rfl⟩, qq⟩
/-! ### repr of data, whatever is handled -/
theorem call_reprU (un : X.A.units + 200 < cLine) (hg : X.A.guards = some []) : CallR X (.builtin "repr") (rReprD X.K) := by
  intro pins s σ H xs us Q I r h
  obtain ⟨x, d, rfl, hd, sh, q⟩ := h
  obtain ⟨u, rfl, ru⟩ := vals1 r
  have low : ∀ {n : Nat}, n ≤ 101 → X.A.units + n < cLine := fun h => by omega
  cases hd with
  | non => cases (show u = Value.none from ru); exact PySem.P.repr_of_none ⟨.str _, H, I.tok _, ⟨_, rfl⟩, q⟩
  | bl b => cases (show u = Value.bool b from ru); exact PySem.P.repr_of_bool ⟨.str _, H, I.tok _, ⟨_, rfl⟩, q⟩
  | int i =>
    obtain ⟨t, rfl⟩ := (show ∃ t, u = Value.int i t from ru)
    exact PySem.P.repr_of_int (by simpa [PyData.showable] using sh.ok) ⟨.str _, H, I.tok _, ⟨_, rfl⟩, q⟩
  | str y =>
    obtain ⟨t, rfl⟩ := (show ∃ t, u = Value.str y t from ru)
    exact PySem.P.repr_of_str ⟨.str _, H, I.tok _, ⟨_, rfl⟩, q⟩ (by simpa [PyData.shown] using sh.sz)
  | @lst a zs ds hs ha =>
    obtain ⟨as, rd⟩ := Dp.reads I _ _ u (.lst hs ha) ru
    cases (show u = Value.ref a from ru)
    exact repr_of_reads' rd sh.ok (PyData.noDict_hsm sh.nod) hg (low (Nat.succ_le_succ sh.dp)) (fun _ _ e => e) (fun h' v tk hk => ⟨.str _, H, I.kept hk, ⟨v, rfl⟩, q⟩) sh.sz
  | @tup a zs ds hs ha =>
    obtain ⟨as, rd⟩ := Dp.reads I _ _ u (.tup hs ha) ru
    cases (show u = Value.ref a from ru)
    exact repr_of_reads' rd sh.ok (PyData.noDict_hsm sh.nod) hg (low (Nat.succ_le_succ sh.dp)) (fun _ _ e => e) (fun h' v tk hk => ⟨.str _, H, I.kept hk, ⟨v, rfl⟩, q⟩) sh.sz
/-! ### repr of a dict of plain items -/
def keyP : Key → PyData
  | .inl i => .int i
  | .inr x => .str x
def leafP : D → Option PyData
  | .non => some .none
  | .bl b => some (.bool b)
  | .int i => some (.int i)
  | .str x => some (.str x)
  | _ => none
inductive LeafV : V → PyData → Prop where
  | non : LeafV .non .none
  | bl (b : Bool) : LeafV (.bl b) (.bool b)
  | int (i : Int) : LeafV (.int i) (.int i)
  | str (x : Str) : LeafV (.str x) (.str x)
theorem LeafV.reads {h : Heap} {v : V} {d : PyData} (l : LeafV v d) {u : Value} (r : RelV v u) : Reads h u d [] := by
  cases l with
  | non => cases (show u = Value.none from r); exact .none
  | bl b => cases (show u = Value.bool b from r); exact .bool b
  | int i => obtain ⟨t, rfl⟩ := (show ∃ t, u = Value.int i t from r); exact .int i t
  | str x => obtain ⟨t, rfl⟩ := (show ∃ t, u = Value.str x t from r); exact .str x t
inductive LeafK : List (Key × V) → List (PyData × PyData) → Prop where
  | nil : LeafK [] []
  | cons {k : Key} {v : V} {d : PyData} {kvs : List (Key × V)} {kds : List (PyData × PyData)} (h : LeafV v d) (r : LeafK kvs kds) : LeafK ((k, v) :: kvs) ((keyP k, d) :: kds)
theorem key_reads {h : Heap} {k : Key} {u : Value} (e : keyIs k u = true) : Reads h u (keyP k) [] := by
  rcases keyIs_shape e with ⟨i, t, rfl, rfl⟩ | ⟨x, t, rfl, rfl⟩
  · exact .int i t
  · exact .str x t
theorem leaf_reads {P : Program} {w : World} {h : Heap} : ∀ {kvs : List (Key × V)} {kds : List (PyData × PyData)} {vs : List (Key × Value)} {es : List DictEntry}, LeafK kvs kds → KV kvs vs → Pairs (mixKind P w) es vs →
    ReadsAll h (es.map (·.key)) (kds.map (·.1)) [] ∧ ReadsAll h (es.map (·.val)) (kds.map (·.2)) []
  | _, _, _, _, .nil, .nil, .nil => ⟨.nil, .nil⟩
  | _, _, _, _, .cons hl r, .cons hk kr, .cons he hv pr => by
    obtain ⟨h1, h2⟩ := leaf_reads (h := h) r kr pr
    have e1 := hk.1
    have e2 := hk.2
    dsimp only at e1 e2
    refine ⟨ReadsAll.cons (as := []) (bs := []) (key_reads (by rw [e1]; exact he)) h1, ReadsAll.cons (as := []) (bs := []) (hl.reads (by show RelV _ (DictEntry.val _); rw [hv]; exact e2)) h2⟩
def rReprK : List V → Hp → VK → Prop := fun xs H Q => ∃ a kvs kds, xs = [.ref a] ∧ H a = some (.dK kvs) ∧ LeafK kvs kds ∧ (PyData.dict kds).showable = true ∧ (PyData.dict kds).depth ≤ 100 ∧ (PyData.dict kds).shown.length ≤ sizeLine ∧ Q (.str (PyData.dict kds).shown) H
theorem call_reprK (un : X.A.units + 200 < cLine) (hg : X.A.guards = some []) : CallR X (.builtin "repr") rReprK := by
  intro pins s σ H xs us Q I r h
  obtain ⟨a, kvs, kds, rfl, ha, hl, sh, dp, sz, q⟩ := h
  obtain ⟨u, rfl, ru⟩ := vals1 r
  cases (show u = Value.ref a from ru)
  obtain ⟨_, hsm, vs, kv, o, es, ep, ho, ex, hd, _, pr, _⟩ := (show ObjOk X.prog X.w H s.heap a (.dK kvs) from I.hok a _ ha)
  obtain ⟨h1, h2⟩ := leaf_reads (h := s.heap) hl kv pr
  have rd : Reads s.heap (.ref a) (.dict kds) (a :: [] ++ []) := .dict ho ex.1 hd h1 h2
  refine repr_of_reads' rd sh (fun _ hm => ?_) hg (by have : (PyData.dict kds).depth + 1 ≤ 101 := Nat.succ_le_succ dp; omega) (fun _ _ e => e) (fun h' v tk hk => ⟨.str _, H, I.kept hk, ⟨v, rfl⟩, q⟩) sz
  have hm : sysModules ∈ [a] := by simpa using hm
  have e : sysModules = a := List.mem_singleton.mp hm
  subst e
  exact absurd hsm (by decide)
end
def leafPs : List (Key × D) → Option (List (PyData × PyData))
  | [] => some []
  | (k, d) :: r => match leafP d, leafPs r with
    | some p, some ps => some ((keyP k, p) :: ps)
    | _, _ => none
def oReprK : LD := fun ds S Q => match ds with
  | [.dct kds] => ∃ ps, leafPs kds = some ps ∧ (PyData.dict ps).showable = true ∧ (PyData.dict ps).depth ≤ 100 ∧ (PyData.dict ps).shown.length ≤ sizeLine ∧ Q (.str (PyData.dict ps).shown) S
  | _ => False
theorem Is.leaf {mg : MG} {A : List Addr} {H : Hp} {v : V} {d : D} {p : PyData} (h : Is mg A H v d) (e : leafP d = some p) : LeafV v p := by
  cases h <;> cases e
  · exact .non
  · exact .bl _
  · exact .int _
  · exact .str _
theorem IsK.leaf {mg : MG} {A : List Addr} {H : Hp} : ∀ {kvs : List (Key × V)} {kds : List (Key × D)} {ps : List (PyData × PyData)}, IsK mg A H kvs kds → leafPs kds = some ps → LeafK kvs ps
  | _, _, _, .nil, e => by cases e; exact .nil
  | _, _, _, .cons h t, e => by
    unfold leafPs at e
    split at e
    · rename_i p ps e1 e2
      cases e
      exact .cons (h.leaf e1) (IsK.leaf t e2)
    · cases e
theorem snd_reprK {mg : MG} : SndC mg rReprK oReprK := by
  intro A S H xs ds Q Q' R l q k
  match ds, q, l with
  | [.dct kds], ⟨ps, e, h1, h2, h3, q⟩, l =>
    obtain ⟨v, rfl, hv⟩ := l.one
    cases hv with
    | @dct a kvs _ n r lk => exact ⟨a, kvs, ps, rfl, r, lk.leaf e, h1, h2, h3, k _ S A _ H .refl R (.str _) q⟩
def oOr (o1 o2 : LD) : LD := fun ds S Q => o1 ds S Q ∨ o2 ds S Q
theorem snd_orC {mg : MG} {r1 r2 : List V → Hp → VK → Prop} {o1 o2 : LD} (h1 : SndC mg r1 o1) (h2 : SndC mg r2 o2) : SndC mg (fun xs H Q => r1 xs H Q ∨ r2 xs H Q) (oOr o1 o2) := by
  intro A S H xs ds Q Q' R l q k
  rcases q with q | q
  · exact .inl (h1 A S H xs ds Q Q' R l q k)
  · exact .inr (h2 A S H xs ds Q Q' R l q k)
/-! ### isinstance of the caught error -/
structure ExcT (K : PySem.W.Frag) (D : Addr) : Prop where
  hc : PySem.W.isClsIn K D = true
  hg : PySem.W.findIn K (.ref D) "__getattribute__" = some (some (.builtin "BaseException.__getattribute__"))
  hk : PySem.W.findIn K (.ref D) "__getattr__" = some none
  hs : PySem.W.subIn K (.ref D) (.type "BaseException") = some true
  ha : PySem.W.findIn K (.ref D) "__class__" = some (some (.builtin "object.__class__"))
  hn : PySem.W.specialIn K (.builtin "object.__class__") "__get__" = some (some (.builtin "getset_descriptor.__get__"))
  ht : PySem.W.takesIn K (.builtin "object.__class__") = some true
  hm : PySem.W.mroIn K D (.type "object") = some true
def rIsX (K : PySem.W.Frag) (a : Addr) (cls : Value) (d : Option Addr) : List V → Hp → VK → Prop := fun xs H Q => ∃ (D : Addr) (c : V) (cv : Value) (b : Bool), cls = .ref D ∧ ExcT K D ∧ (d = none ∨ ∃ dd fs, d = some dd ∧ H dd = some (.xd fs)) ∧ xs = [.ref a, c] ∧ (∀ u, RelV c u → u = cv) ∧ PySem.W.kitOne K (.ref D) cv = some b ∧ Q (.bl b) H
theorem call_isX {X : Cx} {a : Addr} {cls : Value} {d : Option Addr} {oe : Obj} {pn : List (Addr × Obj)} (hz : Zc cls d oe) (hf : ∃ vs, oe.data = .fields vs) : CallR (X.suite a ((a, oe) :: pn)) (.builtin "isinstance") (rIsX X.K a cls d) := by
  intro pins s σ H xs us Q I r h
  obtain ⟨D, c, cv, b, rfl, C, hd, rfl, hcv, e, q⟩ := h
  obtain ⟨u1, u2, rfl, r1, r2⟩ : ∃ u1 u2, us = [u1, u2] ∧ RelV (.ref a) u1 ∧ RelV c u2 := by
    cases r with
    | cons rx rr =>
      cases rr with
      | cons rt rr =>
        cases rr
        exact ⟨_, _, rfl, rx, rt⟩
  cases (show u1 = Value.ref a from r1)
  obtain rfl := hcv _ r2
  obtain ⟨hget, _⟩ := I.pin (a, oe) (List.mem_append_left _ List.mem_cons_self)
  obtain ⟨vs, hv⟩ := hf
  have no : PySem.W.notCls oe = true := by unfold PySem.W.notCls; rw [hv] <;> rfl
  have J : ∃ od, PySem.W.InstAt s.heap a oe D od := by
    rcases hd with rfl | ⟨dd, fs, rfl, hx⟩
    · exact ⟨none, hget, hz.1, no, by rw [hz.2] <;> trivial⟩
    · obtain ⟨mA, hns, _⟩ := (show ObjOk X.prog X.w H s.heap dd (.xd fs) from I.hok dd _ hx)
      obtain ⟨od, ho, _⟩ := lookIn_ns hns
      exact ⟨some od, hget, hz.1, no, by rw [hz.2]; exact ho⟩
  obtain ⟨od, J⟩ := J
  exact PySem.W.kia_one (PySem.W.kitx_exc (od := od) C.hc C.hg C.hk C.hs C.ha C.hn C.ht C.hm) I.kIn J e (fun z => nomatch z) fun tk => ⟨.bl b, H, I.kept (t' := tk) fun _ _ z => z, rfl, q⟩
def oIsX (mg : MG) (a : Addr) (cls : Value) (d : Option Addr) : LD := fun ds S Q => match ds with
  | [x, .cls c] => (∃ fs, x = exD a d fs) ∧ ∃ D C b, cls = .ref D ∧ ExcT mg.K D ∧ mg.f c = some (.ref C) ∧ PySem.W.kitOne mg.K (.ref D) (.ref C) = some b ∧ Q (.bl b) S
  | _ => False
theorem snd_isX {mg : MG} {a : Addr} {cls : Value} {d : Option Addr} : SndC mg (rIsX mg.K a cls d) (oIsX mg a cls d) := by
  intro A S H xs ds Q Q' R l q0 k
  match ds, q0, l with
  | [x, .cls c], ⟨⟨fs, ex⟩, D, C, b, e1, e2, e3, e4, q⟩, l =>
    obtain ⟨v, w, rfl, hx, hc⟩ := l.two
    cases hc with
    | @cls _ C' ec =>
      have e : C' = C := by
        have z := ec.symm.trans e3
        injection z with z
        injection z
      subst e
      subst ex
      cases d with
      | none =>
        cases hx
        exact ⟨D, .ref C', .ref C', b, e1, e2, .inl rfl, rfl, fun u ru => ru, e4, k _ S A _ H .refl R (.bl b) q⟩
      | some dd =>
        cases hx with
        | @exc _ _ fvs _ n r lf => exact ⟨D, .ref C', .ref C', b, e1, e2, .inr ⟨dd, fvs, rfl, r⟩, rfl, fun u ru => ru, e4, k _ S A _ H .refl R (.bl b) q⟩
end DL

set_option Elab.async false
set_option linter.all false
set_option maxRecDepth 100000
set_option maxHeartbeats 2000000
namespace PySem
namespace EX_InvalidText
open PySem.W PySem.Calls PyProof.Rows PySem.HandSPX
/-! ### the text of __init__ -/
def iA (p1 p2 : Pos) : Arguments := { posonlyargs := [], args := [{ arg := "self", annotation := none, pos := p1 }, { arg := "text", annotation := none, pos := p2 }], vararg := none, kwonlyargs := [], kw_defaults := [], kwarg := none, defaults := [] }
def iB (q1 q2 q3 q4 : Pos) : List Stmt := [.Assign [.Attribute (.Name "self" q1) "text" q2] (.Name "text" q3) q4]
def iS : Scope := { kind := .function, names := [(PySem.Str.ofString "self", .local), (PySem.Str.ofString "text", .local)], isGenerator := false, isCoroutine := false, more := [] }
/-- what the written part says of Low, at C, and of its __init__, at fI -/
structure LowTxt (K : Frag) (mg : Str → Option Value) (C fI : Addr) : Prop where
  gC : mg "InvalidText" = some (.ref C)
  cls : ∃ nm q N bs bm sn sub ab col dd k0 k1 k2 k3 k5, K.lookup C = some (excClassObj nm q C N bs bm true sn sub ab col dd k0 k1 k2 k3 k5 "ValueError.__new__") ∧ refsVE bm = true
  sa : findIn K (.ref C) "__setattr__" = some (some (.builtin "object.__setattr__"))
  ga : findIn K (.ref C) "__getattribute__" = some (some (.builtin "BaseException.__getattribute__"))
  gg : findIn K (.ref C) "__getattr__" = some none
  noN : findIn K (.ref C) "text" = some none
  iC : findIn K (.ref C) "__init__" = some (some (.ref fI))
  tC : typeIn K (.ref fI) = some (.type "function")
  kC : keepIn K (.ref C) = true
  exC : subIn K (.ref C) (.type "BaseException") = some true
  tyC : typeIn K (.ref C) = some (.type "type")
  hdC : hasDictIn K C = true
  te : exmOne K (.ref C) (.ref C) = some true
  fn : ∃ (oc : Value) (od : Option Addr) (doc pm : Value) (an : Option Addr) (cdv ct : Value) (osl : Array (Option Value)) (p1 p2 q1 q2 q3 q4 : Pos),
    K.lookup fI = some ⟨oc, od, .func (fnOf "__init__" "InvalidText.__init__" (iA p1 p2) (iB q1 q2 q3 q4) iS .none .none doc pm an cdv ct), osl⟩ ∧ codeIn K cdv "InvalidText.__init__" = true
theorem one_size (v : Value) : [v].length ≤ sizeLine := by
  rw [sizeLine_eq]
  exact (by decide : 1 ≤ 16777216)
theorem kept_but {K : Frag} {h h' : Heap} {x : Addr} (X : K.In h) (hx : K.lookup x = none) (k : ∀ b o, b ≠ x → h.get? b = some o → h'.get? b = some o) : K.In h' := fun a o e =>
  k a o (fun z => by rw [z, hx] at e; cases e) (X a o e)
theorem ldC {M : Model} {s : Shared} {name : Str} {scope : Scope} {L a : Addr} {cd : Value} {m : Str → Option Value} {x : Str} {pos : Pos} {v : Value} {Q : Value → Shared → Prop} {A : Around} {E : Value → Shared → Prop} (hn : s.heap.Ns L m) (hv : m x = some v) (h : Q v s)
    (hk : scope.kind = .function := by rfl) (hl : (envOfC name scope L a cd).kindOf x = some .local := by rfl) (hd : (x == ("__debug__" : Str)) = false := by decide) :
    wpAny M A (eval (.Name x pos) (envOfC name scope L a cd)) Q E s := wpAny_Name (wpAny_loadName_local hk hl hn hv h) hd
/-- what __init__ leaves of a fresh exception at x -/
structure InitEnd (h h' : Heap) (x C dx t1 : Addr) (v : Value) : Prop where
  keep : ∀ b o, b ≠ x → h.get? b = some o → h'.get? b = some o
  obj : h'.get? x = some { cls := .ref C, dict := some dx, data := .fields #[.ref t1, .none, .none, .none, .bool false, .none] }
  dbig : h.objs.size ≤ dx
  dne : dx ≠ x
  ns : h'.Ns1 dx (fun y => if y = "text" then some v else none)
/-- a made Low -/
structure OwnMade (h h' : Heap) (e C d : Addr) (v : Value) : Prop where
  keep : ∀ b o, h.get? b = some o → h'.get? b = some o
  new : h.objs.size ≤ e
  obj : ∃ oe vs, h'.get? e = some oe ∧ oe.cls = .ref C ∧ oe.dict = some d ∧ oe.data = .fields vs ∧ vs[1]? = some .none
  dbig : h.objs.size ≤ d
  dne : d ≠ e
  ns : h'.Ns1 d (fun y => if y = "text" then some v else none)
section
variable {prog : Program} {w : World} {A : Around} {E : Value → Shared → Prop} {R : Result → Shared → Prop} {s : Shared} {K : Frag} {mg : Str → Option Value} {C fI : Addr}
theorem low_init (T : LowTxt K mg C fI) {x t0 : Addr} {v : Value} (X : K.In s.heap) (hlim : s.heap.NoLimit) (hx : s.heap.get? x = some (excO C t0)) (hnx : K.lookup x = none) (hroom : A.depth < recursionLimit)
    (hq : ∀ h' tk dx, InitEnd s.heap h' x C dx t0 v → R (.ok (.ret .none)) { s with heap := h', toks := tk }) :
    codeAny (model prog w) A (.call (.ref fI) ⟨[.ref x, v], []⟩) R s := by
  obtain ⟨oc, od, doc, pm, an, cdv, ct, osl, p1, p2, q1, q2, q3, q4, ho, hcd⟩ := T.fn
  obtain ⟨nm, q, N, bs, bm, sn, sub, ab, col, dd, k0, k1, k2, k3, k5, hC, hbm⟩ := T.cls
  have hcl : clsIn K C = some { name := nm, bases := bs, mro := .ref C :: bm, ns := N, qualname := q, hasDict := true, slotNames := sn, subclasses := sub, abstract := ab, collection := col, hasDel := false } := by unfold clsIn; rw [hC] <;> rfl
  refine Att.call_fn (binds := [("self", .ref x), ("text", v)]) X hlim ho hcd hroom (BindsTo.of_eq (by first | rfl | with_unfolding_all rfl)) (by first | rfl | decide | with_unfolding_all rfl) (fun s₁ IC => ?_) rfl rfl rfl
  obtain ⟨h₁, tk₁, rfl⟩ := IC.toInCall.same
  have k : ∀ b o, s.heap.get? b = some o → h₁.get? b = some o := IC.toInCall.keep
  have hn := IC.toInCall.ns
  have hxL : s.heap.objs.size ≠ x := Nat.ne_of_gt (Heap.lt_size hx)
  have X₁ : K.In h₁ := X.keeps k
  have hx₁ := k _ _ hx
  -- self.by = by
  show wpAny _ _ (execs _ _) _ _ _
  refine wpAny_execs_cons (plainObj_wpAny_Assign_Attribute ?_)
  refine ldC (v := v) hn (by first | rfl | with_unfolding_all rfl | kernel_rfl) (ldC (v := .ref x) hn (by first | rfl | with_unfolding_all rfl | kernel_rfl) ?_)
  refine set_plain X₁ (ox := excO C t0) (od := none) ⟨hx₁, rfl, rfl, trivial⟩ T.sa ?_
  refine exc_osa X₁ hx₁ hcl (show refsVE (.ref C :: bm) = true from hbm) rfl T.noN (fun h₃ tk₃ dx k₃ dn dne hx₃ hn₃ => ?_)
  show wpAny _ _ (execs _ _) _ _ _
  have z : s.heap.objs.size < h₁.objs.size := hn.lt
  exact wpAny_execs_nil (hq h₃ tk₃ dx ⟨fun b o hb e => k₃ b o hb (k b o e), hx₃, Nat.le_of_lt (Nat.lt_of_lt_of_le z dn), dne, hn₃⟩)
theorem low_made (T : LowTxt K mg C fI) {v : Value} (X : K.In s.heap) (hlim : s.heap.NoLimit) (hroom : A.depth + 1 < recursionLimit)
    (hq : ∀ h' tk e d, OwnMade s.heap h' e C d v → R (.ok (.ret (.ref e))) { s with heap := h', toks := tk }) :
    codeAny (model prog w) A (.call (.ref C) ⟨[v], []⟩) R s := by
  obtain ⟨nm, q, N, bs, bm, sn, sub, ab, col, dd, k0, k1, k2, k3, k5, hC, hbm⟩ := T.cls
  obtain ⟨hp, g, dr, tk, os⟩ := s
  have k : ∀ b o, hp.get? b = some o → ((hp.push (kdv_tup [v])).push (excO C hp.objs.size)).get? b = some o := fun b o e => Heap.get?_push_of_some _ (Heap.get?_push_of_some _ e)
  have hget : ((hp.push (kdv_tup [v])).push (excO C hp.objs.size)).get? (hp.objs.size + 1) = some (excO C hp.objs.size) := by heap_get
  have hnx : K.lookup (hp.objs.size + 1) = none := by
    cases e : K.lookup (hp.objs.size + 1) with
    | none => rfl
    | some o =>
      have z : hp.get? (hp.objs.size + 1) = some o := X _ _ e
      exact absurd (Nat.lt_of_succ_lt (Heap.lt_size z)) (Nat.lt_irrefl _)
  refine call_own F.excBase_ValueError (fun X => refsVE_contains X bm hbm) (X _ _ hC) (looks_findIn X T.iC) (fun self => bind_fn X self T.tC) (one_size v) ?_
  refine low_init (s := ⟨(hp.push (kdv_tup [v])).push (excO C hp.objs.size), g, dr, tk, os⟩) T (X.keeps k) (hlim.keeps k) hget hnx ?_ fun h' tk' dx ⟨k', hx, dn, dne, hns⟩ => ?_
  · show A.depth + 1 < recursionLimit
    exact hroom
  · have old : ∀ b o, hp.get? b = some o → h'.get? b = some o := fun b o e => k' b o (Nat.ne_of_lt (Nat.lt_succ_of_lt (Heap.lt_size e))) (k b o e)
    have z : hp.objs.size + 1 + 1 ≤ dx := by
      first
        | (simpa only [Heap.size_push] using dn)
        | exact dn
        | (have q := dn; rw [Heap.size_push, Heap.size_push] at q; exact q)
    exact ⟨rfl, hq h' tk' (hp.objs.size + 1) dx ⟨old, Nat.le_succ _, ⟨_, _, hx, rfl, rfl, rfl, rfl⟩, Nat.le_trans (Nat.le_trans (Nat.le_succ _) (Nat.le_succ _)) z, dne, hns⟩⟩
end
end EX_InvalidText
end PySem
namespace L2
namespace EX_InvalidText
open PySem PySem.Spec PyProof.Rows
theorem relO_low {v : V} {v' : Value} (r : RelV v v') (f : Str) : RelO (List.lookup f [(("text" : Str), v)]) (if f = "text" then some v' else none) := by
  by_cases hw : f = "text"
  · subst hw
    rw [if_pos rfl]
    have q : List.lookup ("text" : Str) [(("text" : Str), v)] = some v := by simp [List.lookup]
    rw [q]
    exact r
  · rw [if_neg hw]
    have qw : (f == ("text" : Str)) = false := by simpa using hw
    have q2 : List.lookup f [(("text" : Str), v)] = none := by simp [List.lookup, qw]
    rw [q2]
    trivial
section
variable {X : Cx} {C fI : Addr}
/-- Low(e) -/
def tMkLow (C : Addr) (ta : TA) : St → Hp → XK → Prop := fun σ H Q => ta σ H fun vs H1 => ∃ v, vs = [v] ∧ ∀ d, H1 d = none → Q (.ref C) (some d) (upd H1 d (.xd [(("text" : Str), v)]))
theorem pmk_low {a : Expr} {ta : TA} {p pos : Pos} {k : Nat} (T : PySem.EX_InvalidText.LowTxt X.K X.mg C fI) (hr : Room k X.A) (ha : PA X [a] ta) (hg : Gl X "InvalidText" := by rfl)
    (he : starEach (a :: []) X.env = (false, eval a X.env) :: starEach [] X.env := by rfl) (hpl : (backTo pos (starEach [] X.env)).any (·.1) = false := by rfl) :
    PMk X (.Call (.Name "InvalidText" p) [a] [] pos) (tMkLow C ta) := by
  intro pins s σ H Q I h
  refine wpAny_Call_Name_kw (ld_glob I hg T.gC ?_)
  refine PySem.W.callWith_K (h₀ := X.base) I.ok.mod.kin T.kC (thn (ha.run pos pins s σ H _ I h) fun us s1 hh => ?_) he hpl
  obtain ⟨vs, H1, I1, r1, v, ev, q1⟩ := hh
  subst ev
  refine ⟨I1.kIn, ?_⟩
  cases r1 with
  | cons rv rn =>
    rename_i v' us'
    cases rn
    show wpAny _ _ (call (.ref C) [v']) _ _ _
    have hlim := I1.nolimit
    obtain ⟨hp, g, dr, tk, os⟩ := s1
    refine wpAny_call (PySem.EX_InvalidText.low_made T I1.kIn hlim (by have := hr.dp; omega) fun h' tk' e d M => ?_)
    show MkP X pins σ Q (.ref e) ⟨h', g, dr, tk', os⟩
    obtain ⟨oe, fv, hoe, hc, hd, hdat, h1⟩ := M.obj
    have hns := M.ns
    obtain ⟨G', g1, g2⟩ := restrict h' fun b => decide (b ≠ e)
    have gk : ∀ b, b ≠ e → G'.get? b = h'.get? b := fun b hb => g1 b (decide_eq_true hb)
    have ge : G'.get? e = none := g2 e (by simp)
    have old : ∀ b o, hp.get? b = some o → G'.get? b = some o := fun b o q => (gk b (Nat.ne_of_lt (Nat.lt_of_lt_of_le (Heap.lt_size q) M.new))).trans (M.keep b o q)
    have ob : ObjOk X.prog X.w (upd H1 d (.xd [(("text" : Str), v)])) G' d (.xd [(("text" : Str), v)]) :=
      ⟨_, hns.at (fun o q => (gk d M.dne).trans q), fun f => relO_low rv f⟩
    have J : Inv X pins σ (upd H1 d (.xd [(("text" : Str), v)])) ⟨G', g, dr, tk', os⟩ := I1.laid (t' := tk') old M.dbig ob
    refine ⟨e, oe, fv, ⟨G', g, dr, tk', os⟩, _, .ref C, some d, rfl, J, fun b o q => ?_, ge, hoe, ⟨hc, hd⟩, hdat, h1, ?_, rfl, I1.bare, raises_own T.exC T.tyC, q1 d (I1.hok.fresh M.dbig)⟩
    · by_cases hb : b = e
      · have q' : G'.get? b = some o := q
        rw [hb, ge] at q'; cases q'
      · exact (gk b hb).symm.trans q
    · rw [upd_ne (Ne.symm M.dne)]
      exact I1.hok.fresh M.new
/-- raise Low(e) -/
def tRaiseLow (C : Addr) (W : WX) (ta : TA) : TS := fun _ σ H => tMkLow C ta σ H fun cls d H' => W cls d σ H'
theorem ps_raiseLow {a : Expr} {ta : TA} {W : WX} {p pos pos2 : Pos} {k : Nat} (hc : X.calm = true) (T : PySem.EX_InvalidText.LowTxt X.K X.mg C fI) (hr : Room k X.A) (tk : Takes X W) (ha : PA X [a] ta) (hg : Gl X "InvalidText" := by rfl)
    (he : starEach (a :: []) X.env = (false, eval a X.env) :: starEach [] X.env := by rfl) (hpl : (backTo pos (starEach [] X.env)).any (·.1) = false := by rfl) :
    PS X (.Raise (some (.Call (.Name "InvalidText" p) [a] [] pos)) none pos2) (tRaiseLow C W ta) := ps_raise hc tk (pmk_low T hr ha hg he hpl)
/-- low.by, low the exception that the suite holds (at a; its class cls, its dict d) -/
def tByLow (C : Addr) (a : Addr) (cls : Value) (d : Option Addr) (te : TE) : TE := fun σ H Q => te σ H fun x H1 => x = .ref a ∧ cls = .ref C ∧ ∃ (dd : Addr) (v : V), d = some dd ∧ H1 dd = some (.xd [(("text" : Str), v)]) ∧ Q v H1
theorem pe_byLow {a : Addr} {oe : Obj} {cls : Value} {d : Option Addr} {pn : List (Addr × Obj)} {e : Expr} {te : TE} {pos : Pos} (T : PySem.EX_InvalidText.LowTxt X.K X.mg C fI) (hz : Zc cls d oe) (hf : ∃ vs, oe.data = .fields vs) (he : PE (X.suite a ((a, oe) :: pn)) e te)
    (hb : attributeBase e "text" X.env (eval e X.env) = eval e X.env := by rfl) :
    PE (X.suite a ((a, oe) :: pn)) (.Attribute e "text" pos) (tByLow C a cls d te) := by
  refine ⟨fun pins s σ H Q I h => ?_⟩
  refine attr_of hb (thn (he.run pins s σ H _ I h) fun u s1 hh => ?_)
  obtain ⟨x, H1, I1, rx, ex, ec, dd, v, ed, ea, q⟩ := hh
  subst ex
  obtain rfl : u = Value.ref a := rx
  subst ec
  subst ed
  obtain ⟨ha, _⟩ := I1.pin (a, oe) (List.mem_append_left _ List.mem_cons_self)
  obtain ⟨vs, hd⟩ := hf
  have hx : ObjOk X.prog X.w H1 s1.heap dd (.xd [(("text" : Str), v)]) := I1.hok dd _ ea
  obtain ⟨mA, hns, hr⟩ := hx
  obtain ⟨od, ho, hl⟩ := lookIn_ns hns
  have l : List.lookup ("text" : Str) [(("text" : Str), v)] = some v := by simp [List.lookup]
  obtain ⟨u, hu, ru⟩ := RelO.some_of (v := v) (o := mA "text") (by rw [← l]; exact hr "text")
  have J : PySem.W.InstAt s1.heap a oe C (some od) := ⟨ha, hz.1, by unfold PySem.W.notCls; rw [hd] <;> rfl, by rw [hz.2]; exact ho⟩
  exact HandSPX.exc_get I1.kIn J T.ga T.gg T.exC (PySem.W.findObj_own T.hdC T.noN rfl (by rw [hl, hu])) (handed_of ru) ⟨v, H1, I1.tok _, ru, q⟩
end
end EX_InvalidText
end L2
namespace DL
open PySem PySem.Spec PyProof.Rows L2
section
variable {X : Cx} {W : WX} {C fI : Addr} {k : Nat}
/-- raise InvalidText(e) -/
theorem dx_raise_InvalidText {a : Expr} {ta : TA} {wa : WL} {p pos pos2 : Pos} (hc : X.calm = true) (T : PySem.EX_InvalidText.LowTxt X.K X.mg C fI) (hr : Room k X.A) (tk : Takes X W) (ha : PDA X [a] ta wa) (hg : Gl X "InvalidText" := by rfl)
    (he : starEach (a :: []) X.env = (false, eval a X.env) :: starEach [] X.env := by rfl) (hpl : (backTo pos (starEach [] X.env)).any (·.1) = false := by rfl) :
    PDSX X W (.Raise (some (.Call (.Name "InvalidText" p) [a] [] pos)) none pos2) (EX_InvalidText.tRaiseLow C W ta) (fun E' D ρ S => wa ρ S fun ds S1 => match ds with
      | [x] => E' ρ "InvalidText" [("text", x)] S1
      | _ => False) := by
  refine ⟨EX_InvalidText.ps_raiseLow hc T hr tk ha.pe hg he hpl, fun A S σ H ρ D D' E' R E x h kk => ?_⟩
  refine ha.sd A S σ H ρ _ _ R E h fun ds S1 A1 vs H1 g1 R1 hv q1 => ?_
  match ds, hv, q1 with
  | [y], hv, q1 =>
    obtain ⟨v, rfl, hy⟩ := hv.one
    refine ⟨v, rfl, fun d hd => ?_⟩
    have g2 := grow_new (o := .xd [(("text" : Str), v)]) R1 hd
    exact x "InvalidText" [("text", y)] S1 A1 σ _ ρ C (some d) (g1.trans g2) (R1.new hd) ((E.mono g1).mono g2) T.gC ⟨_, R1.fresh hd, upd_same, (IsF.cons hy .nil).mono g2⟩ q1
/-- e.text, e the error that the suite holds -/
def wBy_text (C a : Addr) (cls : Value) (d : Option Addr) (we : WD) : WD := fun ρ S Q => we ρ S fun x S1 => d ≠ none ∧ cls = .ref C ∧ ∃ y, x = exD a d [("text", y)] ∧ Q y S1
theorem d_by_text {a : Addr} {oe : Obj} {cls : Value} {d : Option Addr} {pn : List (Addr × Obj)} {e : Expr} {te : TE} {we : WD} {pos : Pos} (T : PySem.EX_InvalidText.LowTxt X.K X.mg C fI) (hz : Zc cls d oe) (hf : ∃ vs, oe.data = .fields vs) (he : PD (X.suite a ((a, oe) :: pn)) e te we)
    (hb : attributeBase e "text" X.env (eval e X.env) = eval e X.env := by rfl) : PD (X.suite a ((a, oe) :: pn)) (.Attribute e "text" pos) (EX_InvalidText.tByLow C a cls d te) (wBy_text C a cls d we) := by
  refine ⟨EX_InvalidText.pe_byLow T hz hf he.pe hb, fun A S σ H ρ Q Q' R E h kk => ?_⟩
  refine he.sd A S σ H ρ _ _ R E h fun x S1 A1 v H1 g1 R1 hv q1 => ?_
  obtain ⟨hd, ec, y, rfl, q1⟩ := q1
  cases d with
  | none => exact absurd rfl hd
  | some dd =>
    cases hv with
    | @exc _ _ fvs _ n r l =>
      cases l with
      | @cons _ v1 _ fs1 _ h1 t1 =>
        cases t1
        exact ⟨rfl, ec, dd, v1, rfl, r, kk _ S1 A1 v1 H1 g1 R1 h1 q1⟩
end
end DL

set_option Elab.async false
set_option linter.all false
set_option maxRecDepth 100000
/-! A classmethod called by a keyword; a call that doesn't raise. -/
namespace DL
open PySem PySem.Spec PyProof.Rows L2
theorem PDX.no {X : Cx} {e : Expr} {t : TE} {w : EX → WD} (h : PDX X (fun _ _ _ _ => False) e t w) : PD X e t (w fun _ _ _ _ => False) :=
  ⟨h.pe, fun A S σ H ρ Q Q' R E q k => h.sd A S σ H ρ Q Q' _ R E (fun _ _ _ _ _ _ _ _ _ _ _ _ _ _ z => z.elim) q k⟩
section
variable {X : Cx} {W : WX} {k n : Nat} {f C : Addr} {fd : FuncData} {ps ks : List Str} {w : WFX} {c m : Str} {pos apos : Pos} {o : Expr} {kws : List Keyword} {t : TA} {wl : WL} {to : TE} {wo : WD}
theorem dx_cmethK {p' g : Addr} {mc : Value} {pl : Sem Bool} (tk : Takes X W) (ho : PD X o to wo) (hC : X.mg c = some (.ref C)) (r : ClX.CRead X.K C mc) (cm : ClX.CMet X.K C mc m p' g) (F : FnOk X.prog X.w X.K X.mg X.base (L2.CX X.prog X.w) k g fd ps (spX X.G n w)) (hr : Room k X.A)
    (kb : ∀ (s : Shared) (v : Value) (us : List Value), X.K.In s.heap → us.length = ks.length → BindsTo s fd ⟨[v], ks.zip us⟩ (ps.zip (v :: us))) (hk : PDK X kws t wl) (hn : n = ks.length + 1 := by rfl) (hks : (backToKw pos (keywordEach kws X.env)).filterMap (·.1) = ks := by rfl) (hall : (backToKw pos (keywordEach kws X.env)).all (·.1.isSome) = true := by rfl)
    (hpl : ((backTo pos (starEach [] X.env)).any (·.1) || (backToKw pos (keywordEach kws X.env)).any (·.1.isNone)) = false := by rfl)
    (ht : eval (.Call (.Attribute o m apos) [] kws pos) X.env = (do
      let ov ← eval o X.env
      standAt apos.atName
      let (f, first) ← holding [ov] (getMethod ov m pl)
      callWith pos f first (backTo pos (starEach [] X.env)) (backToKw pos (keywordEach kws X.env))) := by rfl) :
    PDX X W (.Call (.Attribute o m apos) [] kws pos) (tCMethS C (fun vs H Q E => vs.length = n ∧ spX X.G n w vs H Q E) (WE W) to t) (wCMethX c n w wo wl) := by
  refine ⟨⟨fun pins s σ H Q I h => ?_⟩, fun A S σ H ρ Q Q' E' R E x h k => ?_⟩
  · refine PySem.W.methodCall_KW (pl := pl) (thn (ho.pe.run pins s σ H _ I h) fun u s1 z => ?_) ht
    obtain ⟨y, H1, I1, ry, ey, q⟩ := z
    subst ey
    cases (show u = Value.ref C from ry)
    refine ClX.getmethcm_ok I1 r cm fun s2 I2 => ?_
    refine PySem.W.callWith_of hpl (PySem.W.keeps_M (self := .ref C) cm.fi) (evalArgs_kw2_nil hall (thn (hk.pe.run pos _ s2 σ H1 _ I2 q) fun us s3 z3 => ?_))
    obtain ⟨vs, H2, I3, rv, hl, q2⟩ := z3
    refine ⟨⟨ClX.pin_at I3, I3.kIn⟩, ?_⟩
    rw [hks]
    have lu : us.length = ks.length := by rw [← rv.length]; simp only [List.length_cons] at hl; omega
    have run : codeAny (model X.prog X.w) X.A (.call (.ref g) ⟨.ref C :: [], ks.zip us⟩) (fun r s' => match r with | .ok (.ret v) => EP X ((s1.heap.objs.size, PySem.W.methodObj (.ref g) (.ref C)) :: pins) σ Q v s' | .ok _ => False | .error e => X.xe e s') s3 := by
      refine codeAny_mono (F.run X.A X.stack s3 H2 ⟨[.ref C], ks.zip us⟩ (.ref C :: us) (.ref C :: vs) Q (WE W σ) hr I3.env0 (kb s3 _ us I3.kIn lu) (.cons rfl rv) q2) fun r s' hq => ?_
      match r, hq with
      | .error e, hq => exact passAt tk σ _ H2 s3 e s' I3 hq
      | .ok (.ret u), hq => exact I3.after hq
    exact thn (wpAny_call (PySem.W.method_call (ClX.pin_at I3) run)) fun _ _ y => ClX.unpinE y
  · refine ho.sd A S σ H ρ _ _ R E h fun d S1 A1 v H1 g1 R1 hv q1 => ?_
    cases hv <;> first | exact q1.elim | skip
    rename_i c' C' ec
    obtain ⟨rfl, q1⟩ := q1
    have ec' := (show X.mg _ = _ from ec)
    rw [hC] at ec'
    cases ec'
    refine ⟨rfl, ?_⟩
    refine hk.sd A1 S1 σ H1 ρ _ _ R1 (E.mono g1) q1 fun ds S2 A2 vs H2 g2 R2 hvs q2 => ?_
    exact ⟨by rw [List.length_cons, hvs.length]; exact q2.1, A2, S2, .cls c' :: ds, Q', E' ρ, R2, .cons ((Is.cls hC).mono (Grow.refl)) hvs, q2.1, q2.2, k.mono (g1.trans g2), (x.mono (g1.trans g2)).at_ (E.mono (g1.trans g2))⟩
end
end DL

set_option Elab.async false
set_option linter.all false
set_option maxRecDepth 100000
/-! A def that raises nothing, called whatever error is handled further up. -/
namespace DL
open PySem PySem.Spec PyProof.Rows L2
abbrev cxM (P : Program) (w : World) (K : PySem.W.Frag) (mg : Str → Option Value) (base : Heap) (N : List Str) (qual : Str) (scope : Scope) (f : Addr) (cd : Value) (A : Around) (outer : List Env) (s : Shared) (H : Hp) (E : XK) : Cx :=
  { cxOf CX0 P w K mg base N qual scope f cd A outer s H E with calm := false }
structure FnM (P : Program) (w : World) (K : PySem.W.Frag) (mg : Str → Option Value) (base : Heap) (k : Nat) (f : Addr) (fd : FuncData) (ps : List Str) (sp : Sp) : Prop where
  lenM : ∀ vs H Q, sp vs H Q E0 → vs.length = ps.length
  runM : ∀ (A : Around) (outer : List Env) (s : Shared) (H : Hp) (g : Args) (us : List Value) (vs : List V) (Q : VK), L2H.RoomH k A → Env0 P w K mg base A outer s H → BindsTo s fd g (ps.zip us) → Vals vs us → sp vs H Q E0 →
    codeAny (model P w) A (.call (.ref f) g) (CR CX0 outer P w H s Q E0) s
theorem Inv.cold {P : Program} {w : World} {K : PySem.W.Frag} {mg : Str → Option Value} {base : Heap} {N : List Str} {qual : Str} {scope : Scope} {f : Addr} {cd : Value} {A A' : Around} {outer : List Env} {s s1 : Shared} {H H1 : Hp} {E : XK} {σ : L2.St} (hA : A.frames = A'.frames)
    (I : Inv (cxOf CX0 P w K mg base N qual scope f cd A' outer s H E) [] σ H1 s1) : Inv (cxM P w K mg base N qual scope f cd A outer s H E) [] σ H1 s1 := by
  have ok := I.ok
  refine ⟨⟨ok.mod, ok.kind, ok.glob, ok.blt, ok.above, ok.inj, ok.has, ok.cab, (fun z => Bool.noConfusion (show false = true from z)), ?_, ok.stk, ok.exf, ok.bs, ok.bsz, ok.noex, ok.exfs, ok.funs, ok.frf⟩, I.os, I.bare, I.base, I.loc, I.cell, I.free, I.freeC, I.pin, I.hok, I.len⟩
  have h := ok.frames
  have e : (A'.deeper (envOfC qual scope s.heap.objs.size f cd)).frames = (A.deeper (envOfC qual scope s.heap.objs.size f cd)).frames := by
    unfold Around.deeper Around.frames at *
    simp_all
  exact e.symm.trans h
section
variable {P : Program} {w : World} {K : PySem.W.Frag} {mg : Str → Option Value} {base : Heap} {f : Addr} {fd : FuncData} {ps : List Str} {sp : Sp} {k : Nat}
theorem fnM {x qual : Str} {st : Stmt} {N : List Str} (F : Fun K x qual st f fd) (S : FnScope N ps (defScope st)) (hl : ∀ vs H Q, sp vs H Q E0 → vs.length = ps.length)
    (hb : ∀ (cdv : Value) (A : Around) (outer : List Env) (s : Shared) (H : Hp) (vs : List V) (Q : VK), L2H.RoomH k (A.deeper (envOfC qual (defScope st) s.heap.objs.size f cdv)) → sp vs H Q E0 →
      ∃ t, PSs (cxM P w K mg base N qual (defScope st) f cdv A outer s H E0).nox (defBody st) t ∧ t { nx := fun _ H' => Q .non H', rt := Q } (L2.start N vs) H) : FnM P w K mg base (k + 1) f fd ps sp := by
  obtain ⟨oc, od, kV, doc, pm, an, cdv, ct, osl, rfl, lk, hcd⟩ := F.ex
  refine ⟨hl, fun A outer s H g us vs Q hr e0 bd rv hs => ?_⟩
  have inK := e0.mod.kin.keeps fun b o e => (e0.bs b o e).1
  have nol := e0.mod.nolimit.keeps fun b o e => (e0.bs b o e).1
  refine codeAny_call_function hr.depth (inK _ _ lk) rfl S.co S.gen rfl (PySem.W.codeRec_of inK hcd) (bd _ _ _ _ ?_)
  refine wpAny_newFunctionEnv_cells S.kind (fun y hy => ?_) fun env he s1 ic => ?_
  · have hm : y.1 ∈ ps := (List.of_mem_zip (a := y.1) (b := y.2) hy).1
    exact (S.par y.1 hm).imp id fun q => ⟨q, PySem.W.cellsFrom_some _ _ _ (Or.inl q)⟩
  subst he
  obtain ⟨t, hp, q⟩ := hb cdv A outer s H vs Q (hr.deeper _) hs
  have e1 : Env0 P w K mg base ({ A with handled := none } : Around) outer s H := ⟨e0.frames, e0.mod, e0.bs, e0.bsz, e0.funs, e0.frf, e0.hok, e0.bare⟩
  have J0 := inv_start (CX := CX0) (qual := qual) (f := f) (cd := cdv) (A := { A with handled := none }) (E := E0) S rfl e1 (hl _ _ _ hs) rv ic
  have J : Inv (cxM P w K mg base N qual (defScope st) f cdv A outer s H E0) [] (L2.start N vs) H s1 := Inv.cold (A' := { A with handled := none }) rfl J0
  refine ⟨nol.keeps ic.toInCall.keep, codeAny_func (wpAny_mono (hp.nox.run [] s1 (L2.start N vs) H _ J q) (fun fl s' z => ?_) fun _ _ z => z)⟩
  cases fl with
  | brk => obtain ⟨_, _, _, n⟩ := z; exact (n : False).elim
  | cont => obtain ⟨_, _, _, n⟩ := z; exact (n : False).elim
  | next => obtain ⟨σ', H', I, n⟩ := z; exact ⟨V.non, H', I.os, I.bare, I.base, I.hok, rfl, n⟩
  | ret u => obtain ⟨v, σ', H', I, rr, n⟩ := z; exact ⟨v, H', I.os, I.bare, I.base, I.hok, rr, n⟩
theorem fnDM {x qual : Str} {st : Stmt} {N : List Str} {wf : WF} {ws : WS} (F : Fun K x qual st f fd) (S : FnScope N ps (defScope st))
    (hb : ∀ (cdv : Value) (A : Around) (outer : List Env) (s : Shared) (H : Hp), L2H.RoomH k (A.deeper (envOfC qual (defScope st) s.heap.objs.size f cdv)) →
      ∃ t, PDSs (cxM P w K mg base N qual (defScope st) f cdv A outer s H E0).nox (defBody st) t ws)
    (hw : ∀ ds S Q, ds.length = ps.length → wf ds S Q → ws { nx := fun _ S' => Q .non S', rt := Q } (startD N ds) S) : FnM P w K mg base (k + 1) f fd ps (spW ⟨K, mg⟩ ps.length wf) := by
  refine fnM F S (fun vs H Q h => h.len) fun cdv A outer s H vs Q hr h => ?_
  obtain ⟨t, hp⟩ := hb cdv A outer s H hr
  obtain ⟨A', S', ds, Q', R, l, e, q, kk⟩ := h
  refine ⟨t, hp.pe, hp.sd A' S' (L2.start N vs) H (startD N ds) _ _ R (env_start l) (hw ds S' Q' e q) ⟨fun ρ1 S1 A1 σ1 H1 g1 R1 E1 q1 => kk _ S1 A1 .non H1 g1 R1 .non q1, kk, ?_, ?_⟩⟩
  · intro ρ1 S1 A1 σ1 H1 g1 R1 E1 q1; exact q1.elim
  · intro ρ1 S1 A1 σ1 H1 g1 R1 E1 q1; exact q1.elim
end
section
variable {X : Cx} {k : Nat} {C g : Addr} {fd : FuncData} {ps : List Str} {sp : Sp}
theorem run_atM {pins : List (Addr × Obj)} {σ : L2.St} {H : Hp} {s : Shared} {Q : VK} {us : List Value} {vs : List V} {A : Around} (F : FnM X.prog X.w X.K X.mg X.base k g fd ps sp) (hr : L2H.RoomH k A) (he : Env0 X.prog X.w X.K X.mg X.base A X.stack s H) (hb : Binds X.K fd ps [])
    (I : Inv X pins σ H s) (r : Vals vs us) (h : sp vs H Q E0) : wpAny (model X.prog X.w) A (call (.ref g) us) (EP X pins σ Q) X.xe s := by
  have hl : us.length = ps.length := by rw [← r.length]; exact F.lenM _ _ _ h
  refine wpAny_call (codeAny_mono (F.runM A X.stack s H ⟨us, []⟩ us vs Q hr he (by simpa using hb s us I.kIn (by simpa using hl)) r h) fun r s' hq => ?_)
  match r, hq with
  | .ok (.ret u), hq => exact I.after hq
/-- repr(o), whatever is handled -/
theorem call_reprOwnM (M : OwnM X.K C "__repr__" g) (F : FnM X.prog X.w X.K X.mg X.base k g fd ps sp) (hr : L2H.RoomH (k + 1) X.A) (hb : Binds X.K fd ps []) : CallR X (.builtin "repr") (rOwnS C sp) := by
  intro pins s σ H xs us Q I r h
  obtain ⟨a, dx, fs, rfl, ha, q⟩ := h
  obtain ⟨u, rfl, ru⟩ := vals1 r
  cases (show u = Value.ref a from ru)
  obtain ⟨mA, OM, _⟩ := ins_get I.hok ha
  obtain ⟨od, J, _⟩ := OM.look
  obtain ⟨m, hF⟩ := I.fr
  have r1 : L2H.RoomH k X.A.in1 := ⟨by have := hr.dp; show X.A.depth + 3 * k + 5 < _; omega, by have := hr.un; show X.A.units + 1 + 16 * k + 200 < _; omega⟩
  refine PySem.W.repr_K (by have := r1.un; omega) hF I.ok.mod.kin J M.at_ M.fn ?_
  refine wpAny_mono (run_atM (us := [.ref a]) (vs := [.ref a]) (A := X.A.in1) F r1 I.env0.in1 hb I (.cons rfl .nil) q) (fun w s' z => ?_) fun _ _ e => e
  obtain ⟨v, H', I', rv, ⟨zz, rfl⟩, qq⟩ := z
  obtain ⟨t, rfl⟩ := (show ∃ t, w = Value.str zz t from rv)
  exact ⟨.str zz, H', I', ⟨t, rfl⟩, qq⟩
end
theorem suite_room {X : Cx} {k : Nat} {a : Addr} {pn : List (Addr × Obj)} (r : Room k X.A) : L2H.RoomH k (X.suite a pn).A := ⟨r.dp, r.un⟩
theorem suite_un {X : Cx} {k : Nat} {a : Addr} {pn : List (Addr × Obj)} (r : Room k X.A) : (X.suite a pn).A.units + 200 < cLine := by
  have := r.un
  show X.A.units + 200 < _
  omega
theorem suite_g {X : Cx} {a : Addr} {pn : List (Addr × Obj)} (h : X.A.guards = some []) : (X.suite a pn).A.guards = some [] := h
end DL

set_option Elab.async false
set_option linter.all false
set_option maxRecDepth 100000
/-! Texts: parts of them, comprehensions over their signs. -/
namespace DL
open PySem PySem.Spec PyProof.Rows L2
theorem cut_from (z : Str) (k : Nat) : TL.tl (cutS z (some (k : Int)) none) = (TL.tl z).drop k := by
  show (z.cps.toList.drop (HT.sIx z.length 0 (some (k : Int)))).take (z.length - HT.sIx z.length 0 (some (k : Int))) = _
  rw [HT.sIx_nat]
  have e : z.length = z.cps.toList.length := by simp [Str.length]
  by_cases h : k ≤ z.length
  · rw [Nat.min_eq_left h, List.take_of_length_le (by simp [Str.length])]
  · rw [Nat.min_eq_right (by omega), List.drop_eq_nil_of_le (Nat.le_of_eq e.symm), List.drop_eq_nil_of_le (by show z.cps.toList.length ≤ k; omega)]
    simp
theorem cut_to (z : Str) (k : Nat) : TL.tl (cutS z none (some (k : Int))) = (TL.tl z).take k := by
  show (z.cps.toList.drop 0).take (HT.sIx z.length z.length (some (k : Int)) - 0) = _
  rw [HT.sIx_nat, List.drop_zero, Nat.sub_zero]
  have e : z.length = z.cps.toList.length := by simp [Str.length]
  by_cases h : k ≤ z.length
  · rw [Nat.min_eq_left h]
  · rw [Nat.min_eq_right (by omega), List.take_of_length_le (Nat.le_of_eq e.symm), List.take_of_length_le (by show z.cps.toList.length ≤ k; omega)]
def wSlFrom (we wl : WD) : WD := fun ρ S Q => we ρ S fun x S1 => wl ρ S1 fun l S2 => match x, l with
  | .str z, .int i => z.length ≤ sizeLine ∧ Q (.str (cutS z (some i) none)) S2
  | _, _ => False
def wSlTo (we wl : WD) : WD := fun ρ S Q => we ρ S fun x S1 => wl ρ S1 fun l S2 => match x, l with
  | .str z, .int i => z.length ≤ sizeLine ∧ Q (.str (cutS z none (some i))) S2
  | _, _ => False
section
variable {X : Cx} {e l : Expr} {te tl : TE} {we wl : WD} {p2 pos : Pos}
theorem d_slFrom (he : PD X e te we) (hl : PD X l tl wl) : PD X (.Subscript e (.Slice (some l) none none p2) pos) (tSl rSlS te (tPart tl) tNoPart) (wSlFrom we wl) := by
  refine ⟨pe_slice sl_str he.pe (po_some hl.pe) po_none, fun A S σ H ρ Q Q' R E h k => ?_⟩
  refine he.sd A S σ H ρ _ _ R E h fun d S1 A1 v H1 g1 R1 hv q1 => ?_
  refine hl.sd A1 S1 σ H1 ρ _ _ R1 (E.mono g1) q1 fun d2 S2 A2 v2 H2 g2 R2 hv2 q2 => ?_
  cases hv <;> cases hv2 <;> first | exact q2.elim | skip
  exact ⟨_, rfl, _, rfl, q2.1, k _ S2 A2 _ H2 (g1.trans g2) R2 (.str _) q2.2⟩
theorem d_slTo (he : PD X e te we) (hl : PD X l tl wl) : PD X (.Subscript e (.Slice none (some l) none p2) pos) (tSl rSlS te tNoPart (tPart tl)) (wSlTo we wl) := by
  refine ⟨pe_slice sl_str he.pe po_none (po_some hl.pe), fun A S σ H ρ Q Q' R E h k => ?_⟩
  refine he.sd A S σ H ρ _ _ R E h fun d S1 A1 v H1 g1 R1 hv q1 => ?_
  refine hl.sd A1 S1 σ H1 ρ _ _ R1 (E.mono g1) q1 fun d2 S2 A2 v2 H2 g2 R2 hv2 q2 => ?_
  cases hv <;> cases hv2 <;> first | exact q2.elim | skip
  exact ⟨_, rfl, _, rfl, q2.1, k _ S2 A2 _ H2 (g1.trans g2) R2 (.str _) q2.2⟩
end
/-! ### over a text's signs -/
def signD (z : Str) : List D := (TL.tl z).map fun c => .str ⟨#[c]⟩
def wLcS (wi : WD) (vs : List Nat) (wg : WG) (wt : WB) (we : WD) : WD := fun ρ S Q => wi ρ S fun d S1 => match d with
  | .str z => lcD (signD z) (lcStep S1.length vs wg wt we ρ) (fun S' => Q (.mut S1.length) S') (S1 ++ [[]])
  | _ => False
section
variable {X : Cx} {elt tg iter : Expr} {ifs : List Expr} {scope : Scope} {own : List (Str × Nat)} {pos : Pos} {g : TG} {wg : WG} {tt : TT} {wt : WB} {te : TE} {we : WD}
theorem d_lcS {ti : TE} {wi : WD} (hc : X.calm = true) (hN : X.N.Nodup) (hi : PD X iter ti wi) (ok : BlkOk X.N X.env.scope scope own) (go : GOwn (own.map (·.2)) g)
    (hg : ∀ (s : Shared) (H : Hp) (C : Addr) (cl : List (Str × Addr)) (fp : List Addr), PDG (X.blk s H scope (compEnvC scope cl C X.env) fp) tg g wg) (ht : ∀ (s : Shared) (H : Hp) (C : Addr) (cl : List (Str × Addr)) (fp : List Addr), PDTs (X.blk s H scope (compEnvC scope cl C X.env) fp) ifs tt wt)
    (he : ∀ (s : Shared) (H : Hp) (C : Addr) (cl : List (Str × Addr)) (fp : List Addr), PD (X.blk s H scope (compEnvC scope cl C X.env) fp) elt te we) (hs : ∀ x, foldedSetIterable iter X.env x = pure x := by intro _; rfl) :
    PD X (.ListComp elt [⟨tg, iter, ifs, 0⟩] scope pos) (tLc (L2.iStr ti) g tt te (own.map (·.2))) (wLcS wi (own.map (·.2)) wg wt we) := by
  refine ⟨pe_lc hc hN (pi_str hi.pe) ok (fun s H C cl fp => (hg s H C cl fp).pe) (fun s H C cl fp => (ht s H C cl fp).pe) (fun s H C cl fp => (he s H C cl fp).pe) hs, fun A S σ H ρ Q Q' R E h k => ?_⟩
  have sg : SndG X.G g wg := (hg X.s_0 X.H_0 0 [] []).sd
  have st : SndT X.G tt wt := (ht X.s_0 X.H_0 0 [] []).sd
  have se : SndE X.G te we := (he X.s_0 X.H_0 0 [] []).sd
  refine hi.sd A S σ H ρ _ _ R E h fun d S1 A1 v H1 g1 R1 hv q1 => ?_
  cases hv <;> first | exact q1.elim | skip
  rename_i z
  refine ⟨z, rfl, fun Dl hD => ?_⟩
  have gD := grow_mut (o := .lst []) R1 hD
  have RD := R1.newMut hD (vs := []) (ds := []) .nil
  have hm : (A1 ++ [Dl])[S1.length]? = some Dl := by rw [← R1.len, List.getElem?_append_right (Nat.le_refl _), Nat.sub_self]; rfl
  have len : (signD z).length = z.cps.size := by unfold signD; simp
  refine ⟨fun i mm H2 => mm = z.cps.size - i ∧ i ≤ z.cps.size ∧ ∃ A2 S2, Grow (A1 ++ [Dl]) A2 (upd H1 Dl (.lst [])) H2 ∧ Rep X.G A2 S2 H2 ∧ lcD ((signD z).drop i) (lcStep S1.length (own.map (·.2)) wg wt we ρ) (fun S' => Q' (.mut S1.length) S') S2,
    ⟨z.cps.size, by simp, Nat.zero_le _, A1 ++ [Dl], S1 ++ [[]], .refl, RD, q1⟩, ?_⟩
  rintro i mm H2 ⟨rfl, hle, A2, S2, g2, R2, q2⟩
  by_cases hlt : i < z.cps.size
  · have hc : z.cps[i]? = some z.cps[i] := Array.getElem?_eq_getElem hlt
    have hdrop : (signD z).drop i = .str ⟨#[z.cps[i]]⟩ :: (signD z).drop (i + 1) := by
      rw [List.drop_eq_getElem_cons (by rw [len]; exact hlt)]
      congr 1
      unfold signD
      simp
    rw [hdrop] at q2
    refine .inr ⟨hlt, fun H' => ∃ A2 S2, Grow (A1 ++ [Dl]) A2 (upd H1 Dl (.lst [])) H' ∧ Rep X.G A2 S2 H' ∧ lcD ((signD z).drop (i + 1)) (lcStep S1.length (own.map (·.2)) wg wt we ρ) (fun S' => Q' (.mut S1.length) S') S2, fun H' y => ⟨z.cps.size - (i + 1), by omega, rfl, hlt, y⟩, fun x H' y => ?_⟩
    obtain ⟨rfl, c, e, rfl⟩ := y
    rw [hc] at e
    cases e
    exact lc_turn sg st se go R2 (E.mono (g1.trans (gD.trans g2))) (.str _) (g2.pre _ _ hm) q2 fun S' A' H' g' R' w => ⟨A', S', g2.trans g', R', w⟩
  · have e : (signD z).drop i = [] := List.drop_eq_nil_of_le (by rw [len]; omega)
    rw [e] at q2
    exact .inl ⟨by show z.cps.size ≤ i; omega, k _ S2 A2 _ H2 (g1.trans (gD.trans g2)) R2 (.mut (g2.pre _ _ hm)) q2⟩
end
def oNotIn : OD := fun x y S Q => match x, y with
  | .str a, .str b => ∃ c : Nat, a = ⟨#[c]⟩ ∧ Q (.bl (!decide (c ∈ b.cps.toList))) S
  | _, _ => False
theorem snd_notIn {mg : MG} : SndR mg (fun x y H Q => ∃ (c : Nat) (z : Str), x = .str ⟨#[c]⟩ ∧ y = .str z ∧ Q (.bl (!decide (c ∈ z.cps.toList))) H) oNotIn := by
  intro A S H x y dx dy Q Q' R hx hy q k
  cases dx <;> cases dy <;> first | exact q.elim | skip
  obtain ⟨c, rfl, q⟩ := q
  cases hx
  cases hy
  exact ⟨c, _, rfl, rfl, k _ S A _ H .refl R (.bl _) q⟩
def oInD : OD := fun x y S Q => ∃ d ds, datM S x = some d ∧ datM S y = some (.list ds) ∧ SeqAt.shaped d = true ∧ SeqAt.shaped (.list ds) = true ∧ Q (.bl (ds.any fun z => PyData.eqv z d)) S
theorem snd_inD {mg : MG} {K : PySem.W.Frag} : SndR mg (rInD K) oInD := by
  intro A S H x y dx dy Q Q' R hx hy ⟨d, ds, h1, h2, s1, s2, q⟩ k
  exact ⟨d, ds, hx.dpM R h1, hy.dpM R h2, s1, s2, k _ S A _ H .refl R (.bl _) q⟩
section
variable {X : Cx} {pos : Pos}
def sPar3 (i j l : Nat) (wl : WL) : WS := fun DD ρ S => wl ρ S fun ds S1 => match ds with
  | [d, e, f] => DD.nx (((ρ.set i (some d)).set j (some e)).set l (some f)) S1
  | _ => False
theorem ds_par3 {i j l : Nat} {x y z : Str} {a b c : Expr} {ta : TA} {wa : WL} {px py pz pt : Pos} {kt k2 pt2} (hc : X.calm = true) (hN : X.N.Nodup) (ha : PDA X [a, b, c] ta wa) (hi : X.N[i]? = some x := by rfl) (hj : X.N[j]? = some y := by rfl) (hl : X.N[l]? = some z := by rfl) (hij : i ≠ j := by decide) (hil : i ≠ l := by decide) (hjl : j ≠ l := by decide)
    (hx : X.env.scope.names.lookup x = some .local := by rfl) (hy : X.env.scope.names.lookup y = some .local := by rfl) (hz : X.env.scope.names.lookup z = some .local := by rfl)
    (hw : swappedStores [.Tuple [.Name x px, .Name y py, .Name z pz] kt pt] (.Tuple [a, b, c] k2 pt2) X.env = pure (some [x, y, z]) := by rfl)
    (hs : swapsWithSole [.Tuple [.Name x px, .Name y py, .Name z pz] kt pt] (.Tuple [a, b, c] k2 pt2) pos.line X.env = pure false := by rfl) :
    PDS X (.Assign [.Tuple [.Name x px, .Name y py, .Name z pz] kt pt] (.Tuple [a, b, c] k2 pt2) pos) (tPar3 i j l ta) (sPar3 i j l wa) := by
  refine ⟨ps_par3 hc hN hi hj hl hij hil hjl hx hy hz ha.pe hw hs, fun A S σ H ρ D D' R E h k => ?_⟩
  refine ha.sd A S σ H ρ _ _ R E h fun ds S1 A1 vs H1 g1 R1 hv q1 => ?_
  cases hv with
  | nil => exact q1.elim
  | cons h1 tv =>
    cases tv with
    | nil => exact q1.elim
    | cons h2 tv2 =>
      cases tv2 with
      | nil => exact q1.elim
      | cons h3 tv3 =>
        cases tv3 with
        | cons _ _ => exact q1.elim
        | nil => exact ⟨_, _, _, rfl, k.nx _ S1 A1 _ H1 g1 R1 ((((E.mono g1).set i h1).set j h2).set l h3) q1⟩
end

theorem room65 {k : Nat} {A : Around} (r : Room k A) : A.units + 65 < cLine := by
  have := r.un
  omega
end DL

set_option Elab.async false
set_option linter.all false
set_option maxRecDepth 100000
/-! enumerate over a tuple. -/
namespace DL
open PySem PySem.Spec PyProof.Rows L2
theorem new_enumT (t : Addr) (items : Array Value) :
    Meets (Builtin.«enumerate.__new__» ⟨[.type "enumerate", .ref t], []⟩) (fun _ R s => s.heap.IsTuple t items ∧
      R (.ok (.ret (.ref (s.heap.push { cls := .type "tuple_iterator", data := .fields #[.ref t, .int 0 0] }).objs.size)))
        { s with heap := (s.heap.push { cls := .type "tuple_iterator", data := .fields #[.ref t, .int 0 0] }).push { cls := .type "enumerate", data := .fields #[.none, .bool false, .ref s.heap.objs.size, rawInt 0, .none, .none] } }) :=
  .of_wp fun prog w A R s hh => by
    obtain ⟨hp, g, d, tk, os⟩ := s
    obtain ⟨hl, h⟩ := hh
    have hsub := sub_enumerate
    have hL : Heap.IsTuple (Shared.heap ⟨hp, g, d, tk, os⟩) t items := hl
    obtain ⟨o, ho, hc, n, hd⟩ := hl
    wp_walk using AutoSeq1.wpAny_loadPart' ho, wpAny_pyIter_tuple hL
    apply wpAny_stack_any
    intro st
    apply wpAny_pure
    split
    · next c _ _ _ _ _ =>
      cases (c == Value.type "enumerate") <;>
        (wp_walk using AutoSeq1.wpAny_loadPart' ho, wpAny_pyIter_tuple hL
         exact ⟨_, rfl, h⟩)
    · wp_walk using AutoSeq1.wpAny_loadPart' ho, wpAny_pyIter_tuple hL
      exact ⟨_, rfl, h⟩
theorem drawsT {prog : Program} {w : World} {A : Around} (hh : A.handled = none) {it t : Addr} (hne : t ≠ it) (items : Array Value) :
    Draws prog w A it [it, t] items.size (fun i v => items[i]? = some v) (fun i h => h.IsTupleIter it t i ∧ h.IsTuple t items) where
  live := fun _ _ z => by
    obtain ⟨⟨o, ho, _⟩, _⟩ := z
    exact ⟨o, ho⟩
  frame := fun i h h' z hk => by
    obtain ⟨z1, o, ho, r⟩ := z
    exact ⟨z1.at fun o q => hk it (by simp) o q, o, hk t (by simp) o ho, r⟩
  item := fun i s Q E hi z hQ => by
    obtain ⟨z1, z2⟩ := z
    refine wpAny_nextOf_tuple_item z1 z2 (x := items[i]) (by simp [hi]) fun h' z3 sb => ?_
    exact hQ _ h' s.toks (by simp [hi]) ⟨z3, z2.extBut sb.extBut hne⟩ sb
  done := fun s Q E z hE => by
    obtain ⟨z1, z2⟩ := z
    exact wpAny_nextOf_tuple_end hh z1 z2 (by simp) hE
theorem call_enumT {prog : Program} {w : World} {A : Around} {E : Value → Shared → Prop} {s : Shared} {t : Addr} {items : Array Value} {Q : Value → Shared → Prop} (ht : s.heap.IsTuple t items)
    (h : ∀ h', IsEnum h' (s.heap.objs.size + 1) s.heap.objs.size 0 .none → h'.IsTupleIter s.heap.objs.size t 0 → (∀ b o, s.heap.get? b = some o → h'.get? b = some o) → Q (.ref (s.heap.objs.size + 1)) { s with heap := h' }) :
    wpAny (model prog w) A (call (.type "enumerate") [.ref t]) Q E s := by
  refine callType_new F.called_enumerate (by decide) (F.typeCall_enumerate_1 _) (F.newCall_enumerate_1 _) (fun obj => F.args_object_init_2 obj _) F.entry_enumerate_new (new_enumT t items) ⟨ht, ?_⟩
  let h1 := s.heap.push { cls := .type "tuple_iterator", data := .fields #[.ref t, .int 0 0] }
  have z1 : h1.objs.size = s.heap.objs.size + 1 := Heap.size_push ..
  let en : Obj := { cls := .type "enumerate", data := .fields #[.none, .bool false, .ref s.heap.objs.size, rawInt 0, .none, .none] }
  have e1 : IsEnum (h1.push en) (s.heap.objs.size + 1) s.heap.objs.size 0 .none := by
    have q := Heap.get?_push_size h1 (o := en) rfl
    rw [z1] at q
    exact q
  show _ ∧ _
  have goal : ∀ a, a = s.heap.objs.size + 1 → ((⟨h1.push en, s.gens, s.drawn, s.toks, s.os⟩ : Shared).TypeIs (.ref a) "enumerate") ∧ Q (.ref a) ⟨h1.push en, s.gens, s.drawn, s.toks, s.os⟩ := fun a ea => by
    subst ea
    exact ⟨⟨_, e1, rfl⟩, h _ e1 ⟨_, Heap.get?_push_of_some _ (Heap.get?_push_size _ rfl), rfl, rfl⟩ fun b o q => Heap.get?_push_of_some _ (Heap.get?_push_of_some _ q)⟩
  obtain ⟨g1, g2⟩ := goal _ z1
  obtain ⟨o, q1, q2⟩ := g1
  exact ⟨⟨o, q1, q2⟩, g2⟩
/-- the tuple at a, its items in new pairs with their places -/
def IteT (K : PySem.W.Frag) (a : Addr) : It :=
  ⟨fun i H => ∃ (xs : List V) (x : V), SqT K H a xs ∧ xs[i]? = some x, fun i H v H' => ∃ T x, v = .ref T ∧ H T = none ∧ H' = upd H T (.tup [.int (i : Nat), x]) ∧ ∀ xs, SqT K H a xs → xs[i]? = some x, fun i H => ∃ xs : List V, SqT K H a xs ∧ xs.length ≤ i⟩
theorem drawsEnd {prog : Program} {w : World} {A : Around} (hh : A.handled = none) {it t : Addr} {items : Array Value} {i : Nat} (hi : items.size ≤ i) :
    Draws prog w A it [it, t] i (fun _ _ => False) (fun j h => j = i ∧ h.IsTupleIter it t i ∧ h.IsTuple t items) where
  live := fun _ _ z => by
    obtain ⟨_, ⟨o, ho, _⟩, _⟩ := z
    exact ⟨o, ho⟩
  frame := fun j h h' z hk => by
    obtain ⟨z0, z1, o, ho, r⟩ := z
    exact ⟨z0, z1.at fun o q => hk it (by simp) o q, o, hk t (by simp) o ho, r⟩
  item := fun j s Q E hj z hQ => by
    have := z.1
    omega
  done := fun s Q E z hE => by
    obtain ⟨_, z1, z2⟩ := z
    exact wpAny_nextOf_tuple_end hh z1 z2 (by simp; omega) hE
theorem line2 : ([(V.int 0), V.int 0] : List V).length ≤ sizeLine := by decide
theorem turn_enumT {P : Program} {w : World} {K : PySem.W.Frag} {elts : List Expr} {kk : Nat} {tpos : Pos} (a e it : Addr) (hai : a ≠ it) (hea : e ≠ a) :
    Turn P w K (.Tuple elts kk tpos) (IteT K a) [e, it] e (fun i h => (∃ old, IsEnum h e it ((i : Nat) : Int) old) ∧ h.IsTupleIter it a i ∧ e ≠ it) where
  mem := by simp
  obj := fun i h z b hb => by
    obtain ⟨⟨old, he⟩, ⟨o, ho, hc, hd⟩, _⟩ := z
    rcases (show b = e ∨ b = it by simpa using hb) with rfl | rfl
    · exact ⟨_, he, fun v q => nomatch q⟩
    · exact ⟨o, ho, fun v q => by rw [hd] at q; cases q⟩
  keep := fun i h h' z k => by
    obtain ⟨⟨old, he⟩, hi, hne⟩ := z
    exact ⟨⟨old, k e (by simp) _ he⟩, hi.at fun o q => k it (by simp) o q, hne⟩
  item := by
    intro X hP hw hK hc i pins s σ H E I hf z hg
    subst hP hw hK
    obtain ⟨⟨old, he⟩, hit, hne⟩ := z
    obtain ⟨xs, x, hq, hx⟩ := hg
    obtain ⟨its, rv, p, hz⟩ := I.tuple hq
    obtain ⟨u, hu, ru⟩ := rv.get hx
    have li : i < its.toArray.size := by simpa using (List.getElem?_eq_some_iff.mp hu).1
    have hel : e < s.heap.objs.size := Heap.lt_size he
    have hil : it < s.heap.objs.size := by
      obtain ⟨_, q, _⟩ := hit
      exact Heap.lt_size q
    have hn : X.A.in1.handled = none := I.ok.hd hc
    refine wpAny_pyNext_enum_itemD (drawsT hn hai its.toArray) he ⟨hit, p⟩ li hne (by simp [hne, hea]) fun x2 h' tk hP2 ho hst hT hsz hk => ?_
    obtain ⟨hit', p'⟩ := hst
    have ex : x2 = u := by
      have q : its.toArray[i]? = some u := by simpa using hu
      rw [q] at hP2
      exact (Option.some.inj hP2).symm
    subst ex
    refine ⟨_, rfl, wpAny_letOwnedTupleGo_enum (s := { s with heap := h', toks := tk + 1 }) ho fun h2 he' sb => ?_⟩
    have hT2 : h2.get? s.heap.objs.size = some { cls := .type "tuple", data := .seq #[.int i tk, x2] } := (sb.2 _ (Nat.ne_of_gt hel)).trans hT
    have new : ObjOk X.prog X.w (upd H s.heap.objs.size (.tup [.int (i : Nat), x])) h2 s.heap.objs.size (.tup [.int (i : Nat), x]) :=
      ⟨line2, [.int i tk, x2], .cons ⟨_, rfl⟩ (.cons ru .nil), _, hT2, rfl, _, rfl⟩
    have I1 : Inv X pins σ (upd H s.heap.objs.size (.tup [.int (i : Nat), x])) { s with heap := h2, toks := tk + 1 } := by
      refine I.turnedNew (ch := [e, it]) (fun b ob hb q => ?_) hf (Nat.le_refl _) new
      have b1 : b ≠ e := fun y => hb (by simp [y])
      have b2 : b ≠ it := fun y => hb (by simp [y])
      exact (sb.2 b b1).trans (hk b ob b1 b2 q)
    refine ⟨.ref s.heap.objs.size, _, I1, rfl, ⟨_, x, rfl, I.hok.fresh (Nat.le_refl _), rfl, fun ys hy => by rw [I.tuple_inj hy hq]; exact hx⟩, ⟨⟨x2, ?_⟩, hit'.at fun o q => (sb.2 it (Ne.symm hne)).trans q, hne⟩, fun b hb => ?_⟩
    · have e1 : ((i + 1 : Nat) : Int) = (i : Int) + 1 := by omega
      rw [e1]
      exact he'
    · have hb' : b < s.heap.objs.size := by
        rcases (show b = e ∨ b = it by simpa using hb) with rfl | rfl
        · exact hel
        · exact hil
      rw [upd_ne (Nat.ne_of_lt hb')]
      exact (hf b hb).1
  done := by
    intro X hP hw hK hc i pins s σ H E I hf z hg
    subst hP hw hK
    obtain ⟨⟨old, he⟩, hit, hne⟩ := z
    obtain ⟨xs, hq, hx⟩ := hg
    obtain ⟨its, rv, p, hz⟩ := I.tuple hq
    obtain ⟨f0, f1, f2, f3, f4, f5⟩ := hf it (by simp)
    have hl := rv.length
    have hn : X.A.in1.handled = none := I.ok.hd hc
    refine wpAny_pyNext_enum_endD (drawsEnd hn (items := its.toArray) (i := i) (by simp; omega)) he ⟨rfl, hit, p⟩ fun h' eb => ?_
    exact ⟨rfl, I.turned (t' := s.toks) (fun b o hb q => eb b o hb q) f0 f1 f3 f4 f5⟩
  self := fun A i s Q E z h => by
    obtain ⟨⟨_, he⟩, _⟩ := z
    exact wpAny_pyIter_enum he h
def iEnumT (K : PySem.W.Frag) (ta : TA) : TI := fun σ H R => ta σ H fun vs H1 => ∃ a xs, vs = [.ref a] ∧ SqT K H1 a xs ∧ R (IteT K a) H1
theorem pi_enumT {X : Cx} {e : Expr} {ta : TA} {p pos tpos : Pos} {elts : List Expr} {kk : Nat} (hg : Gl X "enumerate") (hm : X.mg "enumerate" = none) (ha : PA X [e] ta) (hs : starEach [e] X.env = [(false, eval e X.env)] := by rfl) :
    PI X (.Tuple elts kk tpos) (.Call (.Name "enumerate" p) [e] [] pos) (iEnumT X.K ta) := by
  refine ⟨fun pins s σ H R I h => ?_⟩
  refine Call_ (ld_blt I hg hm boot_enumerate (PyProof.Rows.callWith_type1 (thn (ha.run pos pins s σ H _ I h) fun us s1 z => ?_) hs rfl))
  obtain ⟨vs, H1, I1, r1, a, xs, rfl, hq, q⟩ := z
  obtain ⟨u, rfl, ru⟩ := vals1 r1
  cases (show u = Value.ref a from ru)
  obtain ⟨its, rv, pt, hz⟩ := I1.tuple hq
  have la : a < s1.heap.objs.size := by
    obtain ⟨o, ho, _⟩ := pt
    exact Heap.lt_size ho
  refine call_enumT pt fun h' he hit hk => ?_
  refine wpAny_pyIter_enum he ?_
  have I2 : Inv X pins σ H1 { s1 with heap := h' } := I1.kept (t' := s1.toks) hk
  refine ⟨s1.heap.objs.size + 1, [s1.heap.objs.size + 1, s1.heap.objs.size], _, _, H1, rfl, I2, turn_enumT a (s1.heap.objs.size + 1) s1.heap.objs.size (Nat.ne_of_lt la) (Nat.ne_of_gt (Nat.lt_succ_of_lt la)), ⟨⟨.none, he⟩, hit, Nat.succ_ne_self _⟩, fun b hb => ?_, q⟩
  have hle : s1.heap.objs.size ≤ b := by
    rcases (show b = s1.heap.objs.size + 1 ∨ b = s1.heap.objs.size by simpa using hb) with rfl | rfl
    · exact Nat.le_succ _
    · exact Nat.le_refl _
  exact I1.fpOk hle (I1.hok.fresh hle)
/-! ### by data -/
def enumD : Nat → List D → List D
  | _, [] => []
  | k, d :: ds => .tup [.int k, d] :: enumD (k + 1) ds
theorem enumD_len : ∀ (ds : List D) (k : Nat), (enumD k ds).length = ds.length
  | [], _ => rfl
  | _ :: ds, k => congrArg Nat.succ (enumD_len ds (k + 1))
theorem enumD_get : ∀ (ds : List D) (k i : Nat) (d : D), ds[i]? = some d → (enumD k ds)[i]? = some (.tup [.int ((k + i : Nat) : Int), d])
  | [], _, _, _, h => by simp at h
  | e :: ds, k, 0, d, h => by
    simp at h
    subst h
    rfl
  | e :: ds, k, i + 1, d, h => by
    have q := enumD_get ds (k + 1) i d (by simpa using h)
    have z : k + 1 + i = k + (i + 1) := by omega
    rw [z] at q
    exact q
def sForET (wi : WL) (wg : WG) (wb : WS) : WS := fun DD ρ S => wi ρ S fun ds S1 => match ds with
  | [.tup xs] => forD (enumD 0 xs) (forStep wg wb DD) DD.nx ρ S1
  | _ => False
theorem ds_forET {X : Cx} {pos pos2 p tpos : Pos} {a : Expr} {elts : List Expr} {kk : Nat} {body : List Stmt} {ta : TA} {wa : WL} {g : TG} {wg : WG} {tb : TS} {wb : WS} (hp : PassesOwn (model X.prog X.w) X.A X.env X.xe) (hc : X.calm = true) (hm : X.mg "enumerate" = none) (ha : PDA X [a] ta wa) (hg : PDG X (.Tuple elts kk tpos) g wg) (hb : PDSs X body tb wb)
    (hgl : Gl X "enumerate" := by rfl) (hst : starEach [a] X.env = [(false, eval a X.env)] := by rfl) (hs : ∀ x, foldedSetIterable (.Call (.Name "enumerate" p) [a] [] pos2) X.env x = pure x := by intro _; rfl) :
    PDS X (.For (.Tuple elts kk tpos) (.Call (.Name "enumerate" p) [a] [] pos2) body [] pos) (tFor (iEnumT X.K ta) g tb) (sForET wa wg wb) := by
  refine ⟨ps_for hp hc (pi_enumT hgl hm ha.pe hst) hg.pe hb.pe hs, fun A S σ H ρ D D' R E h k => ?_⟩
  refine ha.sd A S σ H ρ _ _ R E h fun ds S1 A1 vs H1 g1 R1 hv q1 => ?_
  match ds, hv, q1 with
  | [.tup xs], hv, q1 =>
    obtain ⟨v, rfl, hw⟩ := hv.one
    cases hw with
    | @tup a' us _ na r l =>
      have sq : ∀ {A2 H2}, Grow A1 A2 H1 H2 → SqT X.K H2 a' us := fun gg => .inl (gg.rd na r).2
      have len : us.length = xs.length := l.length
      refine ⟨a', us, rfl, sq .refl, fun i m σ2 H2 => m = us.length - i ∧ i ≤ us.length ∧ ∃ A2 S2 ρ2, Grow A1 A2 H1 H2 ∧ Rep X.G A2 S2 H2 ∧ EnvD X.G A2 H2 σ2 ρ2 ∧ forD ((enumD 0 xs).drop i) (forStep wg wb D') D'.nx ρ2 S2,
        ⟨us.length, by simp, Nat.zero_le _, A1, S1, ρ, .refl, R1, E.mono g1, q1⟩, ?_⟩
      rintro i m σ2 H2 ⟨rfl, hle, A2, S2, ρ2, g2, R2, E2, q2⟩
      by_cases hlt : i < us.length
      · obtain ⟨d, hd, hxd⟩ := l.getV (List.getElem?_eq_getElem hlt)
        have ge := enumD_get xs 0 i d hd
        rw [Nat.zero_add] at ge
        have hdrop : (enumD 0 xs).drop i = .tup [.int (i : Nat), d] :: (enumD 0 xs).drop (i + 1) := by
          obtain ⟨hl, e⟩ := List.getElem?_eq_some_iff.mp ge
          rw [List.drop_eq_getElem_cons hl, e]
        rw [hdrop] at q2
        refine .inr ⟨⟨us, us[i], sq g2, by simp [hlt]⟩, fun σ3 H3 => ∃ A2 S2 ρ2, Grow A1 A2 H1 H3 ∧ Rep X.G A2 S2 H3 ∧ EnvD X.G A2 H3 σ3 ρ2 ∧ forD ((enumD 0 xs).drop (i + 1)) (forStep wg wb D') D'.nx ρ2 S2, fun σ3 H3 z => ⟨us.length - (i + 1), by omega, rfl, hlt, z⟩, fun x H3 y => ?_⟩
        obtain ⟨T, y0, rfl, hT, rfl, hy⟩ := y
        have ey := hy us (sq g2)
        have e0 : y0 = us[i] := by
          rw [List.getElem?_eq_getElem hlt] at ey
          exact (Option.some.inj ey).symm
        subst e0
        have gT := grow_new (o := .tup [.int (i : Nat), us[i]]) R2 hT
        have isT : Is X.G A2 (upd H2 T (.tup [.int (i : Nat), us[i]])) (.ref T) (.tup [.int (i : Nat), d]) := .tup (R2.fresh hT) (.inl upd_same) (.cons (.int _) (.cons (hxd.mono (g2.trans gT)) .nil))
        refine hg.sd A2 S2 σ2 _ ρ2 _ _ _ _ (R2.new hT) (E2.mono gT) isT q2 fun ρ3 S3 A3 σ3 H3 g3 R3 E3 q3 => ?_
        have nx : EndN X.G A3 H3 (fun σ3 H3 => ∃ A2 S2 ρ2, Grow A1 A2 H1 H3 ∧ Rep X.G A2 S2 H3 ∧ EnvD X.G A2 H3 σ3 ρ2 ∧ forD ((enumD 0 xs).drop (i + 1)) (forStep wg wb D') D'.nx ρ2 S2) (fun ρ' S' => forD ((enumD 0 xs).drop (i + 1)) (forStep wg wb D') D'.nx ρ' S') :=
          fun ρ' S' A' σ' H' g' R' E' z => ⟨A', S', ρ', ((g2.trans gT).trans g3).trans g', R', E', z⟩
        have kk2 := k.mono (g1.trans ((g2.trans gT).trans g3))
        exact hb.sd A3 S3 σ3 H3 ρ3 _ _ R3 E3 q3 ⟨nx, kk2.rt, kk2.nx, nx⟩
      · have e : (enumD 0 xs).drop i = [] := List.drop_eq_nil_of_le (by rw [enumD_len]; omega)
        rw [e] at q2
        exact .inl ⟨⟨us, sq g2, by omega⟩, k.nx ρ2 S2 A2 σ2 H2 (g1.trans g2) R2 E2 q2⟩
end DL

set_option Elab.async false
set_option linter.all false
set_option maxRecDepth 100000
/-! Comprehensions over enumerate of a list, over zip of two lists. -/
namespace DL
open PySem PySem.Spec PyProof.Rows L2
/-- what a list holds, as long as it stays: its address, its items -/
structure StayL (mg : MG) (a : Addr) (ds : List D) (ok : MS → Prop) (A : List Addr) (H : Hp) : Prop where
  now : ∀ A2 S2 H2, Grow A A2 H H2 → Rep mg A2 S2 H2 → ok S2 → ∃ vs, SqL mg.K H2 a vs ∧ IsL mg A2 H2 vs ds
/-- a list by data: what must stay of it -/
def stayD (S : MS) : D → Option (List D × (MS → Prop))
  | .lst ds => some (ds, fun _ => True)
  | .scr ds => some (ds, fun _ => True)
  | .mut m => match S[m]? with
    | some ds => some (ds, fun S2 => S2[m]? = some ds)
    | none => none
  | _ => none
theorem Is.stay {mg : MG} {A : List Addr} {S : MS} {H : Hp} {v : V} {d : D} {ds : List D} {ok : MS → Prop} (R : Rep mg A S H) (h : Is mg A H v d) (e : stayD S d = some (ds, ok)) : ∃ a, v = .ref a ∧ StayL mg a ds ok A H ∧ ok S := by
  cases h with
  | @lst a vs es n r l => cases e; exact ⟨a, rfl, ⟨fun A2 S2 H2 g _ _ => ⟨vs, .of (g.keep _ _ n r).1, l.mono g⟩⟩, True.intro⟩
  | @scr a vs es n r l => cases e; exact ⟨a, rfl, ⟨fun A2 S2 H2 g _ _ => ⟨vs, .inl (g.rd n r).2, l.mono g⟩⟩, True.intro⟩
  | @scrK a vs es r l => cases e; exact ⟨a, rfl, ⟨fun A2 S2 H2 g _ _ => ⟨vs, r H2, l.mono g⟩⟩, True.intro⟩
  | @«mut» a m ea =>
    unfold stayD at e
    dsimp only at e
    split at e
    · rename_i es he
      cases e
      refine ⟨a, rfl, ⟨fun A2 S2 H2 g R2 ok => ?_⟩, he⟩
      obtain ⟨vs, h1, l⟩ := R2.at_ m a _ (g.pre _ _ ea) ok
      exact ⟨vs, .of h1, l⟩
    · cases e
  | _ => cases e
/-- turn by turn, as long as what is walked stays -/
def lcO (ok : MS → Prop) : List D → (D → MS → (MS → Prop) → Prop) → (MS → Prop) → MS → Prop
  | [], _, fin, S => ok S ∧ fin S
  | d :: ds, step, fin, S => ok S ∧ step d S fun S' => lcO ok ds step fin S'
theorem lcO.ok {ok : MS → Prop} {ds : List D} {step : D → MS → (MS → Prop) → Prop} {fin : MS → Prop} {S : MS} (h : lcO ok ds step fin S) : ok S := by
  cases ds with
  | nil => exact h.1
  | cons _ _ => exact h.1
def wLcE (wi : WL) (vs : List Nat) (wg : WG) (wt : WB) (we : WD) : WD := fun ρ S Q => wi ρ S fun ds S1 => match ds with
  | [x] => ∃ xs ok, stayD S1 x = some (xs, ok) ∧ lcO ok (enumD 0 xs) (lcStep S1.length vs wg wt we ρ) (fun S' => Q (.mut S1.length) S') (S1 ++ [[]])
  | _ => False
section
variable {X : Cx} {elt : Expr} {elts : List Expr} {kk : Nat} {ifs : List Expr} {scope : Scope} {own : List (Str × Nat)} {pos pos2 p tpos : Pos} {g : TG} {wg : WG} {tt : TT} {wt : WB} {te : TE} {we : WD}
theorem d_lcE {a : Expr} {ta : TA} {wa : WL} (hc : X.calm = true) (hN : X.N.Nodup) (hm : X.mg "enumerate" = none) (ha : PDA X [a] ta wa) (ok : BlkOk X.N X.env.scope scope own) (go : GOwn (own.map (·.2)) g)
    (hg : ∀ (s : Shared) (H : Hp) (C : Addr) (cl : List (Str × Addr)) (fp : List Addr), PDG (X.blk s H scope (compEnvC scope cl C X.env) fp) (.Tuple elts kk tpos) g wg) (ht : ∀ (s : Shared) (H : Hp) (C : Addr) (cl : List (Str × Addr)) (fp : List Addr), PDTs (X.blk s H scope (compEnvC scope cl C X.env) fp) ifs tt wt)
    (he : ∀ (s : Shared) (H : Hp) (C : Addr) (cl : List (Str × Addr)) (fp : List Addr), PD (X.blk s H scope (compEnvC scope cl C X.env) fp) elt te we) (hgl : Gl X "enumerate" := by rfl) (hst : starEach [a] X.env = [(false, eval a X.env)] := by rfl) (hs : ∀ x, foldedSetIterable (.Call (.Name "enumerate" p) [a] [] pos2) X.env x = pure x := by intro _; rfl) :
    PD X (.ListComp elt [⟨.Tuple elts kk tpos, .Call (.Name "enumerate" p) [a] [] pos2, ifs, 0⟩] scope pos) (tLc (iEnum X.K ta) g tt te (own.map (·.2))) (wLcE wa (own.map (·.2)) wg wt we) := by
  refine ⟨pe_lc hc hN (pi_enum hgl hm ha.pe hst) ok (fun s H C cl fp => (hg s H C cl fp).pe) (fun s H C cl fp => (ht s H C cl fp).pe) (fun s H C cl fp => (he s H C cl fp).pe) hs, fun A S σ H ρ Q Q' R E h k => ?_⟩
  have wsg : SndG X.G g wg := (hg X.s_0 X.H_0 0 [] []).sd
  have wst : SndT X.G tt wt := (ht X.s_0 X.H_0 0 [] []).sd
  have wse : SndE X.G te we := (he X.s_0 X.H_0 0 [] []).sd
  refine ha.sd A S σ H ρ _ _ R E h fun ds S1 A1 vs H1 g1 R1 hv q1 => ?_
  match ds, hv, q1 with
  | [x], hv, ⟨xs, okS, es, q1⟩ =>
    obtain ⟨v, rfl, hx⟩ := hv.one
    obtain ⟨ad, rfl, st, ok1⟩ := hx.stay R1 es
    obtain ⟨us0, sq0, l0⟩ := st.now A1 S1 H1 .refl R1 ok1
    refine ⟨ad, us0, rfl, sq0, fun Dl hD => ?_⟩
    have gD := grow_mut (o := .lst []) R1 hD
    have RD := R1.newMut hD (vs := []) (ds := []) .nil
    have hmD : (A1 ++ [Dl])[S1.length]? = some Dl := by rw [← R1.len, List.getElem?_append_right (Nat.le_refl _), Nat.sub_self]; rfl
    refine ⟨fun i mm H2 => mm = xs.length - i ∧ i ≤ xs.length ∧ ∃ A2 S2, Grow (A1 ++ [Dl]) A2 (upd H1 Dl (.lst [])) H2 ∧ Rep X.G A2 S2 H2 ∧ lcO okS ((enumD 0 xs).drop i) (lcStep S1.length (own.map (·.2)) wg wt we ρ) (fun S' => Q' (.mut S1.length) S') S2,
      ⟨xs.length, by simp, Nat.zero_le _, A1 ++ [Dl], S1 ++ [[]], .refl, RD, q1⟩, ?_⟩
    rintro i mm H2 ⟨rfl, hle, A2, S2, g2, R2, q2⟩
    obtain ⟨us, sq, l⟩ := st.now A2 S2 H2 (gD.trans g2) R2 q2.ok
    have len : us.length = xs.length := l.length
    by_cases hlt : i < us.length
    · obtain ⟨d, hd, hxd⟩ := l.getV (List.getElem?_eq_getElem hlt)
      have ge := enumD_get xs 0 i d hd
      rw [Nat.zero_add] at ge
      have hdrop : (enumD 0 xs).drop i = .tup [.int (i : Nat), d] :: (enumD 0 xs).drop (i + 1) := by
        obtain ⟨hl, e⟩ := List.getElem?_eq_some_iff.mp ge
        rw [List.drop_eq_getElem_cons hl, e]
      rw [hdrop] at q2
      refine .inr ⟨⟨us, us[i], sq, by simp [hlt]⟩, fun H3 => ∃ A2 S2, Grow (A1 ++ [Dl]) A2 (upd H1 Dl (.lst [])) H3 ∧ Rep X.G A2 S2 H3 ∧ lcO okS ((enumD 0 xs).drop (i + 1)) (lcStep S1.length (own.map (·.2)) wg wt we ρ) (fun S' => Q' (.mut S1.length) S') S2, fun H3 z => ⟨xs.length - (i + 1), by omega, rfl, by omega, z⟩, fun y H3 hy => ?_⟩
      obtain ⟨T, y0, rfl, hT, rfl, hy⟩ := hy
      have ey := hy us sq
      have e0 : y0 = us[i] := by
        rw [List.getElem?_eq_getElem hlt] at ey
        exact (Option.some.inj ey).symm
      subst e0
      have gT := grow_new (o := .tup [.int (i : Nat), us[i]]) R2 hT
      have isT : Is X.G A2 (upd H2 T (.tup [.int (i : Nat), us[i]])) (.ref T) (.tup [.int (i : Nat), d]) := .tup (R2.fresh hT) (.inl upd_same) (.cons (.int _) (.cons (hxd.mono gT) .nil))
      exact lc_turn wsg wst wse go (R2.new hT) (E.mono (g1.trans (gD.trans (g2.trans gT)))) isT (g2.pre _ _ hmD) q2.2 fun S' A' H' g' R' z => ⟨A', S', (g2.trans gT).trans g', R', z⟩
    · have e : (enumD 0 xs).drop i = [] := List.drop_eq_nil_of_le (by rw [enumD_len]; omega)
      rw [e] at q2
      exact .inl ⟨⟨us, sq, by omega⟩, k _ S2 A2 _ H2 (g1.trans (gD.trans g2)) R2 (.mut (g2.pre _ _ hmD)) q2.2⟩
def zipD (xs ys : List D) : List D := List.zipWith (fun a b => D.tup [a, b]) xs ys
theorem zipD_get {xs ys : List D} {i : Nat} {a b : D} (h1 : xs[i]? = some a) (h2 : ys[i]? = some b) : (zipD xs ys)[i]? = some (.tup [a, b]) := by
  unfold zipD
  rw [List.getElem?_zipWith, h1, h2]
def wLcZ (wi : WL) (vs : List Nat) (wg : WG) (wt : WB) (we : WD) : WD := fun ρ S Q => wi ρ S fun ds S1 => match ds with
  | [x, y] => ∃ xs ok1 ys ok2, stayD S1 x = some (xs, ok1) ∧ stayD S1 y = some (ys, ok2) ∧ lcO (fun S2 => ok1 S2 ∧ ok2 S2) (zipD xs ys) (lcStep S1.length vs wg wt we ρ) (fun S' => Q (.mut S1.length) S') (S1 ++ [[]])
  | _ => False
theorem d_lcZ {a a2 : Expr} {ta : TA} {wa : WL} (hc : X.calm = true) (hN : X.N.Nodup) (hm : X.mg "zip" = none) (ha : PDA X [a, a2] ta wa) (ok : BlkOk X.N X.env.scope scope own) (go : GOwn (own.map (·.2)) g)
    (hg : ∀ (s : Shared) (H : Hp) (C : Addr) (cl : List (Str × Addr)) (fp : List Addr), PDG (X.blk s H scope (compEnvC scope cl C X.env) fp) (.Tuple elts kk tpos) g wg) (ht : ∀ (s : Shared) (H : Hp) (C : Addr) (cl : List (Str × Addr)) (fp : List Addr), PDTs (X.blk s H scope (compEnvC scope cl C X.env) fp) ifs tt wt)
    (he : ∀ (s : Shared) (H : Hp) (C : Addr) (cl : List (Str × Addr)) (fp : List Addr), PD (X.blk s H scope (compEnvC scope cl C X.env) fp) elt te we) (hgl : Gl X "zip" := by rfl) (hst : starEach [a, a2] X.env = (false, eval a X.env) :: starEach [a2] X.env := by rfl) (hpl : (backTo pos2 (starEach [a2] X.env)).any (·.1) = false := by rfl) (hs : ∀ x, foldedSetIterable (.Call (.Name "zip" p) [a, a2] [] pos2) X.env x = pure x := by intro _; rfl) :
    PD X (.ListComp elt [⟨.Tuple elts kk tpos, .Call (.Name "zip" p) [a, a2] [] pos2, ifs, 0⟩] scope pos) (tLc (iZip X.K ta) g tt te (own.map (·.2))) (wLcZ wa (own.map (·.2)) wg wt we) := by
  refine ⟨pe_lc hc hN (pi_zip hgl hm ha.pe hst hpl) ok (fun s H C cl fp => (hg s H C cl fp).pe) (fun s H C cl fp => (ht s H C cl fp).pe) (fun s H C cl fp => (he s H C cl fp).pe) hs, fun A S σ H ρ Q Q' R E h k => ?_⟩
  have wsg : SndG X.G g wg := (hg X.s_0 X.H_0 0 [] []).sd
  have wst : SndT X.G tt wt := (ht X.s_0 X.H_0 0 [] []).sd
  have wse : SndE X.G te we := (he X.s_0 X.H_0 0 [] []).sd
  refine ha.sd A S σ H ρ _ _ R E h fun ds S1 A1 vs H1 g1 R1 hv q1 => ?_
  match ds, hv, q1 with
  | [x, y], hv, ⟨xs, okX, ys, okY, ex, ey, q1⟩ =>
    obtain ⟨v, w, rfl, hx, hy⟩ := hv.two
    obtain ⟨ad, rfl, st, ok1⟩ := hx.stay R1 ex
    obtain ⟨bd, rfl, st2, ok2⟩ := hy.stay R1 ey
    obtain ⟨us0, sq0, l0⟩ := st.now A1 S1 H1 .refl R1 ok1
    obtain ⟨ws0, sr0, m0⟩ := st2.now A1 S1 H1 .refl R1 ok2
    refine ⟨ad, bd, us0, ws0, rfl, sq0, sr0, fun Dl hD => ?_⟩
    have gD := grow_mut (o := .lst []) R1 hD
    have RD := R1.newMut hD (vs := []) (ds := []) .nil
    have hmD : (A1 ++ [Dl])[S1.length]? = some Dl := by rw [← R1.len, List.getElem?_append_right (Nat.le_refl _), Nat.sub_self]; rfl
    have zl : (zipD xs ys).length = min xs.length ys.length := by unfold zipD; simp
    refine ⟨fun i mm H2 => mm = (zipD xs ys).length - i ∧ i ≤ (zipD xs ys).length ∧ ∃ A2 S2, Grow (A1 ++ [Dl]) A2 (upd H1 Dl (.lst [])) H2 ∧ Rep X.G A2 S2 H2 ∧ lcO (fun S2 => okX S2 ∧ okY S2) ((zipD xs ys).drop i) (lcStep S1.length (own.map (·.2)) wg wt we ρ) (fun S' => Q' (.mut S1.length) S') S2,
      ⟨(zipD xs ys).length, by simp, Nat.zero_le _, A1 ++ [Dl], S1 ++ [[]], .refl, RD, q1⟩, ?_⟩
    rintro i mm H2 ⟨rfl, hle, A2, S2, g2, R2, q2⟩
    obtain ⟨us, sq, l⟩ := st.now A2 S2 H2 (gD.trans g2) R2 q2.ok.1
    obtain ⟨ws, sr, m⟩ := st2.now A2 S2 H2 (gD.trans g2) R2 q2.ok.2
    have len : us.length = xs.length := l.length
    have len2 : ws.length = ys.length := m.length
    by_cases hlt : i < us.length ∧ i < ws.length
    · obtain ⟨d, hd, hxd⟩ := l.getV (List.getElem?_eq_getElem hlt.1)
      obtain ⟨d2, hd2, hxd2⟩ := m.getV (List.getElem?_eq_getElem hlt.2)
      have hdrop : (zipD xs ys).drop i = .tup [d, d2] :: (zipD xs ys).drop (i + 1) := by
        obtain ⟨hl, e⟩ := List.getElem?_eq_some_iff.mp (zipD_get hd hd2)
        rw [List.drop_eq_getElem_cons hl, e]
      rw [hdrop] at q2
      refine .inr ⟨⟨us, ws, us[i], ws[i], sq, sr, by simp [hlt.1], by simp [hlt.2]⟩, fun H3 => ∃ A2 S2, Grow (A1 ++ [Dl]) A2 (upd H1 Dl (.lst [])) H3 ∧ Rep X.G A2 S2 H3 ∧ lcO (fun S2 => okX S2 ∧ okY S2) ((zipD xs ys).drop (i + 1)) (lcStep S1.length (own.map (·.2)) wg wt we ρ) (fun S' => Q' (.mut S1.length) S') S2, fun H3 z => ⟨(zipD xs ys).length - (i + 1), by omega, rfl, by omega, z⟩, fun y H3 hy => ?_⟩
      obtain ⟨T, y0, y1, rfl, hT, rfl, hy0, hy1⟩ := hy
      have e0 : y0 = us[i] := by
        have q := hy0 us sq
        rw [List.getElem?_eq_getElem hlt.1] at q
        exact (Option.some.inj q).symm
      have e1 : y1 = ws[i] := by
        have q := hy1 ws sr
        rw [List.getElem?_eq_getElem hlt.2] at q
        exact (Option.some.inj q).symm
      subst e0 e1
      have gT := grow_new (o := .tup [us[i], ws[i]]) R2 hT
      have isT : Is X.G A2 (upd H2 T (.tup [us[i], ws[i]])) (.ref T) (.tup [d, d2]) := .tup (R2.fresh hT) (.inl upd_same) (.cons (hxd.mono gT) (.cons (hxd2.mono gT) .nil))
      exact lc_turn wsg wst wse go (R2.new hT) (E.mono (g1.trans (gD.trans (g2.trans gT)))) isT (g2.pre _ _ hmD) q2.2 fun S' A' H' g' R' z => ⟨A', S', (g2.trans gT).trans g', R', z⟩
    · have e : (zipD xs ys).drop i = [] := List.drop_eq_nil_of_le (by rw [zl]; omega)
      rw [e] at q2
      exact .inl ⟨⟨us, ws, sq, sr, by omega⟩, k _ S2 A2 _ H2 (g1.trans (gD.trans g2)) R2 (.mut (g2.pre _ _ hmD)) q2.2⟩
end
end DL

set_option Elab.async false
set_option linter.all false
set_option maxRecDepth 100000
/-! A display with *xs in it; lcm. -/
namespace DL
open PySem PySem.Spec PyProof.Rows L2
/-- the items of a tuple or a list, now -/
def seqD (S : MS) : D → Option (List D)
  | .lst ds => some ds
  | .scr ds => some ds
  | .tup ds => some ds
  | .mut m => S[m]?
  | _ => none
theorem Is.seq {mg : MG} {A : List Addr} {S : MS} {H : Hp} {v : V} {d : D} {ds : List D} (R : Rep mg A S H) (h : Is mg A H v d) (e : seqD S d = some ds) : ∃ a vs, v = .ref a ∧ (SqT mg.K H a vs ∨ SqL mg.K H a vs) ∧ IsL mg A H vs ds := by
  cases h with
  | @lst a vs es n r l => cases e; exact ⟨a, vs, rfl, .inr (.of r), l⟩
  | @scr a vs es n r l => cases e; exact ⟨a, vs, rfl, .inr (.inl r), l⟩
  | @scrK a vs es r l => cases e; exact ⟨a, vs, rfl, .inr (r H), l⟩
  | @tup a vs es n r l => cases e; exact ⟨a, vs, rfl, .inl (.inl r), l⟩
  | @«mut» a m ea =>
    obtain ⟨vs, h1, l⟩ := R.at_ m a _ ea e
    exact ⟨a, vs, rfl, .inr (.of h1), l⟩
  | _ => cases e
def wStar (we : WD) (wl : WL) : WL := fun ρ S Q => we ρ S fun x S1 => ∃ ds, seqD S1 x = some ds ∧ wl ρ S1 fun es S2 => Q (ds ++ es) S2
theorem da_star {X : Cx} {e : Expr} {es : List Expr} {te : TE} {we : WD} {t : TA} {wl : WL} {p : Pos} (he : PD X e te we) (hr : PDA X es t wl) (hs : starEach (.Starred e p :: es) X.env = (true, eval e X.env) :: starEach es X.env := by rfl) : PDA X (.Starred e p :: es) (StX.tStar X.K te t) (wStar we wl) := by
  refine ⟨StX.pa_star he.pe hr.pe hs, fun A S σ H ρ Q Q' R E h k => ?_⟩
  refine he.sd A S σ H ρ _ _ R E h fun d S1 A1 v H1 g1 R1 hv q1 => ?_
  obtain ⟨ds, ed, q1⟩ := q1
  obtain ⟨a, vs, rfl, sq, l⟩ := hv.seq R1 ed
  refine ⟨a, vs, rfl, sq, ?_⟩
  refine hr.sd A1 S1 σ H1 ρ _ _ R1 (E.mono g1) q1 fun es2 S2 A2 ws H2 g2 R2 hw q2 => ?_
  exact k _ S2 A2 _ H2 (g1.trans g2) R2 ((l.mono g2).append hw) q2
def rLcm : List V → Hp → VK → Prop := fun vs H Q => ∃ a b : Int, vs = [.int a, .int b] ∧ a.natAbs < 2 ^ 64 ∧ b.natAbs < 2 ^ 64 ∧ Q (.int ((Nat.lcm a.natAbs b.natAbs : Nat) : Int)) H
theorem cr_lcm {X : Cx} : CallR X (.builtin "math.lcm") rLcm := by
  intro pins s σ H vs us Q I r h
  obtain ⟨a, b, rfl, ha, hb, q⟩ := h
  obtain ⟨t, u, rfl⟩ := Vals.int2 r
  exact PySem.W.mc_lcm ha hb fun _ => ⟨.int _, H, I.tok _, ⟨_, rfl⟩, q⟩
def oLcm : LD := fun ds S Q => match ds with
  | [.int a, .int b] => a.natAbs < 2 ^ 64 ∧ b.natAbs < 2 ^ 64 ∧ Q (.int ((Nat.lcm a.natAbs b.natAbs : Nat) : Int)) S
  | _ => False
theorem snd_lcm {mg : MG} : SndC mg rLcm oLcm := by
  intro A S H xs ds Q Q' R l q k
  match ds, q, l with
  | [.int a, .int b], q, l =>
    obtain ⟨v, w, rfl, hv, hw⟩ := l.two
    cases hv
    cases hw
    exact ⟨a, b, rfl, q.1, q.2.1, k _ S A _ H .refl R (.int _) q.2.2⟩
end DL

set_option Elab.async false
set_option linter.all false
set_option maxRecDepth 100000
/-! zip of three lists. -/
namespace DL
open PySem PySem.Spec PyProof.Rows L2
def Itz3 (K : PySem.W.Frag) (a b c : Addr) : It :=
  ⟨fun i H => ∃ (xs ys zs : List V) (x y z : V), SqL K H a xs ∧ SqL K H b ys ∧ SqL K H c zs ∧ xs[i]? = some x ∧ ys[i]? = some y ∧ zs[i]? = some z,
    fun i H v H' => ∃ T x y z, v = .ref T ∧ H T = none ∧ H' = upd H T (.tup [x, y, z]) ∧ (∀ xs, SqL K H a xs → xs[i]? = some x) ∧ (∀ ys, SqL K H b ys → ys[i]? = some y) ∧ ∀ zs, SqL K H c zs → zs[i]? = some z,
    fun i H => ∃ xs ys zs : List V, SqL K H a xs ∧ SqL K H b ys ∧ SqL K H c zs ∧ (xs.length ≤ i ∨ ys.length ≤ i ∨ zs.length ≤ i)⟩
/-- what a list's iterator draws from its place i on, when the list is at its end there or goes on -/
def DrL (it l : Addr) (items : Array Value) (i : Nat) (j : Nat) (h : Heap) : Prop := if items.size ≤ i then j = i ∧ h.IsListIter it l i ∧ h.IsList l items else h.IsListIter it l j ∧ h.IsList l items
def nL (items : Array Value) (i : Nat) : Nat := if items.size ≤ i then i else items.size
theorem drawsL {prog : Program} {w : World} {A : Around} (hh : A.handled = none) {it l : Addr} (hne : l ≠ it) (items : Array Value) (i : Nat) :
    Draws prog w A it [it, l] (nL items i) (fun j v => items[j]? = some v) (DrL it l items i) := by
  unfold nL DrL
  by_cases he : items.size ≤ i
  · simp only [if_pos he]
    refine ⟨fun j h z => ?_, fun j h h' z hk => ?_, fun j s Q E hj z hQ => ?_, fun s Q E z hE => ?_⟩
    · obtain ⟨_, ⟨o, ho, _⟩, _⟩ := z
      exact ⟨o, ho⟩
    · obtain ⟨z0, z1, z2⟩ := z
      exact ⟨z0, z1.at fun o q => hk it (by simp) o q, z2.at fun o q => hk l (by simp) o q⟩
    · have := z.1
      omega
    · obtain ⟨_, z1, z2⟩ := z
      exact wpAny_nextOf_list_end hh z1 z2 (by simp; omega) hE
  · simp only [if_neg he]
    exact Draws.list hh it l hne items
theorem DrL.to {it l : Addr} {items : Array Value} {i : Nat} {h : Heap} (a : h.IsListIter it l i) (b : h.IsList l items) : DrL it l items i i h := by
  unfold DrL
  split
  · exact ⟨rfl, a, b⟩
  · exact ⟨a, b⟩
theorem DrL.next {it l : Addr} {items : Array Value} {i : Nat} {h : Heap} (hi : i < items.size) (z : DrL it l items i (i + 1) h) : h.IsListIter it l (i + 1) := by
  unfold DrL at z
  rw [if_neg (by omega)] at z
  exact z.1
theorem nL_le (items : Array Value) (i : Nat) : i ≤ nL items i := by
  unfold nL
  split <;> omega
theorem nL_lt {items : Array Value} {i : Nat} (h : i < items.size) : i < nL items i := by
  unfold nL
  rw [if_neg (by omega)]
  exact h
theorem nL_end {items : Array Value} {i : Nat} (h : items.size ≤ i) : i = nL items i := by
  unfold nL
  rw [if_pos h]
/-- all apart -/
structure Zs3 (z TI TO i1 i2 i3 a b c : Addr) : Prop where
  nd : [z, TI, TO, i1, i2, i3].Nodup
  la : a ∉ [z, TI, TO, i1, i2, i3]
  lb : b ∉ [z, TI, TO, i1, i2, i3]
  lc : c ∉ [z, TI, TO, i1, i2, i3]
theorem Zs3.sep {z TI TO i1 i2 i3 a b c : Addr} (D : Zs3 z TI TO i1 i2 i3 a b c) : ZipSep3 z TI TO i1 i2 i3 [i1, a] [i2, b] [i3, c] := by
  obtain ⟨nd, la, lb, lc⟩ := D
  simp only [List.nodup_cons, List.mem_cons, List.not_mem_nil, or_false, not_or, List.nodup_nil, and_true, not_false_eq_true] at nd la lb lc
  constructor <;> grind
theorem line3 : ([(V.int 0), V.int 0, V.int 0] : List V).length ≤ sizeLine := by decide
theorem turn_zip3 {P : Program} {w : World} {K : PySem.W.Frag} {elts : List Expr} {kk : Nat} {tpos : Pos} {a b c z TI TO i1 i2 i3 : Addr} (D : Zs3 z TI TO i1 i2 i3 a b c) :
    Turn P w K (.Tuple elts kk tpos) (Itz3 K a b c) [z, TI, TO, i1, i2, i3] z (fun i h => IsZip h z TI TO .none ∧ IsTupOf3 h TI (.ref i1) (.ref i2) (.ref i3) ∧ (∃ x y u, IsTupOf3 h TO x y u) ∧ h.IsListIter i1 a i ∧ h.IsListIter i2 b i ∧ h.IsListIter i3 c i) where
  mem := by simp
  obj := fun i h st e he => by
    obtain ⟨hz, hTI, ⟨x, y, u, hTO⟩, ⟨o1, e1, _, d1⟩, ⟨o2, e2, _, d2⟩, ⟨o3, e3, _, d3⟩⟩ := st
    rcases (show e = z ∨ e = TI ∨ e = TO ∨ e = i1 ∨ e = i2 ∨ e = i3 by simpa using he) with rfl | rfl | rfl | rfl | rfl | rfl
    · exact ⟨_, hz, fun v q => nomatch q⟩
    · exact ⟨_, hTI, fun v q => nomatch q⟩
    · exact ⟨_, hTO, fun v q => nomatch q⟩
    · exact ⟨o1, e1, fun v q => by rw [d1] at q; cases q⟩
    · exact ⟨o2, e2, fun v q => by rw [d2] at q; cases q⟩
    · exact ⟨o3, e3, fun v q => by rw [d3] at q; cases q⟩
  keep := fun i h h' st k => by
    obtain ⟨hz, hTI, ⟨x, y, u, hTO⟩, h1, h2, h3⟩ := st
    exact ⟨k z (by simp) _ hz, k TI (by simp) _ hTI, ⟨x, y, u, k TO (by simp) _ hTO⟩, h1.at fun o q => k i1 (by simp) o q, h2.at fun o q => k i2 (by simp) o q, h3.at fun o q => k i3 (by simp) o q⟩
  item := by
    intro X hP hw hK hc i pins s σ H E I hf st hg
    subst hP hw hK
    obtain ⟨hz, hTI, ⟨x0, y0, u0, hTO⟩, h1, h2, h3⟩ := st
    obtain ⟨xs, ys, zs, x, y, v, hqx, hqy, hqz, hx, hy, hv⟩ := hg
    obtain ⟨t1, rv1, p1, _⟩ := I.list hqx
    obtain ⟨t2, rv2, p2, _⟩ := I.list hqy
    obtain ⟨t3, rv3, p3, _⟩ := I.list hqz
    obtain ⟨u1, hu1, ru1⟩ := rv1.get hx
    obtain ⟨u2, hu2, ru2⟩ := rv2.get hy
    obtain ⟨u3, hu3, ru3⟩ := rv3.get hv
    have l1 : i < t1.toArray.size := by simpa using (List.getElem?_eq_some_iff.mp hu1).1
    have l2 : i < t2.toArray.size := by simpa using (List.getElem?_eq_some_iff.mp hu2).1
    have l3 : i < t3.toArray.size := by simpa using (List.getElem?_eq_some_iff.mp hu3).1
    have hn : X.A.in1.handled = none := I.ok.hd hc
    have la := D.la
    have lb := D.lb
    have lc := D.lc
    simp only [List.mem_cons, List.not_mem_nil, or_false, not_or] at la lb lc
    have nd := D.nd
    simp only [List.nodup_cons, List.mem_cons, List.not_mem_nil, or_false, not_or] at nd
    have hzl : z < s.heap.objs.size := Heap.lt_size hz
    refine wpAny_pyNext_zipD3_item D.sep (drawsL hn (by grind) t1.toArray i) (drawsL hn (by grind) t2.toArray i) (drawsL hn (by grind) t3.toArray i) hz hTI hTO (DrL.to h1 p1.isList) (DrL.to h2 p2.isList) (DrL.to h3 p3.isList) (nL_lt l1) (nL_lt l2) (nL_lt l3)
      fun w1 w2 w3 h' tk q1 q2 q3 z' TO' st1 st2 st3 hT hsz hk => ?_
    have e1 : w1 = u1 := by
      have q : t1.toArray[i]? = some u1 := by simpa using hu1
      rw [q] at q1
      exact (Option.some.inj q1).symm
    have e2 : w2 = u2 := by
      have q : t2.toArray[i]? = some u2 := by simpa using hu2
      rw [q] at q2
      exact (Option.some.inj q2).symm
    have e3 : w3 = u3 := by
      have q : t3.toArray[i]? = some u3 := by simpa using hu3
      rw [q] at q3
      exact (Option.some.inj q3).symm
    subst e1 e2 e3
    refine ⟨_, rfl, wpAny_letOwnedTupleGo_zip (s := { s with heap := h', toks := tk }) z' fun h'' z'' sb => ?_⟩
    have hT2 : h''.get? s.heap.objs.size = some { cls := .type "tuple", data := .seq #[w1, w2, w3] } := (sb.2 _ (Nat.ne_of_gt hzl)).trans hT
    have new : ObjOk X.prog X.w (upd H s.heap.objs.size (.tup [x, y, v])) h'' s.heap.objs.size (.tup [x, y, v]) :=
      ⟨line3, [w1, w2, w3], .cons ru1 (.cons ru2 (.cons ru3 .nil)), _, hT2, rfl, _, rfl⟩
    have I1 : Inv X pins σ (upd H s.heap.objs.size (.tup [x, y, v])) { s with heap := h'', toks := tk } := by
      refine I.turnedNew (ch := [z, TI, TO, i1, i2, i3]) (fun e o he q => ?_) hf (Nat.le_refl _) new
      simp only [List.mem_cons, List.not_mem_nil, or_false, not_or] at he
      exact (sb.2 e he.1).trans (hk e o he.1 he.2.2.1 he.2.2.2.1 he.2.2.2.2.1 he.2.2.2.2.2 q)
    refine ⟨.ref s.heap.objs.size, _, I1, rfl, ⟨_, x, y, v, rfl, I.hok.fresh (Nat.le_refl _), rfl, fun l hl => by rw [I.list_inj hl hqx]; exact hx, fun l hl => by rw [I.list_inj hl hqy]; exact hy, fun l hl => by rw [I.list_inj hl hqz]; exact hv⟩, ⟨z'', ?_, ⟨w1, w2, w3, ?_⟩, ?_, ?_, ?_⟩, fun e he => ?_⟩
    · exact (sb.2 _ (by grind)).trans (hk _ _ (by grind) (by grind) (by grind) (by grind) (by grind) hTI)
    · exact (sb.2 _ (by grind)).trans TO'
    · exact (DrL.next l1 st1).at fun o q => (sb.2 _ (by grind)).trans q
    · exact (DrL.next l2 st2).at fun o q => (sb.2 _ (by grind)).trans q
    · exact (DrL.next l3 st3).at fun o q => (sb.2 _ (by grind)).trans q
    · have hlt : e < s.heap.objs.size := by
        rcases (show e = z ∨ e = TI ∨ e = TO ∨ e = i1 ∨ e = i2 ∨ e = i3 by simpa using he) with rfl | rfl | rfl | rfl | rfl | rfl
        · exact hzl
        · exact Heap.lt_size hTI
        · exact Heap.lt_size hTO
        · obtain ⟨_, q, _⟩ := h1; exact Heap.lt_size q
        · obtain ⟨_, q, _⟩ := h2; exact Heap.lt_size q
        · obtain ⟨_, q, _⟩ := h3; exact Heap.lt_size q
      rw [upd_ne (Nat.ne_of_lt hlt)]
      exact (hf e he).1
  done := by
    intro X hP hw hK hc i pins s σ H E I hf st hg
    subst hP hw hK
    obtain ⟨hz, hTI, ⟨x0, y0, u0, hTO⟩, h1, h2, h3⟩ := st
    obtain ⟨xs, ys, zs, hqx, hqy, hqz, hend⟩ := hg
    obtain ⟨t1, rv1, p1, _⟩ := I.list hqx
    obtain ⟨t2, rv2, p2, _⟩ := I.list hqy
    obtain ⟨t3, rv3, p3, _⟩ := I.list hqz
    have l1 := rv1.length
    have l2 := rv2.length
    have l3 := rv3.length
    have hn : X.A.in1.handled = none := I.ok.hd hc
    have la := D.la
    have lb := D.lb
    have lc := D.lc
    simp only [List.mem_cons, List.not_mem_nil, or_false, not_or] at la lb lc
    have he : i = nL t1.toArray i ∨ i = nL t2.toArray i ∨ i = nL t3.toArray i := by
      rcases hend with q | q | q
      · exact .inl (nL_end (by simp; omega))
      · exact .inr (.inl (nL_end (by simp; omega)))
      · exact .inr (.inr (nL_end (by simp; omega)))
    refine wpAny_pyNext_zipD3_end D.sep (drawsL hn (by grind) t1.toArray i) (drawsL hn (by grind) t2.toArray i) (drawsL hn (by grind) t3.toArray i) hz hTI hTO (DrL.to h1 p1.isList) (DrL.to h2 p2.isList) (DrL.to h3 p3.isList) (nL_le _ _) (nL_le _ _) (nL_le _ _) he fun h' tk hk => ?_
    refine ⟨rfl, I.turnedL (ch := [z, TI, TO, i1, i2, i3]) (fun e o he q => ?_) hf⟩
    simp only [List.mem_cons, List.not_mem_nil, or_false, not_or] at he
    exact hk e o he.1 he.2.2.1 he.2.2.2.1 he.2.2.2.2.1 he.2.2.2.2.2 q
  self := fun A i s Q E st h => wpAny_pyIter_zip st.1 h
end DL

set_option Elab.async false
set_option linter.all false
set_option maxRecDepth 100000
/-! zip of three lists in a comprehension; comprehensions over tuples; list and tuple of a sequence; slices; unpacking a list; calls by three names. -/
namespace DL
open PySem PySem.Spec PyProof.Rows L2
def iZip3 (K : PySem.W.Frag) (ta : TA) : TI := fun σ H R => ta σ H fun vs H1 => ∃ a b c xs ys zs, vs = [.ref a, .ref b, .ref c] ∧ SqL K H1 a xs ∧ SqL K H1 b ys ∧ SqL K H1 c zs ∧ R (Itz3 K a b c) H1
theorem apart3 {n a b c : Nat} (la : a < n) (lb : b < n) (lc : c < n) : Zs3 (n + 5) (n + 3) (n + 4) n (n + 1) (n + 2) a b c := by
  have ne : ∀ {x : Nat}, x < n → x ∉ ([n + 5, n + 3, n + 4, n, n + 1, n + 2] : List Nat) := fun {x} h z => by
    simp only [List.mem_cons, List.not_mem_nil, or_false] at z
    omega
  exact ⟨by simp, ne la, ne lb, ne lc⟩
theorem pi_zip3 {X : Cx} {e e2 e3 : Expr} {ta : TA} {p pos tpos : Pos} {elts : List Expr} {kk : Nat} (hg : Gl X "zip") (hm : X.mg "zip" = none) (ha : PA X [e, e2, e3] ta)
    (hs : starEach [e, e2, e3] X.env = (false, eval e X.env) :: starEach [e2, e3] X.env := by rfl) (hpl : (backTo pos (starEach [e2, e3] X.env)).any (·.1) = false := by rfl) :
    PI X (.Tuple elts kk tpos) (.Call (.Name "zip" p) [e, e2, e3] [] pos) (iZip3 X.K ta) := by
  refine ⟨fun pins s σ H R I h => ?_⟩
  refine Call_ (ld_blt I hg hm PyProof.Rows.boot_zip (PyProof.Rows.callWith_type1 (thn (ha.run pos pins s σ H _ I h) fun us s1 ⟨vs, H1, I1, r1, q1⟩ => ?_) hs hpl))
  obtain ⟨a, b, c, xs, ys, zs, ex, hqx, hqy, hqz, q⟩ := q1
  subst ex
  cases r1 with
  | cons r rr =>
    cases rr with
    | cons r' rr =>
      cases rr with
      | cons r'' rr =>
      cases rr
      cases r
      cases r'
      cases r''
      obtain ⟨its, rv, p1, _⟩ := I1.list hqx
      obtain ⟨its2, rv2, p2, _⟩ := I1.list hqy
      obtain ⟨its3, rv3, p3, _⟩ := I1.list hqz
      have la : a < s1.heap.objs.size := p1.lt
      have lb : b < s1.heap.objs.size := p2.lt
      have lc : c < s1.heap.objs.size := p3.lt
      refine zip_begins3 (begins_list a _) (begins_list b _) (begins_list c _) p1.isList p2.isList p3.isList fun h' hz hTI hTO h1 h2 h3 hsz hk => wpAny_pyIter_zip hz ?_
      have I2 : Inv X pins σ H1 { s1 with heap := h' } := I1.kept (t' := s1.toks) hk
      refine ⟨s1.heap.objs.size + 5, [s1.heap.objs.size + 5, s1.heap.objs.size + 3, s1.heap.objs.size + 4, s1.heap.objs.size, s1.heap.objs.size + 1, s1.heap.objs.size + 2], _, _, H1, rfl, I2, turn_zip3 (apart3 la lb lc), ⟨hz, hTI, ⟨_, _, _, hTO⟩, ⟨_, h1, rfl, rfl⟩, ⟨_, h2, rfl, rfl⟩, ⟨_, h3, rfl, rfl⟩⟩, fun d hd => ?_, q⟩
      have hle : s1.heap.objs.size ≤ d := by
        rcases (show d = s1.heap.objs.size + 5 ∨ d = s1.heap.objs.size + 3 ∨ d = s1.heap.objs.size + 4 ∨ d = s1.heap.objs.size ∨ d = s1.heap.objs.size + 1 ∨ d = s1.heap.objs.size + 2 by simpa using hd) with z | z | z | z | z | z <;> rw [z] <;> first | exact Nat.le_refl _ | exact Nat.le_add_right _ _
      exact I1.fpOk hle (I1.hok.fresh hle)
/-! ### zip of three, by data -/
def zip3D (xs ys zs : List D) : List D := List.zipWith (fun a (p : D × D) => D.tup [a, p.1, p.2]) xs (List.zip ys zs)
theorem zip3D_get {xs ys zs : List D} {i : Nat} {a b c : D} (h1 : xs[i]? = some a) (h2 : ys[i]? = some b) (h3 : zs[i]? = some c) : (zip3D xs ys zs)[i]? = some (.tup [a, b, c]) := by
  unfold zip3D
  rw [List.getElem?_zipWith, h1, List.getElem?_zip_eq_some.mpr (show ys[i]? = some (b, c).1 ∧ zs[i]? = some (b, c).2 from ⟨h2, h3⟩)]
def wLcZ3 (wi : WL) (vs : List Nat) (wg : WG) (wt : WB) (we : WD) : WD := fun ρ S Q => wi ρ S fun ds S1 => match ds with
  | [x, y, z] => ∃ xs ok1 ys ok2 zs ok3, stayD S1 x = some (xs, ok1) ∧ stayD S1 y = some (ys, ok2) ∧ stayD S1 z = some (zs, ok3) ∧ lcO (fun S2 => ok1 S2 ∧ ok2 S2 ∧ ok3 S2) (zip3D xs ys zs) (lcStep S1.length vs wg wt we ρ) (fun S' => Q (.mut S1.length) S') (S1 ++ [[]])
  | _ => False
theorem gown_three {K : PySem.W.Frag} {n i j l : Nat} {vs : List Nat} (hi : i ∈ vs) (hj : j ∈ vs) (hl : l ∈ vs) : GOwn vs (gTup K n (gCons (gName i) (gCons (gName j) (gCons (gName l) gNil)))) := ⟨fun v σ H Q q => by
  obtain ⟨a, xs, e, h1, h2, x, r, e1, y, r2, e2, z, r3, e3, e4, q⟩ := q
  exact ⟨a, xs, e, h1, h2, x, r, e1, y, r2, e2, z, r3, e3, e4, by rw [wipe_set_own hl, wipe_set_own hj, wipe_set_own hi], q⟩⟩
theorem IsL.three {mg : MG} {A : List Addr} {H : Hp} {vs : List V} {d e f : D} (l : IsL mg A H vs [d, e, f]) : ∃ v w u, vs = [v, w, u] ∧ Is mg A H v d ∧ Is mg A H w e ∧ Is mg A H u f := by
  cases l with
  | cons h t => obtain ⟨w, u, rfl, h2, h3⟩ := t.two; exact ⟨_, _, _, rfl, h, h2, h3⟩
section
variable {X : Cx} {elt : Expr} {elts : List Expr} {kk : Nat} {ifs : List Expr} {scope : Scope} {own : List (Str × Nat)} {pos pos2 p tpos : Pos} {g : TG} {wg : WG} {tt : TT} {wt : WB} {te : TE} {we : WD}
theorem d_lcZ3 {a a2 a3 : Expr} {ta : TA} {wa : WL} (hc : X.calm = true) (hN : X.N.Nodup) (hm : X.mg "zip" = none) (ha : PDA X [a, a2, a3] ta wa) (ok : BlkOk X.N X.env.scope scope own) (go : GOwn (own.map (·.2)) g)
    (hg : ∀ (s : Shared) (H : Hp) (C : Addr) (cl : List (Str × Addr)) (fp : List Addr), PDG (X.blk s H scope (compEnvC scope cl C X.env) fp) (.Tuple elts kk tpos) g wg) (ht : ∀ (s : Shared) (H : Hp) (C : Addr) (cl : List (Str × Addr)) (fp : List Addr), PDTs (X.blk s H scope (compEnvC scope cl C X.env) fp) ifs tt wt)
    (he : ∀ (s : Shared) (H : Hp) (C : Addr) (cl : List (Str × Addr)) (fp : List Addr), PD (X.blk s H scope (compEnvC scope cl C X.env) fp) elt te we) (hgl : Gl X "zip" := by rfl) (hst : starEach [a, a2, a3] X.env = (false, eval a X.env) :: starEach [a2, a3] X.env := by rfl) (hpl : (backTo pos2 (starEach [a2, a3] X.env)).any (·.1) = false := by rfl) (hs : ∀ x, foldedSetIterable (.Call (.Name "zip" p) [a, a2, a3] [] pos2) X.env x = pure x := by intro _; rfl) :
    PD X (.ListComp elt [⟨.Tuple elts kk tpos, .Call (.Name "zip" p) [a, a2, a3] [] pos2, ifs, 0⟩] scope pos) (tLc (iZip3 X.K ta) g tt te (own.map (·.2))) (wLcZ3 wa (own.map (·.2)) wg wt we) := by
  refine ⟨pe_lc hc hN (pi_zip3 hgl hm ha.pe hst hpl) ok (fun s H C cl fp => (hg s H C cl fp).pe) (fun s H C cl fp => (ht s H C cl fp).pe) (fun s H C cl fp => (he s H C cl fp).pe) hs, fun A S σ H ρ Q Q' R E h k => ?_⟩
  have wsg : SndG X.G g wg := (hg X.s_0 X.H_0 0 [] []).sd
  have wst : SndT X.G tt wt := (ht X.s_0 X.H_0 0 [] []).sd
  have wse : SndE X.G te we := (he X.s_0 X.H_0 0 [] []).sd
  refine ha.sd A S σ H ρ _ _ R E h fun ds S1 A1 vs H1 g1 R1 hv q1 => ?_
  match ds, hv, q1 with
  | [x, y, z], hv, ⟨xs, okX, ys, okY, zs, okZ, ex, ey, ez, q1⟩ =>
    obtain ⟨v, w, u, rfl, hx, hy, hz⟩ := hv.three
    obtain ⟨ad, rfl, st, ok1⟩ := hx.stay R1 ex
    obtain ⟨bd, rfl, st2, ok2⟩ := hy.stay R1 ey
    obtain ⟨cd, rfl, st3, ok3⟩ := hz.stay R1 ez
    obtain ⟨us0, sq0, l0⟩ := st.now A1 S1 H1 .refl R1 ok1
    obtain ⟨ws0, sr0, m0⟩ := st2.now A1 S1 H1 .refl R1 ok2
    obtain ⟨zs0, st0, n0⟩ := st3.now A1 S1 H1 .refl R1 ok3
    refine ⟨ad, bd, cd, us0, ws0, zs0, rfl, sq0, sr0, st0, fun Dl hD => ?_⟩
    have gD := grow_mut (o := .lst []) R1 hD
    have RD := R1.newMut hD (vs := []) (ds := []) .nil
    have hmD : (A1 ++ [Dl])[S1.length]? = some Dl := by rw [← R1.len, List.getElem?_append_right (Nat.le_refl _), Nat.sub_self]; rfl
    have zl : (zip3D xs ys zs).length = min xs.length (min ys.length zs.length) := by unfold zip3D; simp
    refine ⟨fun i mm H2 => mm = (zip3D xs ys zs).length - i ∧ i ≤ (zip3D xs ys zs).length ∧ ∃ A2 S2, Grow (A1 ++ [Dl]) A2 (upd H1 Dl (.lst [])) H2 ∧ Rep X.G A2 S2 H2 ∧ lcO (fun S2 => okX S2 ∧ okY S2 ∧ okZ S2) ((zip3D xs ys zs).drop i) (lcStep S1.length (own.map (·.2)) wg wt we ρ) (fun S' => Q' (.mut S1.length) S') S2,
      ⟨(zip3D xs ys zs).length, by simp, Nat.zero_le _, A1 ++ [Dl], S1 ++ [[]], .refl, RD, q1⟩, ?_⟩
    rintro i mm H2 ⟨rfl, hle, A2, S2, g2, R2, q2⟩
    obtain ⟨us, sq, l⟩ := st.now A2 S2 H2 (gD.trans g2) R2 q2.ok.1
    obtain ⟨ws, sr, m⟩ := st2.now A2 S2 H2 (gD.trans g2) R2 q2.ok.2.1
    obtain ⟨os, so, n⟩ := st3.now A2 S2 H2 (gD.trans g2) R2 q2.ok.2.2
    have len : us.length = xs.length := l.length
    have len2 : ws.length = ys.length := m.length
    have len3 : os.length = zs.length := n.length
    by_cases hlt : i < us.length ∧ i < ws.length ∧ i < os.length
    · obtain ⟨d, hd, hxd⟩ := l.getV (List.getElem?_eq_getElem hlt.1)
      obtain ⟨d2, hd2, hxd2⟩ := m.getV (List.getElem?_eq_getElem hlt.2.1)
      obtain ⟨d3, hd3, hxd3⟩ := n.getV (List.getElem?_eq_getElem hlt.2.2)
      have hdrop : (zip3D xs ys zs).drop i = .tup [d, d2, d3] :: (zip3D xs ys zs).drop (i + 1) := by
        obtain ⟨hl, e⟩ := List.getElem?_eq_some_iff.mp (zip3D_get hd hd2 hd3)
        rw [List.drop_eq_getElem_cons hl, e]
      rw [hdrop] at q2
      refine .inr ⟨⟨us, ws, os, us[i], ws[i], os[i], sq, sr, so, by simp [hlt.1], by simp [hlt.2.1], by simp [hlt.2.2]⟩, fun H3 => ∃ A2 S2, Grow (A1 ++ [Dl]) A2 (upd H1 Dl (.lst [])) H3 ∧ Rep X.G A2 S2 H3 ∧ lcO (fun S2 => okX S2 ∧ okY S2 ∧ okZ S2) ((zip3D xs ys zs).drop (i + 1)) (lcStep S1.length (own.map (·.2)) wg wt we ρ) (fun S' => Q' (.mut S1.length) S') S2, fun H3 z => ⟨(zip3D xs ys zs).length - (i + 1), by omega, rfl, by omega, z⟩, fun y H3 hy => ?_⟩
      obtain ⟨T, y0, y1, y2, rfl, hT, rfl, hy0, hy1, hy2⟩ := hy
      have e0 : y0 = us[i] := by
        have q := hy0 us sq
        rw [List.getElem?_eq_getElem hlt.1] at q
        exact (Option.some.inj q).symm
      have e1 : y1 = ws[i] := by
        have q := hy1 ws sr
        rw [List.getElem?_eq_getElem hlt.2.1] at q
        exact (Option.some.inj q).symm
      have e2 : y2 = os[i] := by
        have q := hy2 os so
        rw [List.getElem?_eq_getElem hlt.2.2] at q
        exact (Option.some.inj q).symm
      subst e0 e1 e2
      have gT := grow_new (o := .tup [us[i], ws[i], os[i]]) R2 hT
      have isT : Is X.G A2 (upd H2 T (.tup [us[i], ws[i], os[i]])) (.ref T) (.tup [d, d2, d3]) := .tup (R2.fresh hT) (.inl upd_same) (.cons (hxd.mono gT) (.cons (hxd2.mono gT) (.cons (hxd3.mono gT) .nil)))
      exact lc_turn wsg wst wse go (R2.new hT) (E.mono (g1.trans (gD.trans (g2.trans gT)))) isT (g2.pre _ _ hmD) q2.2 fun S' A' H' g' R' z => ⟨A', S', (g2.trans gT).trans g', R', z⟩
    · have e : (zip3D xs ys zs).drop i = [] := List.drop_eq_nil_of_le (by rw [zl]; omega)
      rw [e] at q2
      exact .inl ⟨⟨us, ws, os, sq, sr, so, by omega⟩, k _ S2 A2 _ H2 (g1.trans (gD.trans g2)) R2 (.mut (g2.pre _ _ hmD)) q2.2⟩
/-! ### a comprehension over a tuple -/
def wLcT (wi : WD) (vs : List Nat) (wg : WG) (wt : WB) (we : WD) : WD := fun ρ S Q => wi ρ S fun d S1 => match d with
  | .tup ds => lcD ds (lcStep S1.length vs wg wt we ρ) (fun S' => Q (.mut S1.length) S') (S1 ++ [[]])
  | _ => False
theorem d_lcT {tg iter : Expr} {ti : TE} {wi : WD} (hc : X.calm = true) (hN : X.N.Nodup) (hi : PD X iter ti wi) (ok : BlkOk X.N X.env.scope scope own) (go : GOwn (own.map (·.2)) g)
    (hg : ∀ (s : Shared) (H : Hp) (C : Addr) (cl : List (Str × Addr)) (fp : List Addr), PDG (X.blk s H scope (compEnvC scope cl C X.env) fp) tg g wg) (ht : ∀ (s : Shared) (H : Hp) (C : Addr) (cl : List (Str × Addr)) (fp : List Addr), PDTs (X.blk s H scope (compEnvC scope cl C X.env) fp) ifs tt wt)
    (he : ∀ (s : Shared) (H : Hp) (C : Addr) (cl : List (Str × Addr)) (fp : List Addr), PD (X.blk s H scope (compEnvC scope cl C X.env) fp) elt te we) (hs : ∀ x, foldedSetIterable iter X.env x = pure x := by intro _; rfl) :
    PD X (.ListComp elt [⟨tg, iter, ifs, 0⟩] scope pos) (tLc (iTup X.K ti) g tt te (own.map (·.2))) (wLcT wi (own.map (·.2)) wg wt we) := by
  refine ⟨pe_lc hc hN (pi_tup hi.pe) ok (fun s H C cl fp => (hg s H C cl fp).pe) (fun s H C cl fp => (ht s H C cl fp).pe) (fun s H C cl fp => (he s H C cl fp).pe) hs, fun A S σ H ρ Q Q' R E h k => ?_⟩
  have sg : SndG X.G g wg := (hg X.s_0 X.H_0 0 [] []).sd
  have st : SndT X.G tt wt := (ht X.s_0 X.H_0 0 [] []).sd
  have se : SndE X.G te we := (he X.s_0 X.H_0 0 [] []).sd
  refine hi.sd A S σ H ρ _ _ R E h fun d S1 A1 v H1 g1 R1 hv q1 => ?_
  cases hv <;> first | exact q1.elim | skip
  rename_i a vs ds n r l
  have sq : ∀ {A2 H2}, Grow A1 A2 H1 H2 → SqT X.K H2 a vs := fun gg => .inl (gg.rd n r).2
  refine ⟨a, rfl, ⟨vs, sq .refl⟩, fun Dl hD => ?_⟩
  have gD := grow_mut (o := .lst []) R1 hD
  have RD := R1.newMut hD (vs := []) (ds := []) .nil
  have hm : (A1 ++ [Dl])[S1.length]? = some Dl := by rw [← R1.len, List.getElem?_append_right (Nat.le_refl _), Nat.sub_self]; rfl
  refine lc_tup (K := X.K) (a := a) (xs := vs) (fun i H2 => ∃ A2 S2, Grow (A1 ++ [Dl]) A2 (upd H1 Dl (.lst [])) H2 ∧ Rep X.G A2 S2 H2 ∧ lcD (ds.drop i) (lcStep S1.length (own.map (·.2)) wg wt we ρ) (fun S' => Q' (.mut S1.length) S') S2)
      ⟨A1 ++ [Dl], S1 ++ [[]], .refl, RD, q1⟩ (fun i H2 hi ⟨A2, S2, g2, _⟩ => sq (gD.trans g2)) ?_ ?_
  · rintro i x H2 hx ⟨A2, S2, g2, R2, q2⟩
    obtain ⟨d, hd, hxd⟩ := l.getV hx
    have hdrop : ds.drop i = d :: ds.drop (i + 1) := by
      obtain ⟨hl, e⟩ := List.getElem?_eq_some_iff.mp hd
      rw [List.drop_eq_getElem_cons hl, e]
    rw [hdrop] at q2
    exact lc_turn sg st se go R2 (E.mono (g1.trans (gD.trans g2))) (hxd.mono (gD.trans g2)) (g2.pre _ _ hm) q2 fun S' A' H' g' R' z => ⟨A', S', g2.trans g', R', z⟩
  · rintro H2 ⟨A2, S2, g2, R2, q2⟩
    rw [l.length, List.drop_length] at q2
    exact k _ S2 A2 _ H2 (g1.trans (gD.trans g2)) R2 (.mut (g2.pre _ _ hm)) q2
end
/-! ### list(xs): a list that may change; tuple(xs) -/
def oListM : LD := fun ds S Q => match ds with
  | [x] => ∃ es, seqD S x = some es ∧ Q (.mut S.length) (S ++ [es])
  | _ => False
theorem snd_listM {mg : MG} : SndC mg (fun xs H Q => ∃ p ys, xs = [.ref p] ∧ (SqL mg.K H p ys ∨ SqT mg.K H p ys) ∧ ∀ l, H l = none → Q (.ref l) (upd H l (.lst ys))) oListM := by
  intro A S H xs ds Q Q' R l q k
  match ds, q, l with
  | [x], ⟨es, e, q⟩, l =>
    obtain ⟨v, rfl, hv⟩ := l.one
    obtain ⟨a, vs, rfl, sq, lv⟩ := hv.seq R e
    refine ⟨a, vs, rfl, sq.symm, fun p hp => ?_⟩
    refine k _ _ (A ++ [p]) _ _ (grow_mut R hp) (R.newMut hp lv) (.mut ?_) q
    rw [← R.len, List.getElem?_append_right (Nat.le_refl _), Nat.sub_self]
    rfl
def oTupl : LD := fun ds S Q => match ds with
  | [x] => ∃ es, seqD S x = some es ∧ Q (.tup es) S
  | _ => False
theorem snd_tupl {mg : MG} : SndC mg (fun xs H Q => ∃ p ys, xs = [.ref p] ∧ ((SqL mg.K H p ys ∧ ∀ l, H l = none → Q (.ref l) (upd H l (.tup ys))) ∨ (SqT mg.K H p ys ∧ Q (.ref p) H))) oTupl := by
  intro A S H xs ds Q Q' R l q k
  match ds, q, l with
  | [x], ⟨es, e, q⟩, l =>
    obtain ⟨v, rfl, hv⟩ := l.one
    cases hv with
    | @tup a vs fs n r l' =>
      cases e
      exact ⟨a, vs, rfl, .inr ⟨.inl r, k _ S A _ H .refl R (.tup n r l') q⟩⟩
    | @lst a vs fs n r l' =>
      cases e
      exact ⟨a, vs, rfl, .inl ⟨.of r, fun p hp => k _ S A _ _ (grow_new R hp) (R.new hp) (.tup (R.fresh hp) (.inl upd_same) (l'.mono (grow_new R hp))) q⟩⟩
    | @scr a vs fs n r l' =>
      cases e
      exact ⟨a, vs, rfl, .inl ⟨.inl r, fun p hp => k _ S A _ _ (grow_new R hp) (R.new hp) (.tup (R.fresh hp) (.inl upd_same) (l'.mono (grow_new R hp))) q⟩⟩
    | @scrK a vs fs r l' =>
      cases e
      exact ⟨a, vs, rfl, .inl ⟨r H, fun p hp => k _ S A _ _ (grow_new R hp) (R.new hp) (.tup (R.fresh hp) (.inl upd_same) (l'.mono (grow_new R hp))) q⟩⟩
    | @«mut» a m ea =>
      obtain ⟨vs, h1, l'⟩ := R.at_ m a _ ea e
      exact ⟨a, vs, rfl, .inl ⟨.of h1, fun p hp => k _ S A _ _ (grow_new R hp) (R.new hp) (.tup (R.fresh hp) (.inl upd_same) (l'.mono (grow_new R hp))) q⟩⟩
    | _ => cases e
/-! ### slices of lists: new lists that never change -/
def listD (S : MS) : D → Option (List D)
  | .lst ds => some ds
  | .scr ds => some ds
  | .mut m => S[m]?
  | _ => none
theorem Is.lis {mg : MG} {A : List Addr} {S : MS} {H : Hp} {v : V} {d : D} {ds : List D} (R : Rep mg A S H) (h : Is mg A H v d) (e : listD S d = some ds) : ∃ a vs, v = .ref a ∧ SqL mg.K H a vs ∧ IsL mg A H vs ds := by
  cases h with
  | @lst a vs es n r l => cases e; exact ⟨a, vs, rfl, .of r, l⟩
  | @scr a vs es n r l => cases e; exact ⟨a, vs, rfl, .inl r, l⟩
  | @scrK a vs es r l => cases e; exact ⟨a, vs, rfl, r H, l⟩
  | @«mut» a m ea =>
    obtain ⟨vs, h1, l⟩ := R.at_ m a _ ea e
    exact ⟨a, vs, rfl, .of h1, l⟩
  | _ => cases e
def wCut (we : WD) (lo hi : Option Int) : WD := fun ρ S Q => we ρ S fun x S1 => ∃ ds, listD S1 x = some ds ∧ Q (.lst (cutD ds lo hi)) S1
section
variable {X : Cx} {e : Expr} {te : TE} {we : WD} {n : Int} {j : Nat} {p1 p2 p3 pos : Pos}
/-- xs[n:], n written -/
theorem d_cutFrom (he : PD X e te we) : PD X (.Subscript e (.Slice (some (.Constant (.int n) j p1)) none none p2) pos) (tSl (rSlL X.K) te (tPart (tC (.int n))) tNoPart) (wCut we (some n) none) := by
  refine ⟨pe_slice sl_list he.pe (po_some pe_int) po_none, fun A S σ H ρ Q Q' R E h k => ?_⟩
  refine he.sd A S σ H ρ _ _ R E h fun d S1 A1 v H1 g1 R1 hv q1 => ?_
  obtain ⟨ds, ed, q1⟩ := q1
  obtain ⟨a, vs, rfl, sq, l⟩ := hv.lis R1 ed
  refine ⟨n, rfl, a, vs, rfl, sq, fun p hp => ?_⟩
  have g := grow_new (o := .lst (cutV vs (some n) none)) R1 hp
  exact k _ S1 A1 _ _ (g1.trans g) (R1.new hp) (.lst (R1.fresh hp) upd_same ((l.cut _ _).mono g)) q1
/-- xs[:n], n written -/
theorem d_cutToM (he : PD X e te we) : PD X (.Subscript e (.Slice none (some (.Constant (.int n) j p1)) none p2) pos) (tSl (rSlL X.K) te tNoPart (tPart (tC (.int n)))) (wCut we none (some n)) := by
  refine ⟨pe_slice sl_list he.pe po_none (po_some pe_int), fun A S σ H ρ Q Q' R E h k => ?_⟩
  refine he.sd A S σ H ρ _ _ R E h fun d S1 A1 v H1 g1 R1 hv q1 => ?_
  obtain ⟨ds, ed, q1⟩ := q1
  obtain ⟨a, vs, rfl, sq, l⟩ := hv.lis R1 ed
  refine ⟨n, rfl, a, vs, rfl, sq, fun p hp => ?_⟩
  have g := grow_new (o := .lst (cutV vs none (some n))) R1 hp
  exact k _ S1 A1 _ _ (g1.trans g) (R1.new hp) (.lst (R1.fresh hp) upd_same ((l.cut _ _).mono g)) q1
/-- xs[-n:], n written -/
theorem d_cutFromN (he : PD X e te we) : PD X (.Subscript e (.Slice (some (.UnaryOp .USub (.Constant (.int n) j p1) p3)) none none p2) pos) (tSl (rSlL X.K) te (tPart (tUn (rU fun i => .int (-i)) (tC (.int n)))) tNoPart) (wCut we (some (-n)) none) := by
  refine ⟨pe_slice sl_list he.pe (po_some (pe_un un_neg pe_int)) po_none, fun A S σ H ρ Q Q' R E h k => ?_⟩
  refine he.sd A S σ H ρ _ _ R E h fun d S1 A1 v H1 g1 R1 hv q1 => ?_
  obtain ⟨ds, ed, q1⟩ := q1
  obtain ⟨a, vs, rfl, sq, l⟩ := hv.lis R1 ed
  refine ⟨n, rfl, -n, rfl, a, vs, rfl, sq, fun p hp => ?_⟩
  have g := grow_new (o := .lst (cutV vs (some (-n)) none)) R1 hp
  exact k _ S1 A1 _ _ (g1.trans g) (R1.new hp) (.lst (R1.fresh hp) upd_same ((l.cut _ _).mono g)) q1
end
theorem cut_from1 (d : D) (ds : List D) : cutD (d :: ds) (some 1) none = ds := by
  unfold cutD HT.sIx
  simp
/-! ### a list unpacked -/
def gwLst (n : Nat) (ws : WGs) : WG := fun d ρ S Q => ∃ ds, listD S d = some ds ∧ ds.length = n ∧ ws ds ρ S Q
theorem dg_lst {X : Cx} {es : List Expr} {n0 : Nat} {t : TGs} {ws : WGs} {n : Nat} {pos : Pos} (hc : X.calm = true) (h : PDGs X es t ws)
    (hn : (assignEach es X.env).length = n := by rfl) (hst : (assignEach es X.env).findIdx? (·.1) = none := by rfl) : PDG X (.Tuple es n0 pos) (L2.gLst X.K n t) (gwLst n ws) := by
  refine ⟨L2.pg_lst hc h.pe hn hst, fun A S σ H ρ v d Q Q' R E hv q k => ?_⟩
  obtain ⟨ds, e, hl, q⟩ := q
  obtain ⟨a, vs, rfl, sq, l⟩ := hv.lis R e
  exact ⟨a, vs, rfl, sq, by rw [l.length]; exact hl, h.sd A S σ H ρ _ _ _ _ R E l q k⟩
/-! ### calls by three names -/
def perm3V {α : Type} (f : α → α → α → List α) : List α → List α → List α
  | [], [a, b, c] => f a b c
  | _, _ => []
def p3rev {α : Type} (a b c : α) : List α := [c, b, a]
def p3mid {α : Type} (a b c : α) : List α := [a, c, b]
theorem perm3_rev {vs zs : List V} {us ws : List Value} (r : Vals vs us) (rz : Vals zs ws) : Vals (perm3V p3rev vs zs) (perm3V p3rev us ws) := by
  cases r with
  | cons _ _ => exact .nil
  | nil =>
    match rz with
    | .nil => exact .nil
    | .cons h1 .nil => exact .nil
    | .cons h1 (.cons h2 .nil) => exact .nil
    | .cons h1 (.cons h2 (.cons h3 .nil)) => exact .cons h3 (.cons h2 (.cons h1 .nil))
    | .cons h1 (.cons h2 (.cons h3 (.cons _ _))) => exact .nil
theorem perm3_mid {vs zs : List V} {us ws : List Value} (r : Vals vs us) (rz : Vals zs ws) : Vals (perm3V p3mid vs zs) (perm3V p3mid us ws) := by
  cases r with
  | cons _ _ => exact .nil
  | nil =>
    match rz with
    | .nil => exact .nil
    | .cons h1 .nil => exact .nil
    | .cons h1 (.cons h2 .nil) => exact .nil
    | .cons h1 (.cons h2 (.cons h3 .nil)) => exact .cons h1 (.cons h3 (.cons h2 .nil))
    | .cons h1 (.cons h2 (.cons h3 (.cons _ _))) => exact .nil
def wCallP3 (f : D → D → D → List D) (w : WF) (wl : WL) : WD := fun ρ S Q => wl ρ S fun ds S1 => match ds with
  | [a, b, c] => w (f a b c) S1 Q
  | _ => False
section
variable {X : Cx} {k : Nat} {f : Addr} {fd : FuncData} {ps ks : List Str} {x : Str} {p pos : Pos} {kws : List Keyword} {tk : TA} {wl : WL} {w : WF} {G' : MG}
theorem d_callP3rev (F : FnOk X.prog X.w X.K X.mg X.base CX0 k f fd ps (spW G' 3 w)) (hr : Room k X.A) (hm : X.mg x = some (.ref f)) (hk : PySem.W.keepIn X.K (.ref f) = true) (hb : KBinds X.K fd ps ks (perm3V p3rev) (perm3V p3rev)) (hkw : PDK X kws tk wl) (hG : G' = X.G := by rfl) (hg : Gl X x := by rfl)
    (hall : (backToKw pos (keywordEach kws X.env)).all (·.1.isSome) = true := by rfl) (hks : (backToKw pos (keywordEach kws X.env)).filterMap (·.1) = ks := by rfl) (hdb : (x == ("__debug__" : Str)) = false := by decide)
    (hpl : ((backTo pos (starEach [] X.env)).any (·.1) || (backToKw pos (keywordEach kws X.env)).any (·.1.isNone)) = false := by rfl) :
    PD X (.Call (.Name x p) [] kws pos) (tCallK (spW G' 3 w) (perm3V p3rev) E0 tNil tk) (wCallP3 p3rev w wl) := by
  subst hG
  refine ⟨pe_callK0 F hr hg hm hk hb pass0 hkw.pe hall hks hdb hpl, fun A S σ H ρ Q Q' R E h k => ?_⟩
  refine hkw.sd A S σ H ρ _ _ R E h fun ds S1 A1 vs H1 g1 R1 hv q1 => ?_
  match ds, hv, q1 with
  | [a, b, c], hv, q1 =>
    obtain ⟨v, w', u, rfl, h1, h2, h3⟩ := hv.three
    exact ⟨A1, S1, [c, b, a], Q', R1, .cons h3 (.cons h2 (.cons h1 .nil)), rfl, q1, k.mono g1⟩
theorem d_callP3mid (F : FnOk X.prog X.w X.K X.mg X.base CX0 k f fd ps (spW G' 3 w)) (hr : Room k X.A) (hm : X.mg x = some (.ref f)) (hk : PySem.W.keepIn X.K (.ref f) = true) (hb : KBinds X.K fd ps ks (perm3V p3mid) (perm3V p3mid)) (hkw : PDK X kws tk wl) (hG : G' = X.G := by rfl) (hg : Gl X x := by rfl)
    (hall : (backToKw pos (keywordEach kws X.env)).all (·.1.isSome) = true := by rfl) (hks : (backToKw pos (keywordEach kws X.env)).filterMap (·.1) = ks := by rfl) (hdb : (x == ("__debug__" : Str)) = false := by decide)
    (hpl : ((backTo pos (starEach [] X.env)).any (·.1) || (backToKw pos (keywordEach kws X.env)).any (·.1.isNone)) = false := by rfl) :
    PD X (.Call (.Name x p) [] kws pos) (tCallK (spW G' 3 w) (perm3V p3mid) E0 tNil tk) (wCallP3 p3mid w wl) := by
  subst hG
  refine ⟨pe_callK0 F hr hg hm hk hb pass0 hkw.pe hall hks hdb hpl, fun A S σ H ρ Q Q' R E h k => ?_⟩
  refine hkw.sd A S σ H ρ _ _ R E h fun ds S1 A1 vs H1 g1 R1 hv q1 => ?_
  match ds, hv, q1 with
  | [a, b, c], hv, q1 =>
    obtain ⟨v, w', u, rfl, h1, h2, h3⟩ := hv.three
    exact ⟨A1, S1, [a, c, b], Q', R1, .cons h1 (.cons h3 (.cons h2 .nil)), rfl, q1, k.mono g1⟩
end
/-! ### states that only grow -/
/-- what stood stands; new lists may have come -/
def Ext (S S' : MS) : Prop := ∀ (j : Nat) (x : List D), S[j]? = some x → S'[j]? = some x
theorem Ext.refl {S : MS} : Ext S S := fun _ _ h => h
theorem Ext.trans {S S1 S2 : MS} (a : Ext S S1) (b : Ext S1 S2) : Ext S S2 := fun j x h => b j x (a j x h)
theorem Ext.app {S M : MS} : Ext S (S ++ M) := fun j x h => by rw [List.getElem?_append_left (List.getElem?_eq_some_iff.mp h).1]; exact h
theorem Ext.set {S S1 : MS} {m : Nat} {x : List D} (h : Ext S S1) (hm : S.length ≤ m) : Ext S (S1.set m x) := fun j y hj => by
  have hl := (List.getElem?_eq_some_iff.mp hj).1
  rw [List.getElem?_set_ne (by omega)]
  exact h j y hj
theorem new_at {S : MS} {x : List D} : (S ++ [x])[S.length]? = some x := by
  rw [List.getElem?_append_right (Nat.le_refl _), Nat.sub_self]
  rfl
theorem set_at {S : MS} {m : Nat} {x y : List D} (h : S[m]? = some y) : (S.set m x)[m]? = some x := by
  rw [List.getElem?_set_self (List.getElem?_eq_some_iff.mp h).1]
/-- all but the d-th list stays -/
def ExtB (d : Nat) (S S' : MS) : Prop := S.length ≤ S'.length ∧ ∀ (j : Nat) (x : List D), j ≠ d → S[j]? = some x → S'[j]? = some x
theorem ExtB.refl {d : Nat} {S : MS} : ExtB d S S := ⟨Nat.le_refl _, fun _ _ _ h => h⟩
theorem ExtB.trans {d : Nat} {S S1 S2 : MS} (a : ExtB d S S1) (b : ExtB d S1 S2) : ExtB d S S2 := ⟨Nat.le_trans a.1 b.1, fun j x n h => b.2 j x n (a.2 j x n h)⟩
theorem Ext.len {S S' : MS} (h : Ext S S') : S.length ≤ S'.length := by
  rcases Nat.eq_zero_or_pos S.length with z | z
  · omega
  · have hl : S.length - 1 < S.length := by omega
    have := (List.getElem?_eq_some_iff.mp (h (S.length - 1) _ (List.getElem?_eq_getElem hl))).1
    omega
theorem Ext.b {d : Nat} {S S' : MS} (h : Ext S S') : ExtB d S S' := ⟨h.len, fun j x _ e => h j x e⟩
theorem ExtB.set {d : Nat} {S S1 : MS} {m : Nat} {x : List D} (h : ExtB d S S1) (hm : S.length ≤ m) : ExtB d S (S1.set m x) := ⟨by rw [List.length_set]; exact h.1, fun j y n hj => by
  have hl := (List.getElem?_eq_some_iff.mp hj).1
  rw [List.getElem?_set_ne (by omega)]
  exact h.2 j y n hj⟩
theorem ExtB.setD {d : Nat} {S S1 : MS} {x : List D} (h : ExtB d S S1) : ExtB d S (S1.set d x) := ⟨by rw [List.length_set]; exact h.1, fun j y n hj => by
  rw [List.getElem?_set_ne (fun z => n z.symm)]
  exact h.2 j y n hj⟩
/-! ### turn by turn -/
theorem lcO_run {α : Type} {ok : MS → Prop} {step : D → MS → (MS → Prop) → Prop} {fin : MS → Prop} (f : α → D) (J : Nat → MS → Prop) : ∀ (xs : List α) (n : Nat), (∀ i S, J i S → ok S) → (∀ i x S nx, xs[i]? = some x → J (n + i) S → (∀ S', J (n + i + 1) S' → nx S') → step (f x) S nx) →
    (∀ S, J (n + xs.length) S → fin S) → ∀ S, J n S → lcO ok (xs.map f) step fin S
  | [], n, hok, _, hf, S, h => ⟨hok n S h, hf S h⟩
  | x :: xs, n, hok, hs, hf, S, h => ⟨hok n S h, hs 0 x S _ rfl h fun S' h' => lcO_run f J xs (n + 1) hok (fun i y S nx hy j k => hs (i + 1) y S nx (by simpa using hy) (by rw [show n + (i + 1) = n + 1 + i by omega]; exact j) (fun S' j' => k S' (by rw [show n + 1 + i + 1 = n + (i + 1) + 1 by omega]; exact j'))) (fun S j => hf S (by rw [List.length_cons, show n + (xs.length + 1) = n + 1 + xs.length by omega]; exact j)) S' h'⟩
theorem lcM_run {α : Type} {m0 : Nat} {all : List D} {step : D → MS → (MS → Prop) → Prop} {fin : MS → Prop} (f : α → D) (J : Nat → MS → Prop) : ∀ (xs : List α) (n : Nat), (∀ i S, J i S → S[m0]? = some all) → (∀ i x S nx, xs[i]? = some x → J (n + i) S → (∀ S', J (n + i + 1) S' → nx S') → step (f x) S nx) →
    (∀ S, J (n + xs.length) S → fin S) → ∀ S, J n S → lcM m0 all (xs.map f) step fin S
  | [], n, hok, _, hf, S, h => ⟨hok n S h, hf S h⟩
  | x :: xs, n, hok, hs, hf, S, h => ⟨hok n S h, hs 0 x S _ rfl h fun S' h' => lcM_run f J xs (n + 1) hok (fun i y S nx hy j k => hs (i + 1) y S nx (by simpa using hy) (by rw [show n + (i + 1) = n + 1 + i by omega]; exact j) (fun S' j' => k S' (by rw [show n + 1 + i + 1 = n + (i + 1) + 1 by omega]; exact j'))) (fun S j => hf S (by rw [List.length_cons, show n + (xs.length + 1) = n + 1 + xs.length by omega]; exact j)) S' h'⟩
theorem lcD_run {α : Type} {step : D → MS → (MS → Prop) → Prop} {fin : MS → Prop} (f : α → D) (J : Nat → MS → Prop) : ∀ (xs : List α) (n : Nat), (∀ i x S nx, xs[i]? = some x → J (n + i) S → (∀ S', J (n + i + 1) S' → nx S') → step (f x) S nx) →
    (∀ S, J (n + xs.length) S → fin S) → ∀ S, J n S → lcD (xs.map f) step fin S
  | [], n, _, hf, S, h => hf S h
  | x :: xs, n, hs, hf, S, h => hs 0 x S _ rfl h fun S' h' => lcD_run f J xs (n + 1) (fun i y S nx hy j k => hs (i + 1) y S nx (by simpa using hy) (by rw [show n + (i + 1) = n + 1 + i by omega]; exact j) (fun S' j' => k S' (by rw [show n + 1 + i + 1 = n + (i + 1) + 1 by omega]; exact j'))) (fun S j => hf S (by rw [List.length_cons, show n + (xs.length + 1) = n + 1 + xs.length by omega]; exact j)) S' h'
theorem forM_run {α : Type} {m0 : Nat} {all : List D} {step : D → DEnv → MS → (DEnv → MS → Prop) → Prop} {fin : DEnv → MS → Prop} (f : α → D) (J : Nat → DEnv → MS → Prop) : ∀ (xs : List α) (n : Nat), (∀ i ρ S, J i ρ S → S[m0]? = some all) → (∀ i x ρ S nx, xs[i]? = some x → J (n + i) ρ S → (∀ ρ' S', J (n + i + 1) ρ' S' → nx ρ' S') → step (f x) ρ S nx) →
    (∀ ρ S, J (n + xs.length) ρ S → fin ρ S) → ∀ ρ S, J n ρ S → forM m0 all (xs.map f) step fin ρ S
  | [], n, hok, _, hf, ρ, S, h => ⟨hok n ρ S h, hf ρ S h⟩
  | x :: xs, n, hok, hs, hf, ρ, S, h => ⟨hok n ρ S h, hs 0 x ρ S _ rfl h fun ρ' S' h' => forM_run f J xs (n + 1) hok (fun i y ρ S nx hy j k => hs (i + 1) y ρ S nx (by simpa using hy) (by rw [show n + (i + 1) = n + 1 + i by omega]; exact j) (fun ρ' S' j' => k ρ' S' (by rw [show n + 1 + i + 1 = n + (i + 1) + 1 by omega]; exact j'))) (fun ρ S j => hf ρ S (by rw [List.length_cons, show n + (xs.length + 1) = n + 1 + xs.length by omega]; exact j)) ρ' S' h'⟩
theorem forD_run {α : Type} {step : D → DEnv → MS → (DEnv → MS → Prop) → Prop} {fin : DEnv → MS → Prop} (f : α → D) (J : Nat → DEnv → MS → Prop) : ∀ (xs : List α) (n : Nat), (∀ i x ρ S nx, xs[i]? = some x → J (n + i) ρ S → (∀ ρ' S', J (n + i + 1) ρ' S' → nx ρ' S') → step (f x) ρ S nx) →
    (∀ ρ S, J (n + xs.length) ρ S → fin ρ S) → ∀ ρ S, J n ρ S → forD (xs.map f) step fin ρ S
  | [], n, _, hf, ρ, S, h => hf ρ S h
  | x :: xs, n, hs, hf, ρ, S, h => hs 0 x ρ S _ rfl h fun ρ' S' h' => forD_run f J xs (n + 1) (fun i y ρ S nx hy j k => hs (i + 1) y ρ S nx (by simpa using hy) (by rw [show n + (i + 1) = n + 1 + i by omega]; exact j) (fun ρ' S' j' => k ρ' S' (by rw [show n + 1 + i + 1 = n + (i + 1) + 1 by omega]; exact j'))) (fun ρ S j => hf ρ S (by rw [List.length_cons, show n + (xs.length + 1) = n + 1 + xs.length by omega]; exact j)) ρ' S' h'
/-- a list made item by item; what stood stands -/
def MapJ (S0 : MS) (m : Nat) (ys : List D) (i : Nat) (S : MS) : Prop := Ext S0 S ∧ S[m]? = some (ys.take i)
theorem MapJ.start {S : MS} {ys : List D} : MapJ S S.length ys 0 (S ++ [[]]) := ⟨Ext.app, by rw [List.take_zero]; exact new_at⟩
theorem map_next {S0 S S4 : MS} {m i : Nat} {ys : List D} {y : D} {nx : MS → Prop} (hm : S0.length ≤ m) (hJ : MapJ S0 m ys i S) (e : Ext S S4) (hy : ys[i]? = some y) (hl : ys.length ≤ sizeLine) (hn : ∀ S', MapJ S0 m ys (i + 1) S' → nx S') :
    ∃ acc, S4[m]? = some acc ∧ acc.length < sizeLine ∧ nx (S4.set m (acc ++ [y])) := by
  have hi := (List.getElem?_eq_some_iff.mp hy).1
  refine ⟨_, e _ _ hJ.2, by rw [List.length_take]; omega, hn _ ⟨(hJ.1.trans e).set hm, ?_⟩⟩
  rw [set_at (e _ _ hJ.2), List.take_add_one, hy]
  rfl
theorem MapJ.fin {S0 S : MS} {m : Nat} {ys : List D} {n : Nat} (h : MapJ S0 m ys n S) (e : ys.length = n) : Ext S0 S ∧ S[m]? = some ys := ⟨h.1, by rw [h.2, ← e, List.take_length]⟩
/-- the same while the d-th list changes -/
def MapB (d : Nat) (S0 : MS) (m : Nat) (ys : List D) (i : Nat) (S : MS) : Prop := ExtB d S0 S ∧ S[m]? = some (ys.take i)
theorem enum_map {α : Type} (f : α → D) : ∀ (xs : List α) (k : Nat), enumD k (xs.map f) = (xs.zipIdx k).map fun p => D.tup [.int (p.2 : Nat), f p.1]
  | [], _ => rfl
  | x :: xs, k => by
    show D.tup [.int k, f x] :: enumD (k + 1) (xs.map f) = _
    rw [enum_map f xs (k + 1), List.zipIdx_cons, List.map_cons]
theorem zip_map {α β : Type} (f : α → D) (g : β → D) (xs : List α) (ys : List β) : zipD (xs.map f) (ys.map g) = (xs.zip ys).map fun p => D.tup [f p.1, g p.2] := by
  unfold zipD
  rw [List.zipWith_map, List.zip, List.map_zipWith]
theorem zip3_map {α β γ : Type} (f : α → D) (g : β → D) (h : γ → D) (xs : List α) (ys : List β) (zs : List γ) : zip3D (xs.map f) (ys.map g) (zs.map h) = (xs.zip (ys.zip zs)).map fun p => D.tup [f p.1, g p.2.1, h p.2.2] := by
  unfold zip3D
  rw [List.zip_map, List.zipWith_map]
  generalize ys.zip zs = q
  rw [List.zip, List.map_zipWith]
  rfl
end DL

set_option Elab.async false
set_option linter.all false
set_option maxRecDepth 100000
/-! Rules for pieces within a comprehension: their terms do not name the inner frame. -/
namespace DL
open PySem PySem.Spec PyProof.Rows L2
section
variable {X : Cx} {G' : MG} {k n : Nat} {f C : Addr} {fd : FuncData} {ps : List Str} {w : WF} {x c : Str} {p pos : Pos} {e o a b : Expr} {es : List Expr} {t : TA} {wl : WL} {te ta tb : TE} {we wa wb : WD}
theorem d_ixC (ha : PD X a ta wa) (hb : PD X b tb wb) (hG : G' = X.G := by rfl) (hs : PlainIx b := by intro _ _; rfl) : PD X (.Subscript a b pos) (tOp (rIx G'.K) ta tb) (wOp oIx wa wb) := by
  subst hG
  exact d_ix ha hb hs
theorem d_propC {f' : Str} {pa g : Addr} (he : PD X e te we) (hC : X.mg c = some (.ref C)) (cl : Cls X.K C) (hp : PropOf X.K C f' pa g) (F : FnOk X.prog X.w X.K X.mg X.base CX0 k g fd ps (spW G' 1 w)) (hr : Room (k + 1) X.A) (hb : Binds X.K fd ps []) (hG : G' = X.G := by rfl)
    (hab : attributeBase e f' X.env (eval e X.env) = eval e X.env := by rfl) : PD X (.Attribute e f' pos) (tProp C (spW G' 1 w) [] E0 te) (wProp c w we) := by
  subst hG
  exact d_prop he hC cl hp F hr hb hab
theorem d_makeC {wi : WI} {dvs : List V} {ds : List Value} {dds : List D} (M : Mk X.K C f) (F : FnOk X.prog X.w X.K X.mg X.base CX0 k f fd ps (spInit G' x n wi)) (hr : Room (k + 1) X.A) (hm : X.mg x = some (.ref C)) (hb : Binds X.K fd ps ds) (hd : Vals dvs ds) (hdd : ∀ A H, IsL G' A H dvs dds)
    (ha : PDA X (e :: es) t wl) (hG : G' = X.G := by rfl) (hg : Gl X x := by rfl) (hdb : (x == ("__debug__" : Str)) = false := by decide) (he : starEach (e :: es) X.env = (false, eval e X.env) :: starEach es X.env := by rfl) (hpl : (backTo pos (starEach es X.env)).any (·.1) = false := by rfl) :
    PD X (.Call (.Name x p) (e :: es) [] pos) (tMake C (spInit G' x n wi) dvs E0 t) (wMake x n wi dds wl) := by
  subst hG
  exact d_make M F hr hm hb hd hdd ha hg hdb he hpl
end
end DL

set_option Elab.async false
set_option linter.all false
set_option maxRecDepth 100000
/-! name = [..] on one line: the name is stored within the comprehension's own run. -/
namespace DL
open PySem PySem.Spec PyProof.Rows L2
structure PLC (X : Cx) (e : Expr) (t : TE) (w : WD) : Prop where
  pd : PD X e t w
  ps : ∀ {i : Nat} {y : Str} {py spos : Pos}, X.N.Nodup → X.N[i]? = some y → X.env.scope.names.lookup y = some .local → swapsWith e (some (.Name y py)) spos.line X.env = pure true → PS X (.Assign [.Name y py] e spos) (tAsg t (gName i))
theorem ds_setL {X : Cx} {e : Expr} {te : TE} {we : WD} {i : Nat} {y : Str} {py pos : Pos} (hN : X.N.Nodup) (he : PLC X e te we) (hi : X.N[i]? = some y := by rfl) (hy : X.env.scope.names.lookup y = some .local := by rfl) (hs : swapsWith e (some (.Name y py)) pos.line X.env = pure true := by exact sw_true rfl rfl rfl (by decide +kernel)) :
    PDS X (.Assign [.Name y py] e pos) (tAsg te (gName i)) (sAsg we (gwName i)) := by
  refine ⟨he.ps hN hi hy hs, fun A S σ H ρ D D' R E h k => ?_⟩
  exact he.pd.sd A S σ H ρ _ _ R E h fun d S1 A1 v H1 g1 R1 hv q1 => sndg_name A1 S1 σ H1 ρ v d _ _ R1 (E.mono g1) hv q1 (k.nx.mono g1)
section
variable {X : Cx} {elt tg iter : Expr} {elts : List Expr} {kk : Nat} {ifs : List Expr} {scope : Scope} {own : List (Str × Nat)} {pos pos2 p tpos : Pos} {g : TG} {wg : WG} {tt : TT} {wt : WB} {te : TE} {we : WD}
theorem p_lcZ3 {a a2 a3 : Expr} {ta : TA} {wa : WL} (hc : X.calm = true) (hN : X.N.Nodup) (hm : X.mg "zip" = none) (ha : PDA X [a, a2, a3] ta wa) (ok : BlkOk X.N X.env.scope scope own) (go : GOwn (own.map (·.2)) g)
    (hg : ∀ (s : Shared) (H : Hp) (C : Addr) (cl : List (Str × Addr)) (fp : List Addr), PDG (X.blk s H scope (compEnvC scope cl C X.env) fp) (.Tuple elts kk tpos) g wg) (ht : ∀ (s : Shared) (H : Hp) (C : Addr) (cl : List (Str × Addr)) (fp : List Addr), PDTs (X.blk s H scope (compEnvC scope cl C X.env) fp) ifs tt wt)
    (he : ∀ (s : Shared) (H : Hp) (C : Addr) (cl : List (Str × Addr)) (fp : List Addr), PD (X.blk s H scope (compEnvC scope cl C X.env) fp) elt te we) (hgl : Gl X "zip" := by rfl) (hst : starEach [a, a2, a3] X.env = (false, eval a X.env) :: starEach [a2, a3] X.env := by rfl) (hpl : (backTo pos2 (starEach [a2, a3] X.env)).any (·.1) = false := by rfl) (hs : ∀ x, foldedSetIterable (.Call (.Name "zip" p) [a, a2, a3] [] pos2) X.env x = pure x := by intro _; rfl) :
    PLC X (.ListComp elt [⟨.Tuple elts kk tpos, .Call (.Name "zip" p) [a, a2, a3] [] pos2, ifs, 0⟩] scope pos) (tLc (iZip3 X.K ta) g tt te (own.map (·.2))) (wLcZ3 wa (own.map (·.2)) wg wt we) := ⟨d_lcZ3 hc hN hm ha ok go hg ht he hgl hst hpl hs, fun hN hy hyl hsw => ps_setLc hc hN hy hyl hsw (pi_zip3 hgl hm ha.pe hst hpl) ok (fun s H C cl fp => (hg s H C cl fp).pe) (fun s H C cl fp => (ht s H C cl fp).pe) (fun s H C cl fp => (he s H C cl fp).pe) hs⟩
theorem p_lcZ {a a2 : Expr} {ta : TA} {wa : WL} (hc : X.calm = true) (hN : X.N.Nodup) (hm : X.mg "zip" = none) (ha : PDA X [a, a2] ta wa) (ok : BlkOk X.N X.env.scope scope own) (go : GOwn (own.map (·.2)) g)
    (hg : ∀ (s : Shared) (H : Hp) (C : Addr) (cl : List (Str × Addr)) (fp : List Addr), PDG (X.blk s H scope (compEnvC scope cl C X.env) fp) (.Tuple elts kk tpos) g wg) (ht : ∀ (s : Shared) (H : Hp) (C : Addr) (cl : List (Str × Addr)) (fp : List Addr), PDTs (X.blk s H scope (compEnvC scope cl C X.env) fp) ifs tt wt)
    (he : ∀ (s : Shared) (H : Hp) (C : Addr) (cl : List (Str × Addr)) (fp : List Addr), PD (X.blk s H scope (compEnvC scope cl C X.env) fp) elt te we) (hgl : Gl X "zip" := by rfl) (hst : starEach [a, a2] X.env = (false, eval a X.env) :: starEach [a2] X.env := by rfl) (hpl : (backTo pos2 (starEach [a2] X.env)).any (·.1) = false := by rfl) (hs : ∀ x, foldedSetIterable (.Call (.Name "zip" p) [a, a2] [] pos2) X.env x = pure x := by intro _; rfl) :
    PLC X (.ListComp elt [⟨.Tuple elts kk tpos, .Call (.Name "zip" p) [a, a2] [] pos2, ifs, 0⟩] scope pos) (tLc (iZip X.K ta) g tt te (own.map (·.2))) (wLcZ wa (own.map (·.2)) wg wt we) := ⟨d_lcZ hc hN hm ha ok go hg ht he hgl hst hpl hs, fun hN hy hyl hsw => ps_setLc hc hN hy hyl hsw (pi_zip hgl hm ha.pe hst hpl) ok (fun s H C cl fp => (hg s H C cl fp).pe) (fun s H C cl fp => (ht s H C cl fp).pe) (fun s H C cl fp => (he s H C cl fp).pe) hs⟩
theorem p_lcE {a : Expr} {ta : TA} {wa : WL} (hc : X.calm = true) (hN : X.N.Nodup) (hm : X.mg "enumerate" = none) (ha : PDA X [a] ta wa) (ok : BlkOk X.N X.env.scope scope own) (go : GOwn (own.map (·.2)) g)
    (hg : ∀ (s : Shared) (H : Hp) (C : Addr) (cl : List (Str × Addr)) (fp : List Addr), PDG (X.blk s H scope (compEnvC scope cl C X.env) fp) (.Tuple elts kk tpos) g wg) (ht : ∀ (s : Shared) (H : Hp) (C : Addr) (cl : List (Str × Addr)) (fp : List Addr), PDTs (X.blk s H scope (compEnvC scope cl C X.env) fp) ifs tt wt)
    (he : ∀ (s : Shared) (H : Hp) (C : Addr) (cl : List (Str × Addr)) (fp : List Addr), PD (X.blk s H scope (compEnvC scope cl C X.env) fp) elt te we) (hgl : Gl X "enumerate" := by rfl) (hst : starEach [a] X.env = [(false, eval a X.env)] := by rfl) (hs : ∀ x, foldedSetIterable (.Call (.Name "enumerate" p) [a] [] pos2) X.env x = pure x := by intro _; rfl) :
    PLC X (.ListComp elt [⟨.Tuple elts kk tpos, .Call (.Name "enumerate" p) [a] [] pos2, ifs, 0⟩] scope pos) (tLc (iEnum X.K ta) g tt te (own.map (·.2))) (wLcE wa (own.map (·.2)) wg wt we) := ⟨d_lcE hc hN hm ha ok go hg ht he hgl hst hs, fun hN hy hyl hsw => ps_setLc hc hN hy hyl hsw (pi_enum hgl hm ha.pe hst) ok (fun s H C cl fp => (hg s H C cl fp).pe) (fun s H C cl fp => (ht s H C cl fp).pe) (fun s H C cl fp => (he s H C cl fp).pe) hs⟩
theorem p_lcR {a : Expr} {p pos2 : Pos} {ta : TA} {wa : WL} (hc : X.calm = true) (hN : X.N.Nodup) (hm : X.mg "range" = none) (ha : PDA X [a] ta wa) (ok : BlkOk X.N X.env.scope scope own) (go : GOwn (own.map (·.2)) g)
    (hg : ∀ (s : Shared) (H : Hp) (C : Addr) (cl : List (Str × Addr)) (fp : List Addr), PDG (X.blk s H scope (compEnvC scope cl C X.env) fp) tg g wg) (ht : ∀ (s : Shared) (H : Hp) (C : Addr) (cl : List (Str × Addr)) (fp : List Addr), PDTs (X.blk s H scope (compEnvC scope cl C X.env) fp) ifs tt wt)
    (he : ∀ (s : Shared) (H : Hp) (C : Addr) (cl : List (Str × Addr)) (fp : List Addr), PD (X.blk s H scope (compEnvC scope cl C X.env) fp) elt te we) (hgl : Gl X "range" := by rfl) (hst : starEach [a] X.env = [(false, eval a X.env)] := by rfl) (hs : ∀ x, foldedSetIterable (.Call (.Name "range" p) [a] [] pos2) X.env x = pure x := by intro _; rfl) :
    PLC X (.ListComp elt [⟨tg, .Call (.Name "range" p) [a] [] pos2, ifs, 0⟩] scope pos) (tLc (iRng1 ta) g tt te (own.map (·.2))) (wLcR wa (own.map (·.2)) wg wt we) := ⟨d_lcR hc hN hm ha ok go hg ht he hgl hst hs, fun hN hy hyl hsw => ps_setLc hc hN hy hyl hsw (pi_range1 hgl hm ha.pe hst) ok (fun s H C cl fp => (hg s H C cl fp).pe) (fun s H C cl fp => (ht s H C cl fp).pe) (fun s H C cl fp => (he s H C cl fp).pe) hs⟩
theorem p_lc {ti : TE} {wi : WD} (hc : X.calm = true) (hN : X.N.Nodup) (hi : PD X iter ti wi) (ok : BlkOk X.N X.env.scope scope own) (go : GOwn (own.map (·.2)) g)
    (hg : ∀ (s : Shared) (H : Hp) (C : Addr) (cl : List (Str × Addr)) (fp : List Addr), PDG (X.blk s H scope (compEnvC scope cl C X.env) fp) tg g wg) (ht : ∀ (s : Shared) (H : Hp) (C : Addr) (cl : List (Str × Addr)) (fp : List Addr), PDTs (X.blk s H scope (compEnvC scope cl C X.env) fp) ifs tt wt)
    (he : ∀ (s : Shared) (H : Hp) (C : Addr) (cl : List (Str × Addr)) (fp : List Addr), PD (X.blk s H scope (compEnvC scope cl C X.env) fp) elt te we) (hs : ∀ x, foldedSetIterable iter X.env x = pure x := by intro _; rfl) :
    PLC X (.ListComp elt [⟨tg, iter, ifs, 0⟩] scope pos) (tLc (iList X.K ti) g tt te (own.map (·.2))) (wLc wi (own.map (·.2)) wg wt we) := ⟨d_lc hc hN hi ok go hg ht he hs, fun hN hy hyl hsw => ps_setLc hc hN hy hyl hsw (pi_list hi.pe) ok (fun s H C cl fp => (hg s H C cl fp).pe) (fun s H C cl fp => (ht s H C cl fp).pe) (fun s H C cl fp => (he s H C cl fp).pe) hs⟩
theorem p_lcT {ti : TE} {wi : WD} (hc : X.calm = true) (hN : X.N.Nodup) (hi : PD X iter ti wi) (ok : BlkOk X.N X.env.scope scope own) (go : GOwn (own.map (·.2)) g)
    (hg : ∀ (s : Shared) (H : Hp) (C : Addr) (cl : List (Str × Addr)) (fp : List Addr), PDG (X.blk s H scope (compEnvC scope cl C X.env) fp) tg g wg) (ht : ∀ (s : Shared) (H : Hp) (C : Addr) (cl : List (Str × Addr)) (fp : List Addr), PDTs (X.blk s H scope (compEnvC scope cl C X.env) fp) ifs tt wt)
    (he : ∀ (s : Shared) (H : Hp) (C : Addr) (cl : List (Str × Addr)) (fp : List Addr), PD (X.blk s H scope (compEnvC scope cl C X.env) fp) elt te we) (hs : ∀ x, foldedSetIterable iter X.env x = pure x := by intro _; rfl) :
    PLC X (.ListComp elt [⟨tg, iter, ifs, 0⟩] scope pos) (tLc (iTup X.K ti) g tt te (own.map (·.2))) (wLcT wi (own.map (·.2)) wg wt we) := ⟨d_lcT hc hN hi ok go hg ht he hs, fun hN hy hyl hsw => ps_setLc hc hN hy hyl hsw (pi_tup hi.pe) ok (fun s H C cl fp => (hg s H C cl fp).pe) (fun s H C cl fp => (ht s H C cl fp).pe) (fun s H C cl fp => (he s H C cl fp).pe) hs⟩
end
end DL

set_option Elab.async false
set_option linter.all false
set_option maxRecDepth 100000
/-! A body's rest kept aside. -/
namespace DL
open PySem PySem.Spec PyProof.Rows L2
theorem seqG {t u : WS} {DD : DEnds} {ρ : DEnv} {S : MS} (h : ∀ R, R = u → sSeq t R DD ρ S) : sSeq t u DD ρ S := h u rfl
end DL

set_option Elab.async false
set_option linter.all false
set_option maxRecDepth 100000
set_option maxHeartbeats 0
namespace K1
open PySem PySem.Spec PyProof.Rows L2 DL
def topS (i : Nat) : Stmt := PySem.Challenge.pw_loopbounds_k46_rows_by_their_levels.main.body.getD i (.Pass ⟨0, 0, 0, 0⟩)
abbrev s_is_int : Stmt := topS 9
abbrev s_is_int_within : Stmt := topS 10
abbrev s_is_number : Stmt := topS 15
abbrev s_as_ratio : Stmt := topS 16
abbrev s_raised : Stmt := topS 17
abbrev s_common_bottom : Stmt := topS 18
abbrev s_is_base : Stmt := topS 24
abbrev s_check_bases : Stmt := topS 25
abbrev s_check_row : Stmt := topS 26
abbrev s_check_place : Stmt := topS 27
abbrev s_whole_bases : Stmt := topS 28
abbrev s_scaled : Stmt := topS 29
abbrev s_whole_values : Stmt := topS 30
abbrev s_first_levels : Stmt := topS 31
abbrev s_next_levels : Stmt := topS 32
abbrev s_whole_levels : Stmt := topS 33
abbrev s_ratios_of : Stmt := topS 34
abbrev s_bottom_at : Stmt := topS 35
abbrev s_value_at : Stmt := topS 36
abbrev s_levels_at : Stmt := topS 37
abbrev s__law_purse : Stmt := topS 39
abbrev s__law_take : Stmt := topS 40
abbrev s__law_made : Stmt := topS 41
abbrev s__law_add : Stmt := topS 42
abbrev s__law_sub : Stmt := topS 43
abbrev s__law_mul : Stmt := topS 44
abbrev s__law_number : Stmt := topS 45
abbrev s__law_pair : Stmt := topS 46
abbrev s__law_levels : Stmt := topS 47
abbrev s__law_next : Stmt := topS 48
abbrev s__law_drawn_bases : Stmt := topS 49
abbrev s__law_drawn_values : Stmt := topS 50
abbrev s__law_right : Stmt := topS 51
abbrev s_law : Stmt := topS 52
abbrev s_R_top : Stmt := inClass (topS 21) 2
abbrev s_R_bottom : Stmt := inClass (topS 21) 3
abbrev s_R_excess : Stmt := inClass (topS 21) 19
abbrev s_R_lt : Stmt := inClass (topS 21) 20
abbrev s_R_le : Stmt := inClass (topS 21) 21
abbrev s_R_gt : Stmt := inClass (topS 21) 22
abbrev s_R_init : Stmt := inClass (topS 21) 0
/-! ### numbers -/
def gc (t b : Int) : Int := ((Nat.gcd t.natAbs b.natAbs : Nat) : Int)
def mkR (t b : Int) : Int × Int := (t.fdiv (gc t b), b.fdiv (gc t b))
def rt (p : Int × Int) : D := .ins "Ratio" [("_top", .int p.1), ("_bottom", .int p.2)]
/-- a number's value: an int, or a ratio as it stands -/
def numD : D → Option (Int × Int)
  | .int i => some (i, 1)
  | .ins c [(f, .int t), (g, .int b)] => if c = "Ratio" ∧ f = "_top" ∧ g = "_bottom" then some (t, b) else none
  | _ => none
theorem numD_int (i : Int) : numD (.int i) = some (i, 1) := rfl
theorem numD_ins (t b : Int) : numD (.ins "Ratio" [("_top", .int t), ("_bottom", .int b)]) = some (t, b) := by
  show (if ("Ratio" : Str) = "Ratio" ∧ ("_top" : Str) = "_top" ∧ ("_bottom" : Str) = "_bottom" then some (t, b) else none) = some (t, b)
  exact if_pos ⟨rfl, rfl, rfl⟩
theorem numD_cases {x : D} {p : Int × Int} (h : numD x = some p) : (∃ i, x = .int i ∧ p = (i, 1)) ∨ x = rt p := by
  unfold numD at h
  split at h
  · cases h; exact .inl ⟨_, rfl, rfl⟩
  · split at h
    · rename_i e
      obtain ⟨rfl, rfl, rfl⟩ := e
      cases h
      exact .inr rfl
    · cases h
  · cases h
theorem num_in {x : D} {p : Int × Int} (h : numD x = some p) : (∃ i, x = .int i ∧ p = (i, 1)) ∨ ∃ t b, x = .ins "Ratio" [("_top", .int t), ("_bottom", .int b)] ∧ p = (t, b) := by
  rcases numD_cases h with h | h
  · exact .inl h
  · exact .inr ⟨p.1, p.2, h, rfl⟩
def Sz (n : Nat) (p : Int × Int) : Prop := 0 < p.2 ∧ p.1.natAbs < 2 ^ n ∧ p.2.natAbs < 2 ^ n
def kt : TyK → TyK → Option Bool
  | .ty a, .ty b => kitB a b
  | .cls c, .cls d => if c = "Ratio" ∧ d = "Ratio" then some true else none
  | .ty a, .cls d => if (a = "int" ∨ a = "bool" ∨ a = "str" ∨ a = "NoneType" ∨ a = "tuple" ∨ a = "list" ∨ a = "dict") ∧ d = "Ratio" then some false else none
  | .cls c, .ty b => if c = "Ratio" ∧ (b = "int" ∨ b = "bool" ∨ b = "str") then some false else none
theorem kt_ii : kt (.ty "int") (.ty "int") = some true := by decide +kernel
theorem kt_ib : kt (.ty "int") (.ty "bool") = some false := by decide +kernel
theorem kt_rr : kt (.cls "Ratio") (.cls "Ratio") = some true := by decide +kernel
theorem kt_ir : kt (.ty "int") (.cls "Ratio") = some false := by decide +kernel
theorem kt_ri : kt (.cls "Ratio") (.ty "int") = some false := by decide +kernel
theorem kt_rb : kt (.cls "Ratio") (.ty "bool") = some false := by decide +kernel
theorem kt_ni : kt (.ty "NoneType") (.ty "int") = some false := by decide +kernel
theorem kt_bi : kt (.ty "bool") (.ty "int") = some true := by decide +kernel
theorem kt_bb : kt (.ty "bool") (.ty "bool") = some true := by decide +kernel
theorem kt_si : kt (.ty "str") (.ty "int") = some false := by decide +kernel
theorem kt_ti : kt (.ty "tuple") (.ty "int") = some false := by decide +kernel
theorem kt_li : kt (.ty "list") (.ty "int") = some false := by decide +kernel
theorem kt_di : kt (.ty "dict") (.ty "int") = some false := by decide +kernel
theorem kt_nr : kt (.ty "NoneType") (.cls "Ratio") = some false := by decide +kernel
theorem kt_br : kt (.ty "bool") (.cls "Ratio") = some false := by decide +kernel
theorem kt_sr : kt (.ty "str") (.cls "Ratio") = some false := by decide +kernel
theorem kt_tr : kt (.ty "tuple") (.cls "Ratio") = some false := by decide +kernel
theorem kt_lr : kt (.ty "list") (.cls "Ratio") = some false := by decide +kernel
theorem kt_dr : kt (.ty "dict") (.cls "Ratio") = some false := by decide +kernel
def tysN : List String := ["NoneType", "bool", "str", "tuple", "list", "dict"]
/-- what is no number -/
def NotN (x : D) : Prop := ∃ T, T ∈ tysN ∧ tyOf x = some (.ty T)
theorem notN_cases {x : D} (h : NotN x) : x = .non ∨ (∃ b, x = .bl b) ∨ (∃ z, x = .str z) ∨ (∃ l, x = .tup l) ∨ (∃ l, x = .lst l) ∨ (∃ m, x = .mut m) ∨ ∃ l, x = .dct l := by
  obtain ⟨T, hT, e⟩ := h
  cases x with
  | non => exact .inl rfl
  | bl b => exact .inr (.inl ⟨b, rfl⟩)
  | str z => exact .inr (.inr (.inl ⟨z, rfl⟩))
  | tup l => exact .inr (.inr (.inr (.inl ⟨l, rfl⟩)))
  | lst l => exact .inr (.inr (.inr (.inr (.inl ⟨l, rfl⟩))))
  | «mut» m => exact .inr (.inr (.inr (.inr (.inr (.inl ⟨m, rfl⟩)))))
  | dct l => exact .inr (.inr (.inr (.inr (.inr (.inr ⟨l, rfl⟩)))))
  | int i => cases e; exact absurd hT (by decide)
  | ins c fs => cases e
  | _ => cases e
theorem if_t1 {A B : Prop} : (if true = true then A else B) = A := if_pos rfl
theorem if_f1 {A B : Prop} : (if false = true then A else B) = B := if_neg Bool.false_ne_true

theorem kt_tt : kt (.ty "tuple") (.ty "tuple") = some true := by decide +kernel
structure Tx (K : PySem.W.Frag) (mg : Str → Option Value) where
  C : Addr
  f_R_init : Addr
  fd_R_init : FuncData
  ds_R_init1 : List Value
  F_R_init : FunD K "__init__" "Ratio.__init__" (defArgs s_R_init) (defBody s_R_init) (defScope s_R_init) [.int 1] [] f_R_init fd_R_init
  b_R_init1 : Binds K fd_R_init ["self", "top", "bottom"] ds_R_init1
  v_R_init1 : Vals [.int 1] ds_R_init1
  b_R_init2 : Binds K fd_R_init ["self", "top", "bottom"] []
  v_R_init2 : Vals [] []
  g_Ratio : mg "Ratio" = some (.ref C)
  cl : Cls K C
  na_top : NoAttr K C "_top"
  na_bottom : NoAttr K C "_bottom"
  own : OwnC K C
  mkk : Mk K C f_R_init
  isi : IsiT K ⟨K, mg⟩ kt
  g_gcd : mg "gcd" = some (.builtin "math.gcd")
  g_lcm : mg "lcm" = some (.builtin "math.lcm")
  tk_ROUNDS : Tok
  g_ROUNDS : mg "ROUNDS" = some (.int 1000 tk_ROUNDS)
  tk_BASES : Tok
  g_BASES : mg "BASES" = some (.int 12 tk_BASES)
  tk_MOST_BASE : Tok
  g_MOST_BASE : mg "MOST_BASE" = some (.int 1000000000000 tk_MOST_BASE)
  z_isinstance : mg "isinstance" = none
  z_int : mg "int" = none
  z_bool : mg "bool" = none
  z_abs : mg "abs" = none
  z_len : mg "len" = none
  z_max : mg "max" = none
  z_min : mg "min" = none
  z_all : mg "all" = none
  z_range : mg "range" = none
  z_enumerate : mg "enumerate" = none
  z_zip : mg "zip" = none
  z_list : mg "list" = none
  z_tuple : mg "tuple" = none
  f_is_int : Addr
  fd_is_int : FuncData
  F_is_int : Fun K "is_int" "is_int" s_is_int f_is_int fd_is_int
  b_is_int : Binds K fd_is_int ["value"] []
  m_is_int : mg "is_int" = some (.ref f_is_int)
  f_is_int_within : Addr
  fd_is_int_within : FuncData
  F_is_int_within : Fun K "is_int_within" "is_int_within" s_is_int_within f_is_int_within fd_is_int_within
  b_is_int_within : Binds K fd_is_int_within ["value", "least", "most"] []
  m_is_int_within : mg "is_int_within" = some (.ref f_is_int_within)
  f_is_number : Addr
  fd_is_number : FuncData
  F_is_number : Fun K "is_number" "is_number" s_is_number f_is_number fd_is_number
  b_is_number : Binds K fd_is_number ["value"] []
  m_is_number : mg "is_number" = some (.ref f_is_number)
  f_as_ratio : Addr
  fd_as_ratio : FuncData
  F_as_ratio : Fun K "as_ratio" "as_ratio" s_as_ratio f_as_ratio fd_as_ratio
  b_as_ratio : Binds K fd_as_ratio ["number"] []
  m_as_ratio : mg "as_ratio" = some (.ref f_as_ratio)
  f_raised : Addr
  fd_raised : FuncData
  F_raised : Fun K "raised" "raised" s_raised f_raised fd_raised
  b_raised : Binds K fd_raised ["number", "exponent"] []
  m_raised : mg "raised" = some (.ref f_raised)
  f_common_bottom : Addr
  fd_common_bottom : FuncData
  F_common_bottom : Fun K "common_bottom" "common_bottom" s_common_bottom f_common_bottom fd_common_bottom
  b_common_bottom : Binds K fd_common_bottom ["ratios"] []
  m_common_bottom : mg "common_bottom" = some (.ref f_common_bottom)
  f_is_base : Addr
  fd_is_base : FuncData
  F_is_base : Fun K "is_base" "is_base" s_is_base f_is_base fd_is_base
  b_is_base : Binds K fd_is_base ["value"] []
  m_is_base : mg "is_base" = some (.ref f_is_base)
  f_check_bases : Addr
  fd_check_bases : FuncData
  F_check_bases : Fun K "check_bases" "check_bases" s_check_bases f_check_bases fd_check_bases
  b_check_bases : Binds K fd_check_bases ["bases"] []
  m_check_bases : mg "check_bases" = some (.ref f_check_bases)
  f_check_row : Addr
  fd_check_row : FuncData
  F_check_row : Fun K "check_row" "check_row" s_check_row f_check_row fd_check_row
  b_check_row : Binds K fd_check_row ["bases", "values"] []
  m_check_row : mg "check_row" = some (.ref f_check_row)
  f_check_place : Addr
  fd_check_place : FuncData
  F_check_place : Fun K "check_place" "check_place" s_check_place f_check_place fd_check_place
  b_check_place : Binds K fd_check_place ["place"] []
  m_check_place : mg "check_place" = some (.ref f_check_place)
  f_whole_bases : Addr
  fd_whole_bases : FuncData
  F_whole_bases : Fun K "whole_bases" "whole_bases" s_whole_bases f_whole_bases fd_whole_bases
  b_whole_bases : Binds K fd_whole_bases ["bases"] []
  m_whole_bases : mg "whole_bases" = some (.ref f_whole_bases)
  f_scaled : Addr
  fd_scaled : FuncData
  F_scaled : Fun K "scaled" "scaled" s_scaled f_scaled fd_scaled
  b_scaled : Binds K fd_scaled ["values", "bottom", "step"] []
  m_scaled : mg "scaled" = some (.ref f_scaled)
  f_whole_values : Addr
  fd_whole_values : FuncData
  F_whole_values : Fun K "whole_values" "whole_values" s_whole_values f_whole_values fd_whole_values
  b_whole_values : Binds K fd_whole_values ["bases", "values"] []
  m_whole_values : mg "whole_values" = some (.ref f_whole_values)
  f_first_levels : Addr
  fd_first_levels : FuncData
  F_first_levels : Fun K "first_levels" "first_levels" s_first_levels f_first_levels fd_first_levels
  b_first_levels : Binds K fd_first_levels ["bases", "values"] []
  m_first_levels : mg "first_levels" = some (.ref f_first_levels)
  f_next_levels : Addr
  fd_next_levels : FuncData
  F_next_levels : Fun K "next_levels" "next_levels" s_next_levels f_next_levels fd_next_levels
  b_next_levels : Binds K fd_next_levels ["bases", "levels"] []
  m_next_levels : mg "next_levels" = some (.ref f_next_levels)
  f_whole_levels : Addr
  fd_whole_levels : FuncData
  F_whole_levels : Fun K "whole_levels" "whole_levels" s_whole_levels f_whole_levels fd_whole_levels
  b_whole_levels : Binds K fd_whole_levels ["bases", "values", "place"] []
  m_whole_levels : mg "whole_levels" = some (.ref f_whole_levels)
  f_ratios_of : Addr
  fd_ratios_of : FuncData
  F_ratios_of : Fun K "ratios_of" "ratios_of" s_ratios_of f_ratios_of fd_ratios_of
  b_ratios_of : Binds K fd_ratios_of ["numbers"] []
  m_ratios_of : mg "ratios_of" = some (.ref f_ratios_of)
  f_bottom_at : Addr
  fd_bottom_at : FuncData
  F_bottom_at : Fun K "bottom_at" "bottom_at" s_bottom_at f_bottom_at fd_bottom_at
  b_bottom_at : Binds K fd_bottom_at ["bases", "values", "place"] []
  m_bottom_at : mg "bottom_at" = some (.ref f_bottom_at)
  f_value_at : Addr
  fd_value_at : FuncData
  F_value_at : Fun K "value_at" "value_at" s_value_at f_value_at fd_value_at
  b_value_at : Binds K fd_value_at ["bases", "values", "place"] []
  m_value_at : mg "value_at" = some (.ref f_value_at)
  f_levels_at : Addr
  fd_levels_at : FuncData
  F_levels_at : Fun K "levels_at" "levels_at" s_levels_at f_levels_at fd_levels_at
  b_levels_at : Binds K fd_levels_at ["bases", "values", "place"] []
  m_levels_at : mg "levels_at" = some (.ref f_levels_at)
  f__law_purse : Addr
  fd__law_purse : FuncData
  F__law_purse : Fun K "_law_purse" "_law_purse" s__law_purse f__law_purse fd__law_purse
  b__law_purse : Binds K fd__law_purse ["cells", "at"] []
  m__law_purse : mg "_law_purse" = some (.ref f__law_purse)
  f__law_take : Addr
  fd__law_take : FuncData
  F__law_take : Fun K "_law_take" "_law_take" s__law_take f__law_take fd__law_take
  b__law_take : Binds K fd__law_take ["draws", "many"] []
  m__law_take : mg "_law_take" = some (.ref f__law_take)
  f__law_made : Addr
  fd__law_made : FuncData
  F__law_made : Fun K "_law_made" "_law_made" s__law_made f__law_made fd__law_made
  b__law_made : Binds K fd__law_made ["top", "bottom"] []
  m__law_made : mg "_law_made" = some (.ref f__law_made)
  f__law_add : Addr
  fd__law_add : FuncData
  F__law_add : Fun K "_law_add" "_law_add" s__law_add f__law_add fd__law_add
  b__law_add : Binds K fd__law_add ["a", "b"] []
  m__law_add : mg "_law_add" = some (.ref f__law_add)
  f__law_sub : Addr
  fd__law_sub : FuncData
  F__law_sub : Fun K "_law_sub" "_law_sub" s__law_sub f__law_sub fd__law_sub
  b__law_sub : Binds K fd__law_sub ["a", "b"] []
  m__law_sub : mg "_law_sub" = some (.ref f__law_sub)
  f__law_mul : Addr
  fd__law_mul : FuncData
  F__law_mul : Fun K "_law_mul" "_law_mul" s__law_mul f__law_mul fd__law_mul
  b__law_mul : Binds K fd__law_mul ["a", "b"] []
  m__law_mul : mg "_law_mul" = some (.ref f__law_mul)
  f__law_number : Addr
  fd__law_number : FuncData
  F__law_number : Fun K "_law_number" "_law_number" s__law_number f__law_number fd__law_number
  b__law_number : Binds K fd__law_number ["pair", "draws"] []
  m__law_number : mg "_law_number" = some (.ref f__law_number)
  f__law_pair : Addr
  fd__law_pair : FuncData
  F__law_pair : Fun K "_law_pair" "_law_pair" s__law_pair f__law_pair fd__law_pair
  b__law_pair : Binds K fd__law_pair ["ratio"] []
  m__law_pair : mg "_law_pair" = some (.ref f__law_pair)
  f__law_levels : Addr
  fd__law_levels : FuncData
  F__law_levels : Fun K "_law_levels" "_law_levels" s__law_levels f__law_levels fd__law_levels
  b__law_levels : Binds K fd__law_levels ["roots", "worths"] []
  m__law_levels : mg "_law_levels" = some (.ref f__law_levels)
  f__law_next : Addr
  fd__law_next : FuncData
  F__law_next : Fun K "_law_next" "_law_next" s__law_next f__law_next fd__law_next
  b__law_next : Binds K fd__law_next ["roots", "levels"] []
  m__law_next : mg "_law_next" = some (.ref f__law_next)
  f__law_drawn_bases : Addr
  fd__law_drawn_bases : FuncData
  F__law_drawn_bases : Fun K "_law_drawn_bases" "_law_drawn_bases" s__law_drawn_bases f__law_drawn_bases fd__law_drawn_bases
  b__law_drawn_bases : Binds K fd__law_drawn_bases ["draws", "most"] []
  m__law_drawn_bases : mg "_law_drawn_bases" = some (.ref f__law_drawn_bases)
  f__law_drawn_values : Addr
  fd__law_drawn_values : FuncData
  F__law_drawn_values : Fun K "_law_drawn_values" "_law_drawn_values" s__law_drawn_values f__law_drawn_values fd__law_drawn_values
  b__law_drawn_values : Binds K fd__law_drawn_values ["draws", "many"] []
  m__law_drawn_values : mg "_law_drawn_values" = some (.ref f__law_drawn_values)
  f__law_right : Addr
  fd__law_right : FuncData
  F__law_right : Fun K "_law_right" "_law_right" s__law_right f__law_right fd__law_right
  b__law_right : Binds K fd__law_right ["draws"] []
  m__law_right : mg "_law_right" = some (.ref f__law_right)
  f_law : Addr
  fd_law : FuncData
  F_law : Fun K "law" "law" s_law f_law fd_law
  b_law : Binds K fd_law ["cells"] []
  m_law : mg "law" = some (.ref f_law)
  f_R_top : Addr
  fd_R_top : FuncData
  F_R_top : Fun K "top" "Ratio.top" s_R_top f_R_top fd_R_top
  b_R_top : Binds K fd_R_top ["self"] []
  pa_top : Addr
  p_top : PropOf K C "top" pa_top f_R_top
  f_R_bottom : Addr
  fd_R_bottom : FuncData
  F_R_bottom : Fun K "bottom" "Ratio.bottom" s_R_bottom f_R_bottom fd_R_bottom
  b_R_bottom : Binds K fd_R_bottom ["self"] []
  pa_bottom : Addr
  p_bottom : PropOf K C "bottom" pa_bottom f_R_bottom
  f_R_excess : Addr
  fd_R_excess : FuncData
  F_R_excess : Fun K "_excess" "Ratio._excess" s_R_excess f_R_excess fd_R_excess
  b_R_excess : Binds K fd_R_excess ["self", "number"] []
  M_R_excess : Meth K C "_excess" f_R_excess
  f_R_lt : Addr
  fd_R_lt : FuncData
  F_R_lt : Fun K "__lt__" "Ratio.__lt__" s_R_lt f_R_lt fd_R_lt
  b_R_lt : Binds K fd_R_lt ["self", "other"] []
  M_R_lt : OwnM K C "__lt__" f_R_lt
  f_R_le : Addr
  fd_R_le : FuncData
  F_R_le : Fun K "__le__" "Ratio.__le__" s_R_le f_R_le fd_R_le
  b_R_le : Binds K fd_R_le ["self", "other"] []
  M_R_le : OwnM K C "__le__" f_R_le
  f_R_gt : Addr
  fd_R_gt : FuncData
  F_R_gt : Fun K "__gt__" "Ratio.__gt__" s_R_gt f_R_gt fd_R_gt
  b_R_gt : Binds K fd_R_gt ["self", "other"] []
  M_R_gt : OwnM K C "__gt__" f_R_gt
  kb_value_at_rev : KBinds K fd_value_at ["bases", "values", "place"] ["place", "values", "bases"] (perm3V p3rev) (perm3V p3rev)
  kb_levels_at_mid : KBinds K fd_levels_at ["bases", "values", "place"] ["bases", "place", "values"] (perm3V p3mid) (perm3V p3mid)
end K1
set_option Elab.async false
set_option linter.all false
set_option maxRecDepth 100000
set_option maxHeartbeats 0
namespace K1
open PySem PySem.Spec PyProof.Rows L2 DL
section
variable {P : Program} {w : World} {K : PySem.W.Frag} {mg : Str → Option Value} {base : Heap}
theorem gc_pos {t b : Int} (h : 0 < b) : 0 < gc t b := by
  unfold gc
  have : 0 < Nat.gcd t.natAbs b.natAbs := Nat.gcd_pos_of_pos_right _ (by omega)
  omega
theorem gc_le {t b : Int} (h : 0 < b) : (gc t b).natAbs ≤ b.natAbs := by
  unfold gc
  rw [Int.natAbs_natCast]
  exact Nat.gcd_le_right _ (by omega)
theorem lt_log2 {n k : Nat} (h0 : 0 < k) (h : n < 2 ^ k) : n.log2 < k := PySem.Flt.log2_lt_of h0 h
/-- a promise of one number, of two -/
def w1 (f : Int × Int → MS → (D → MS → Prop) → Prop) : WF := fun ds S Q => match ds with
  | [x] => (match numD x with
    | some p => f p S Q
    | none => False)
  | _ => False
def w2 (f : Int × Int → Int × Int → MS → (D → MS → Prop) → Prop) : WF := fun ds S Q => match ds with
  | [x, y] => (match numD x with
    | some p => (match numD y with
      | some q => f p q S Q
      | none => False)
    | none => False)
  | _ => False
theorem one_num {f} {ds : List D} {S : MS} {Q : D → MS → Prop} (h : w1 f ds S Q) : ∃ x p, ds = [x] ∧ numD x = some p ∧ f p S Q := by
  unfold w1 at h
  split at h
  · split at h
    · exact ⟨_, _, rfl, by assumption, h⟩
    · exact h.elim
  · exact h.elim
theorem two_num {f} {ds : List D} {S : MS} {Q : D → MS → Prop} (h : w2 f ds S Q) : ∃ x p y q, ds = [x, y] ∧ numD x = some p ∧ numD y = some q ∧ f p q S Q := by
  unfold w2 at h
  split at h
  · split at h
    · split at h
      · exact ⟨_, _, _, _, rfl, by assumption, by assumption, h⟩
      · exact h.elim
    · exact h.elim
  · exact h.elim
/-- the first one a ratio -/
def w1r (f : Int × Int → MS → (D → MS → Prop) → Prop) : WF := fun ds S Q => match ds with
  | [.ins c fs] => (match numD (.ins c fs) with
    | some p => f p S Q
    | none => False)
  | _ => False
def w2r (f : Int × Int → Int × Int → MS → (D → MS → Prop) → Prop) : WF := fun ds S Q => match ds with
  | [.ins c fs, y] => (match numD (.ins c fs) with
    | some p => (match numD y with
      | some q => f p q S Q
      | none => False)
    | none => False)
  | _ => False
theorem one_rat {f} {ds : List D} {S : MS} {Q : D → MS → Prop} (h : w1r f ds S Q) : ∃ t b, ds = [.ins "Ratio" [("_top", .int t), ("_bottom", .int b)]] ∧ f (t, b) S Q := by
  unfold w1r at h
  split at h
  · split at h
    · rename_i e
      rcases num_in e with ⟨i, e1, _⟩ | ⟨t, b, e1, rfl⟩
      · cases e1
      · exact ⟨t, b, by rw [e1], h⟩
    · exact h.elim
  · exact h.elim
theorem two_rat {f} {ds : List D} {S : MS} {Q : D → MS → Prop} (h : w2r f ds S Q) : ∃ t b y q, ds = [.ins "Ratio" [("_top", .int t), ("_bottom", .int b)], y] ∧ numD y = some q ∧ f (t, b) q S Q := by
  unfold w2r at h
  split at h
  · split at h
    · split at h
      · rename_i e _ _ _
        rcases num_in e with ⟨i, e1, _⟩ | ⟨t, b, e1, rfl⟩
        · cases e1
        · exact ⟨t, b, _, _, by rw [e1], by assumption, h⟩
      · exact h.elim
    · exact h.elim
  · exact h.elim
/-! ### sizes -/
theorem nmul {a b : Int} {m n : Nat} (ha : a.natAbs < 2 ^ m) (hb : b.natAbs < 2 ^ n) : (a * b).natAbs < 2 ^ (m + n) := wide_lt ha hb
theorem nmono {a : Int} {m n : Nat} (ha : a.natAbs < 2 ^ m) (h : m ≤ n) : a.natAbs < 2 ^ n := Nat.lt_of_lt_of_le ha (Nat.pow_le_pow_right (by decide) h)
theorem nadd {a b : Int} {m : Nat} (ha : a.natAbs < 2 ^ m) (hb : b.natAbs < 2 ^ m) : (a + b).natAbs < 2 ^ (m + 1) := by
  rw [Nat.pow_succ]
  omega
theorem nneg {a : Int} {m : Nat} (ha : a.natAbs < 2 ^ m) : (-a).natAbs < 2 ^ m := by rw [Int.natAbs_neg]; exact ha
theorem cmul {a b : Int} {m n : Nat} (ha : a.natAbs < 2 ^ (m + 1)) (hb : b.natAbs < 2 ^ (n + 1)) (h : m + n + 2 ≤ 1000000) : CMulW a b := wide_mul ha hb (by omega) (by omega) (by omega)
theorem Sz.mono {m n : Nat} {p : Int × Int} (h : Sz m p) (l : m ≤ n) : Sz n p := ⟨h.1, nmono h.2.1 l, nmono h.2.2 l⟩
theorem fdiv_gc {t b : Int} (hb : 0 < b) : t.fdiv (gc t b) = t / gc t b := Int.fdiv_eq_ediv_of_nonneg _ (by have := gc_pos (t := t) hb; omega)
theorem fdiv_gc2 {t b : Int} (hb : 0 < b) : b.fdiv (gc t b) = b / gc t b := Int.fdiv_eq_ediv_of_nonneg _ (by have := gc_pos (t := t) hb; omega)
theorem natAbs_div_le (a b : Int) : (a / b).natAbs ≤ a.natAbs := Int.natAbs_ediv_le_natAbs a b
theorem gc_dvd_r (t b : Int) : gc t b ∣ b := by
  unfold gc
  exact Int.ofNat_dvd_left.mpr (Nat.gcd_dvd_right _ _)
theorem gc_dvd_l (t b : Int) : gc t b ∣ t := by
  unfold gc
  exact Int.ofNat_dvd_left.mpr (Nat.gcd_dvd_left _ _)
theorem mkR_sz {t b : Int} {n : Nat} (hb : 0 < b) (ht : t.natAbs < 2 ^ n) (hb2 : b.natAbs < 2 ^ n) : Sz n (mkR t b) := by
  unfold mkR
  refine ⟨?_, ?_, ?_⟩
  · show 0 < b.fdiv (gc t b)
    rw [fdiv_gc2 hb]
    exact Int.ediv_pos_of_pos_of_dvd hb (by have := gc_pos (t := t) hb; omega) (gc_dvd_r t b)
  · show (t.fdiv (gc t b)).natAbs < _
    rw [fdiv_gc hb]
    exact Nat.lt_of_le_of_lt (natAbs_div_le _ _) ht
  · show (b.fdiv (gc t b)).natAbs < _
    rw [fdiv_gc2 hb]
    exact Nat.lt_of_le_of_lt (natAbs_div_le _ _) hb2
theorem mkR_one (t : Int) : mkR t 1 = (t, 1) := by
  unfold mkR
  have e : gc t 1 = 1 := by unfold gc; simp
  rw [e]
  simp
def addR (p q : Int × Int) : Int × Int := mkR (p.1 * q.2 + q.1 * p.2) (p.2 * q.2)
def negR (p : Int × Int) : Int × Int := mkR (-p.1) p.2
def subR (p q : Int × Int) : Int × Int := addR p (negR q)
def mulR (p q : Int × Int) : Int × Int := mkR (p.1 * q.1) (p.2 * q.2)
def absR (p : Int × Int) : Int × Int := mkR (if p.1 < 0 then -p.1 else p.1) p.2
def fdR (p q : Int × Int) : Int := (p.1 * q.2).fdiv (p.2 * q.1)
def modR (p q : Int × Int) : Int × Int := subR p (mulR q (fdR p q, 1))
theorem rt_eq (t b : Int) : D.ins "Ratio" [("_top", .int (mkR t b).1), ("_bottom", .int (mkR t b).2)] = rt (mkR t b) := rfl
theorem lk_top (t b : Int) : List.lookup ("_top" : Str) [(("_top" : Str), D.int t), ("_bottom", .int b)] = some (.int t) := by simp [List.lookup]
theorem nb : (("_bottom" : Str) == ("_top" : Str)) = false := by decide +kernel
theorem lk_bot (t b : Int) : List.lookup ("_bottom" : Str) [(("_top" : Str), D.int t), ("_bottom", .int b)] = some (.int b) := by
  rw [List.lookup_cons, nb]
  simp [List.lookup]

def w_is_int : WF := fun ds S Q => match ds with
  | [.int _] => Q (.bl true) S
  | [.ins c _] => c = "Ratio" ∧ Q (.bl false) S
  | [x] => NotN x ∧ Q (.bl false) S
  | _ => False
theorem sc_is_int : FnScope ["value"] ["value"] (defScope s_is_int) := ⟨rfl, rfl, rfl, by decide +kernel, rfl, by decide +kernel, by decide +kernel⟩
theorem ok_is_int (T : Tx K mg) : FnOk P w K mg base CX0 1 T.f_is_int T.fd_is_int ["value"] (spW ⟨K, mg⟩ 1 w_is_int) := by
  refine fnD (k := 0) T.F_is_int sc_is_int (fun cdv A outer s H E hr => ⟨_, (dss_one (ds_ret (d_and (d_callB call_isi (snd_isi T.isi) T.z_isinstance (da_cons (dv 0) (da_cons (d_ty (n := "int") T.z_int (hv := bt_int)) da_nil)) (hv := bt_isinstance)) (d_one (d_not (d_callB call_isi (snd_isi T.isi) T.z_isinstance (da_cons (dv 0) (da_cons (d_ty (n := "bool") T.z_bool (hv := bt_bool)) da_nil)) (hv := bt_isinstance)))))))⟩) (fun ds S Q hl h => ?_)
  match ds, h with
  | [.int i], h =>
    simp only [true_and, and_true, oU2, oUn1, oL1, oS1, oR1, oJust, iAdd, iSub, iMul, iFdiv, iMod, iEq, iNe, iLt, iLe, iGt, iGe, iNeg, iAbs, DL.iStr, wFmt, wJs, wJoined, sNext, sSeq, sDrop, sRet, sRetN, sIf, sAsg, sPar, wOp, wVar, wC, wUn, wCons, wNil, wCB, wCall, wMake, wMakeSw, wCallSw, wProp, wFld, oI, oI0, oU, wTest, wAnd, wOr, wNot, wAndV, wOrV, wNotV, wIf, wTup, wLst, wLstM, gwName, gwNil, gwCons, gwTup, gwSub, oIx, oInt1, oAbsI, oLen, oGcd, oDivmod, oMax2, oMin2, oIsi, tyOf, clOf, kt_ii, kt_ib, kt_rr, kt_ir, kt_ri, kt_rb, kt_ni, kt_bi, kt_bb, kt_si, kt_ti, kt_li, kt_di, kt_nr, kt_br, kt_sr, kt_tr, kt_lr, kt_dr, oStrI, if_t1, if_f1, Bool.not_true, Bool.not_false, rt, startD, List.map_cons, List.map_nil, List.length_cons, List.length_nil, List.cons_append, List.nil_append, List.getElem?_cons_zero, List.getElem?_cons_succ, List.set_cons_zero, List.set_cons_succ, List.replicate, Nat.reduceAdd, Nat.reduceSub, Nat.zero_add, Nat.sub_self, Nat.add_sub_cancel, kt_tt, wChain, sFor, sForR, forStep, gwLst, listD, wCut, wStar, oListM, oTupl, seqD, oLcm, wCallP3, p3rev, p3mid, wAppend]
    exact h
  | [.ins c fs], h =>
    obtain ⟨rfl, h⟩ := h
    simp only [true_and, and_true, oU2, oUn1, oL1, oS1, oR1, oJust, iAdd, iSub, iMul, iFdiv, iMod, iEq, iNe, iLt, iLe, iGt, iGe, iNeg, iAbs, DL.iStr, wFmt, wJs, wJoined, sNext, sSeq, sDrop, sRet, sRetN, sIf, sAsg, sPar, wOp, wVar, wC, wUn, wCons, wNil, wCB, wCall, wMake, wMakeSw, wCallSw, wProp, wFld, oI, oI0, oU, wTest, wAnd, wOr, wNot, wAndV, wOrV, wNotV, wIf, wTup, wLst, wLstM, gwName, gwNil, gwCons, gwTup, gwSub, oIx, oInt1, oAbsI, oLen, oGcd, oDivmod, oMax2, oMin2, oIsi, tyOf, clOf, kt_ii, kt_ib, kt_rr, kt_ir, kt_ri, kt_rb, kt_ni, kt_bi, kt_bb, kt_si, kt_ti, kt_li, kt_di, kt_nr, kt_br, kt_sr, kt_tr, kt_lr, kt_dr, oStrI, if_t1, if_f1, Bool.not_true, Bool.not_false, rt, startD, List.map_cons, List.map_nil, List.length_cons, List.length_nil, List.cons_append, List.nil_append, List.getElem?_cons_zero, List.getElem?_cons_succ, List.set_cons_zero, List.set_cons_succ, List.replicate, Nat.reduceAdd, Nat.reduceSub, Nat.zero_add, Nat.sub_self, Nat.add_sub_cancel, kt_tt, wChain, sFor, sForR, forStep, gwLst, listD, wCut, wStar, oListM, oTupl, seqD, oLcm, wCallP3, p3rev, p3mid, wAppend]
    exact h
  | [.non], h => simp only [true_and, and_true, oU2, oUn1, oL1, oS1, oR1, oJust, iAdd, iSub, iMul, iFdiv, iMod, iEq, iNe, iLt, iLe, iGt, iGe, iNeg, iAbs, DL.iStr, wFmt, wJs, wJoined, sNext, sSeq, sDrop, sRet, sRetN, sIf, sAsg, sPar, wOp, wVar, wC, wUn, wCons, wNil, wCB, wCall, wMake, wMakeSw, wCallSw, wProp, wFld, oI, oI0, oU, wTest, wAnd, wOr, wNot, wAndV, wOrV, wNotV, wIf, wTup, wLst, wLstM, gwName, gwNil, gwCons, gwTup, gwSub, oIx, oInt1, oAbsI, oLen, oGcd, oDivmod, oMax2, oMin2, oIsi, tyOf, clOf, kt_ii, kt_ib, kt_rr, kt_ir, kt_ri, kt_rb, kt_ni, kt_bi, kt_bb, kt_si, kt_ti, kt_li, kt_di, kt_nr, kt_br, kt_sr, kt_tr, kt_lr, kt_dr, oStrI, if_t1, if_f1, Bool.not_true, Bool.not_false, rt, startD, List.map_cons, List.map_nil, List.length_cons, List.length_nil, List.cons_append, List.nil_append, List.getElem?_cons_zero, List.getElem?_cons_succ, List.set_cons_zero, List.set_cons_succ, List.replicate, Nat.reduceAdd, Nat.reduceSub, Nat.zero_add, Nat.sub_self, Nat.add_sub_cancel, kt_tt, wChain, sFor, sForR, forStep, gwLst, listD, wCut, wStar, oListM, oTupl, seqD, oLcm, wCallP3, p3rev, p3mid, wAppend]; exact h.2
  | [.bl b], h => simp only [true_and, and_true, oU2, oUn1, oL1, oS1, oR1, oJust, iAdd, iSub, iMul, iFdiv, iMod, iEq, iNe, iLt, iLe, iGt, iGe, iNeg, iAbs, DL.iStr, wFmt, wJs, wJoined, sNext, sSeq, sDrop, sRet, sRetN, sIf, sAsg, sPar, wOp, wVar, wC, wUn, wCons, wNil, wCB, wCall, wMake, wMakeSw, wCallSw, wProp, wFld, oI, oI0, oU, wTest, wAnd, wOr, wNot, wAndV, wOrV, wNotV, wIf, wTup, wLst, wLstM, gwName, gwNil, gwCons, gwTup, gwSub, oIx, oInt1, oAbsI, oLen, oGcd, oDivmod, oMax2, oMin2, oIsi, tyOf, clOf, kt_ii, kt_ib, kt_rr, kt_ir, kt_ri, kt_rb, kt_ni, kt_bi, kt_bb, kt_si, kt_ti, kt_li, kt_di, kt_nr, kt_br, kt_sr, kt_tr, kt_lr, kt_dr, oStrI, if_t1, if_f1, Bool.not_true, Bool.not_false, rt, startD, List.map_cons, List.map_nil, List.length_cons, List.length_nil, List.cons_append, List.nil_append, List.getElem?_cons_zero, List.getElem?_cons_succ, List.set_cons_zero, List.set_cons_succ, List.replicate, Nat.reduceAdd, Nat.reduceSub, Nat.zero_add, Nat.sub_self, Nat.add_sub_cancel, kt_tt, wChain, sFor, sForR, forStep, gwLst, listD, wCut, wStar, oListM, oTupl, seqD, oLcm, wCallP3, p3rev, p3mid, wAppend]; exact h.2
  | [.str z], h => simp only [true_and, and_true, oU2, oUn1, oL1, oS1, oR1, oJust, iAdd, iSub, iMul, iFdiv, iMod, iEq, iNe, iLt, iLe, iGt, iGe, iNeg, iAbs, DL.iStr, wFmt, wJs, wJoined, sNext, sSeq, sDrop, sRet, sRetN, sIf, sAsg, sPar, wOp, wVar, wC, wUn, wCons, wNil, wCB, wCall, wMake, wMakeSw, wCallSw, wProp, wFld, oI, oI0, oU, wTest, wAnd, wOr, wNot, wAndV, wOrV, wNotV, wIf, wTup, wLst, wLstM, gwName, gwNil, gwCons, gwTup, gwSub, oIx, oInt1, oAbsI, oLen, oGcd, oDivmod, oMax2, oMin2, oIsi, tyOf, clOf, kt_ii, kt_ib, kt_rr, kt_ir, kt_ri, kt_rb, kt_ni, kt_bi, kt_bb, kt_si, kt_ti, kt_li, kt_di, kt_nr, kt_br, kt_sr, kt_tr, kt_lr, kt_dr, oStrI, if_t1, if_f1, Bool.not_true, Bool.not_false, rt, startD, List.map_cons, List.map_nil, List.length_cons, List.length_nil, List.cons_append, List.nil_append, List.getElem?_cons_zero, List.getElem?_cons_succ, List.set_cons_zero, List.set_cons_succ, List.replicate, Nat.reduceAdd, Nat.reduceSub, Nat.zero_add, Nat.sub_self, Nat.add_sub_cancel, kt_tt, wChain, sFor, sForR, forStep, gwLst, listD, wCut, wStar, oListM, oTupl, seqD, oLcm, wCallP3, p3rev, p3mid, wAppend]; exact h.2
  | [.tup l], h => simp only [true_and, and_true, oU2, oUn1, oL1, oS1, oR1, oJust, iAdd, iSub, iMul, iFdiv, iMod, iEq, iNe, iLt, iLe, iGt, iGe, iNeg, iAbs, DL.iStr, wFmt, wJs, wJoined, sNext, sSeq, sDrop, sRet, sRetN, sIf, sAsg, sPar, wOp, wVar, wC, wUn, wCons, wNil, wCB, wCall, wMake, wMakeSw, wCallSw, wProp, wFld, oI, oI0, oU, wTest, wAnd, wOr, wNot, wAndV, wOrV, wNotV, wIf, wTup, wLst, wLstM, gwName, gwNil, gwCons, gwTup, gwSub, oIx, oInt1, oAbsI, oLen, oGcd, oDivmod, oMax2, oMin2, oIsi, tyOf, clOf, kt_ii, kt_ib, kt_rr, kt_ir, kt_ri, kt_rb, kt_ni, kt_bi, kt_bb, kt_si, kt_ti, kt_li, kt_di, kt_nr, kt_br, kt_sr, kt_tr, kt_lr, kt_dr, oStrI, if_t1, if_f1, Bool.not_true, Bool.not_false, rt, startD, List.map_cons, List.map_nil, List.length_cons, List.length_nil, List.cons_append, List.nil_append, List.getElem?_cons_zero, List.getElem?_cons_succ, List.set_cons_zero, List.set_cons_succ, List.replicate, Nat.reduceAdd, Nat.reduceSub, Nat.zero_add, Nat.sub_self, Nat.add_sub_cancel, kt_tt, wChain, sFor, sForR, forStep, gwLst, listD, wCut, wStar, oListM, oTupl, seqD, oLcm, wCallP3, p3rev, p3mid, wAppend]; exact h.2
  | [.lst l], h => simp only [true_and, and_true, oU2, oUn1, oL1, oS1, oR1, oJust, iAdd, iSub, iMul, iFdiv, iMod, iEq, iNe, iLt, iLe, iGt, iGe, iNeg, iAbs, DL.iStr, wFmt, wJs, wJoined, sNext, sSeq, sDrop, sRet, sRetN, sIf, sAsg, sPar, wOp, wVar, wC, wUn, wCons, wNil, wCB, wCall, wMake, wMakeSw, wCallSw, wProp, wFld, oI, oI0, oU, wTest, wAnd, wOr, wNot, wAndV, wOrV, wNotV, wIf, wTup, wLst, wLstM, gwName, gwNil, gwCons, gwTup, gwSub, oIx, oInt1, oAbsI, oLen, oGcd, oDivmod, oMax2, oMin2, oIsi, tyOf, clOf, kt_ii, kt_ib, kt_rr, kt_ir, kt_ri, kt_rb, kt_ni, kt_bi, kt_bb, kt_si, kt_ti, kt_li, kt_di, kt_nr, kt_br, kt_sr, kt_tr, kt_lr, kt_dr, oStrI, if_t1, if_f1, Bool.not_true, Bool.not_false, rt, startD, List.map_cons, List.map_nil, List.length_cons, List.length_nil, List.cons_append, List.nil_append, List.getElem?_cons_zero, List.getElem?_cons_succ, List.set_cons_zero, List.set_cons_succ, List.replicate, Nat.reduceAdd, Nat.reduceSub, Nat.zero_add, Nat.sub_self, Nat.add_sub_cancel, kt_tt, wChain, sFor, sForR, forStep, gwLst, listD, wCut, wStar, oListM, oTupl, seqD, oLcm, wCallP3, p3rev, p3mid, wAppend]; exact h.2
  | [.mut m], h => simp only [true_and, and_true, oU2, oUn1, oL1, oS1, oR1, oJust, iAdd, iSub, iMul, iFdiv, iMod, iEq, iNe, iLt, iLe, iGt, iGe, iNeg, iAbs, DL.iStr, wFmt, wJs, wJoined, sNext, sSeq, sDrop, sRet, sRetN, sIf, sAsg, sPar, wOp, wVar, wC, wUn, wCons, wNil, wCB, wCall, wMake, wMakeSw, wCallSw, wProp, wFld, oI, oI0, oU, wTest, wAnd, wOr, wNot, wAndV, wOrV, wNotV, wIf, wTup, wLst, wLstM, gwName, gwNil, gwCons, gwTup, gwSub, oIx, oInt1, oAbsI, oLen, oGcd, oDivmod, oMax2, oMin2, oIsi, tyOf, clOf, kt_ii, kt_ib, kt_rr, kt_ir, kt_ri, kt_rb, kt_ni, kt_bi, kt_bb, kt_si, kt_ti, kt_li, kt_di, kt_nr, kt_br, kt_sr, kt_tr, kt_lr, kt_dr, oStrI, if_t1, if_f1, Bool.not_true, Bool.not_false, rt, startD, List.map_cons, List.map_nil, List.length_cons, List.length_nil, List.cons_append, List.nil_append, List.getElem?_cons_zero, List.getElem?_cons_succ, List.set_cons_zero, List.set_cons_succ, List.replicate, Nat.reduceAdd, Nat.reduceSub, Nat.zero_add, Nat.sub_self, Nat.add_sub_cancel, kt_tt, wChain, sFor, sForR, forStep, gwLst, listD, wCut, wStar, oListM, oTupl, seqD, oLcm, wCallP3, p3rev, p3mid, wAppend]; exact h.2
  | [.dct l], h => simp only [true_and, and_true, oU2, oUn1, oL1, oS1, oR1, oJust, iAdd, iSub, iMul, iFdiv, iMod, iEq, iNe, iLt, iLe, iGt, iGe, iNeg, iAbs, DL.iStr, wFmt, wJs, wJoined, sNext, sSeq, sDrop, sRet, sRetN, sIf, sAsg, sPar, wOp, wVar, wC, wUn, wCons, wNil, wCB, wCall, wMake, wMakeSw, wCallSw, wProp, wFld, oI, oI0, oU, wTest, wAnd, wOr, wNot, wAndV, wOrV, wNotV, wIf, wTup, wLst, wLstM, gwName, gwNil, gwCons, gwTup, gwSub, oIx, oInt1, oAbsI, oLen, oGcd, oDivmod, oMax2, oMin2, oIsi, tyOf, clOf, kt_ii, kt_ib, kt_rr, kt_ir, kt_ri, kt_rb, kt_ni, kt_bi, kt_bb, kt_si, kt_ti, kt_li, kt_di, kt_nr, kt_br, kt_sr, kt_tr, kt_lr, kt_dr, oStrI, if_t1, if_f1, Bool.not_true, Bool.not_false, rt, startD, List.map_cons, List.map_nil, List.length_cons, List.length_nil, List.cons_append, List.nil_append, List.getElem?_cons_zero, List.getElem?_cons_succ, List.set_cons_zero, List.set_cons_succ, List.replicate, Nat.reduceAdd, Nat.reduceSub, Nat.zero_add, Nat.sub_self, Nat.add_sub_cancel, kt_tt, wChain, sFor, sForR, forStep, gwLst, listD, wCut, wStar, oListM, oTupl, seqD, oLcm, wCallP3, p3rev, p3mid, wAppend]; exact h.2
  | [.ty n], h => obtain ⟨⟨_, _, z⟩, _⟩ := h; cases z
  | [.cls c], h => obtain ⟨⟨_, _, z⟩, _⟩ := h; cases z
  | [.scr c], h => obtain ⟨⟨_, _, z⟩, _⟩ := h; cases z
  | [.obj c], h => obtain ⟨⟨_, _, z⟩, _⟩ := h; cases z
  | [.exc _ _ _], h => obtain ⟨⟨_, _, z⟩, _⟩ := h; cases z
def w_is_number : WF := w1 fun p S Q => Q (.bl true) S
theorem sc_is_number : FnScope ["value"] ["value"] (defScope s_is_number) := ⟨rfl, rfl, rfl, by decide +kernel, rfl, by decide +kernel, by decide +kernel⟩
theorem ok_is_number (T : Tx K mg) : FnOk P w K mg base CX0 2 T.f_is_number T.fd_is_number ["value"] (spW ⟨K, mg⟩ 1 w_is_number) := by
  refine fnD (k := 1) T.F_is_number sc_is_number (fun cdv A outer s H E hr => ⟨_, (dss_one (ds_ret (d_or (d_callB call_isi (snd_isi T.isi) T.z_isinstance (da_cons (dv 0) (da_cons (d_cls T.g_Ratio) da_nil)) (hv := bt_isinstance)) (d_one (d_call (ok_is_int T) (hr.mono (by decide)) T.m_is_int T.F_is_int.kp T.b_is_int (da_cons (dv 0) da_nil))))))⟩) (fun ds S Q hl h => ?_)
  obtain ⟨x, p, rfl, hp, h⟩ := one_num h
  rcases num_in hp with ⟨i, rfl, rfl⟩ | ⟨t, b, rfl, rfl⟩
  · simp only [true_and, and_true, oU2, oUn1, oL1, oS1, oR1, oJust, iAdd, iSub, iMul, iFdiv, iMod, iEq, iNe, iLt, iLe, iGt, iGe, iNeg, iAbs, DL.iStr, wFmt, wJs, wJoined, sNext, sSeq, sDrop, sRet, sRetN, sIf, sAsg, sPar, wOp, wVar, wC, wUn, wCons, wNil, wCB, wCall, wMake, wMakeSw, wCallSw, wProp, wFld, oI, oI0, oU, wTest, wAnd, wOr, wNot, wAndV, wOrV, wNotV, wIf, wTup, wLst, wLstM, gwName, gwNil, gwCons, gwTup, gwSub, oIx, oInt1, oAbsI, oLen, oGcd, oDivmod, oMax2, oMin2, oIsi, tyOf, clOf, kt_ii, kt_ib, kt_rr, kt_ir, kt_ri, kt_rb, kt_ni, kt_bi, kt_bb, kt_si, kt_ti, kt_li, kt_di, kt_nr, kt_br, kt_sr, kt_tr, kt_lr, kt_dr, oStrI, if_t1, if_f1, Bool.not_true, Bool.not_false, rt, startD, List.map_cons, List.map_nil, List.length_cons, List.length_nil, List.cons_append, List.nil_append, List.getElem?_cons_zero, List.getElem?_cons_succ, List.set_cons_zero, List.set_cons_succ, List.replicate, Nat.reduceAdd, Nat.reduceSub, Nat.zero_add, Nat.sub_self, Nat.add_sub_cancel, kt_tt, wChain, sFor, sForR, forStep, gwLst, listD, wCut, wStar, oListM, oTupl, seqD, oLcm, wCallP3, p3rev, p3mid, wAppend]
    exact h
  · simp only [true_and, and_true, oU2, oUn1, oL1, oS1, oR1, oJust, iAdd, iSub, iMul, iFdiv, iMod, iEq, iNe, iLt, iLe, iGt, iGe, iNeg, iAbs, DL.iStr, wFmt, wJs, wJoined, sNext, sSeq, sDrop, sRet, sRetN, sIf, sAsg, sPar, wOp, wVar, wC, wUn, wCons, wNil, wCB, wCall, wMake, wMakeSw, wCallSw, wProp, wFld, oI, oI0, oU, wTest, wAnd, wOr, wNot, wAndV, wOrV, wNotV, wIf, wTup, wLst, wLstM, gwName, gwNil, gwCons, gwTup, gwSub, oIx, oInt1, oAbsI, oLen, oGcd, oDivmod, oMax2, oMin2, oIsi, tyOf, clOf, kt_ii, kt_ib, kt_rr, kt_ir, kt_ri, kt_rb, kt_ni, kt_bi, kt_bb, kt_si, kt_ti, kt_li, kt_di, kt_nr, kt_br, kt_sr, kt_tr, kt_lr, kt_dr, oStrI, if_t1, if_f1, Bool.not_true, Bool.not_false, rt, startD, List.map_cons, List.map_nil, List.length_cons, List.length_nil, List.cons_append, List.nil_append, List.getElem?_cons_zero, List.getElem?_cons_succ, List.set_cons_zero, List.set_cons_succ, List.replicate, Nat.reduceAdd, Nat.reduceSub, Nat.zero_add, Nat.sub_self, Nat.add_sub_cancel, kt_tt, wChain, sFor, sForR, forStep, gwLst, listD, wCut, wStar, oListM, oTupl, seqD, oLcm, wCallP3, p3rev, p3mid, wAppend]
    exact h
/-- is_int of an int, and nothing is changed -/
def spIsInt : Sp := fun vs H Q _ => ∃ i, vs = [.int i] ∧ Q (.bl true) H
theorem raw_is_int (T : Tx K mg) : FnOk P w K mg base CX0 1 T.f_is_int T.fd_is_int ["value"] spIsInt := by
  refine T.F_is_int.ok (k := 0) sc_is_int (fun vs H Q E h => ?_) (fun cdv A outer s H vs Q E hr h => ⟨_, ((dss_one (ds_ret (d_and (d_callB call_isi (snd_isi T.isi) T.z_isinstance (da_cons (dv 0) (da_cons (d_ty (n := "int") T.z_int (hv := bt_int)) da_nil)) (hv := bt_isinstance)) (d_one (d_not (d_callB call_isi (snd_isi T.isi) T.z_isinstance (da_cons (dv 0) (da_cons (d_ty (n := "bool") T.z_bool (hv := bt_bool)) da_nil)) (hv := bt_isinstance))))))) : PDSs _ _ _ _).pe, ?_⟩)
  · obtain ⟨i, rfl, _⟩ := h
    rfl
  · obtain ⟨i, rfl, q⟩ := h
    refine ⟨_, rfl, _, _, _, _, true, rfl, .ty "int", .base (.int i), kt_ii, true, rfl, iteT ?_⟩
    refine ⟨_, rfl, _, _, _, _, false, rfl, .ty "bool", .base (.int i), kt_ib, false, rfl, ?_⟩
    exact q
def wi_Ratio : WI := fun ds S Q => match ds with
  | [.int t, .int b] => (0 < b ∧ b.natAbs < 2 ^ 9000) ∧ Q [("_top", .int (mkR t b).1), ("_bottom", .int (mkR t b).2)] S
  | _ => False
theorem sc_R_init : FnScope ["self", "top", "bottom", "common"] ["self", "top", "bottom"] (defScope s_R_init) := ⟨rfl, rfl, rfl, by decide +kernel, rfl, by decide +kernel, by decide +kernel⟩
theorem tb_ne : ¬ (("_top" : Str) = "_bottom") := by decide +kernel
theorem ok_R_init (T : Tx K mg) : FnOk P w K mg base CX0 3 T.f_R_init T.fd_R_init ["self", "top", "bottom"] (spInit ⟨K, mg⟩ "Ratio" 2 wi_Ratio) := by
  refine T.F_R_init.ok (k := 2) sc_R_init (fun vs H Q E h => h.len) (fun cdv A outer s H vs Q E hr h => ?_)
  obtain ⟨x, C, dx, A', S, vs', ds, Q', rfl, hC, hx, nx, R, l, hn, hw, kk⟩ := h
  match ds, l, hw with
  | [.int t, .int b], l, hw =>
    obtain ⟨v1, v2, rfl, h1, h2⟩ := l.two
    cases h1; cases h2
    obtain ⟨⟨hb0, hb1⟩, hw⟩ := hw
    have hC' : mg "Ratio" = some (.ref C) := hC
    rw [T.g_Ratio] at hC'
    cases hC'
    refine ⟨_, PSs.nox (pss_cons (ps_if (pt_not (pt_val (pe_call (raw_is_int T) (hr.mono (by decide)) rfl T.m_is_int T.F_is_int.kp T.b_is_int .nil pass0 (pa_cons (pv 1) pa_nil)))) pss_never pss_nil)
      (pss_cons (ps_if (PW.pt (pw_or (pt_not (pt_val (pe_call (raw_is_int T) (hr.mono (by decide)) rfl T.m_is_int T.F_is_int.kp T.b_is_int .nil pass0 (pa_cons (pv 2) pa_nil)))) (pw_or1 (pt_cmpR op_lt (pv 2) pe_int (nomark _))))) pss_never pss_nil)
      (pss_cons (ps_set (i := 3) sc_R_init.nd rfl (Or.inl rfl) (pe_callBfun cr_gcd rfl T.g_gcd (pa_cons (pv 1) (pa_cons (pv 2) pa_nil))))
      (pss_cons (ps_fld (pv 0) (pe_op op_fdivWN (pv 1) (pv 3)) rfl) (pss_one (ps_fld (pv 0) (pe_op op_fdivWN (pv 2) (pv 3)) rfl)))))), ?_⟩
    have hd : CDivWN t (gc t b) := ⟨by have := gc_pos (t := t) hb0; omega, lt_log2 (by decide) (Nat.lt_of_le_of_lt (gc_le hb0) hb1)⟩
    have hd2 : CDivWN b (gc t b) := hd
    refine ⟨_, rfl, t, rfl, true, rfl, iteF ?_⟩
    refine ⟨_, rfl, b, rfl, true, rfl, iteF ?_⟩
    refine ⟨_, rfl, _, _, rfl, rfl, _, rfl, ?_⟩
    have e1 : decide (b < 1) = false := by simp; omega
    rw [e1]
    refine iteF ?_
    refine ⟨_, rfl, _, rfl, t, b, rfl, ?_⟩
    refine ⟨_, rfl, _, rfl, _, _, rfl, rfl, hd, _, rfl, x, T.C, dx, [], rfl, hx, T.cl, T.na_top, (by show 0 < 1000; decide), ?_⟩
    refine ⟨_, rfl, _, rfl, _, _, rfl, rfl, hd2, _, rfl, x, T.C, dx, _, rfl, upd_same, T.cl, T.na_bottom, (by show 1 < 1000; decide), ?_⟩
    refine kk _ _ _ (fun c o hc e => ?_) upd_same ?_ hw
    · rw [upd_ne hc, upd_ne hc]
      exact e
    · show IsF _ _ _ (if ("_top" : Str) = "_bottom" then _ else (("_top" : Str), V.int _) :: putF "_bottom" _ []) _
      rw [if_neg tb_ne]
      exact .cons (.int _) (.cons (.int _) .nil)
def w_as_ratio : WF := w1 fun p S Q => Q (rt p) S
theorem sc_as_ratio : FnScope ["number"] ["number"] (defScope s_as_ratio) := ⟨rfl, rfl, rfl, by decide +kernel, rfl, by decide +kernel, by decide +kernel⟩
theorem ok_as_ratio (T : Tx K mg) : FnOk P w K mg base CX0 5 T.f_as_ratio T.fd_as_ratio ["number"] (spW ⟨K, mg⟩ 1 w_as_ratio) := by
  refine fnD (k := 4) T.F_as_ratio sc_as_ratio (fun cdv A outer s H E hr => ⟨_, (dss_cons (ds_if (dt_val (d_callB call_isi (snd_isi T.isi) T.z_isinstance (da_cons (dv 0) (da_cons (d_cls T.g_Ratio) da_nil)) (hv := bt_isinstance))) (dss_one (ds_ret (dv 0))) dss_nil)
  (dss_one (ds_ret (d_make T.mkk (ok_R_init T) (hr.mono (by decide)) T.g_Ratio T.b_R_init1 T.v_R_init1 (fun _ _ => .cons (.int 1) .nil) (da_cons (dv 0) da_nil)))))⟩) (fun ds S Q hl h => ?_)
  obtain ⟨x, p, rfl, hp, h⟩ := one_num h
  rcases num_in hp with ⟨i, rfl, rfl⟩ | ⟨t, b, rfl, rfl⟩
  · simp only [true_and, and_true, oU2, oUn1, oL1, oS1, oR1, oJust, iAdd, iSub, iMul, iFdiv, iMod, iEq, iNe, iLt, iLe, iGt, iGe, iNeg, iAbs, DL.iStr, wFmt, wJs, wJoined, sNext, sSeq, sDrop, sRet, sRetN, sIf, sAsg, sPar, wOp, wVar, wC, wUn, wCons, wNil, wCB, wCall, wMake, wMakeSw, wCallSw, wProp, wFld, oI, oI0, oU, wTest, wAnd, wOr, wNot, wAndV, wOrV, wNotV, wIf, wTup, wLst, wLstM, gwName, gwNil, gwCons, gwTup, gwSub, oIx, oInt1, oAbsI, oLen, oGcd, oDivmod, oMax2, oMin2, oIsi, tyOf, clOf, kt_ii, kt_ib, kt_rr, kt_ir, kt_ri, kt_rb, kt_ni, kt_bi, kt_bb, kt_si, kt_ti, kt_li, kt_di, kt_nr, kt_br, kt_sr, kt_tr, kt_lr, kt_dr, oStrI, if_t1, if_f1, Bool.not_true, Bool.not_false, rt, startD, List.map_cons, List.map_nil, List.length_cons, List.length_nil, List.cons_append, List.nil_append, List.getElem?_cons_zero, List.getElem?_cons_succ, List.set_cons_zero, List.set_cons_succ, List.replicate, Nat.reduceAdd, Nat.reduceSub, Nat.zero_add, Nat.sub_self, Nat.add_sub_cancel, kt_tt, wChain, sFor, sForR, forStep, gwLst, listD, wCut, wStar, oListM, oTupl, seqD, oLcm, wCallP3, p3rev, p3mid, wAppend, lk_top, lk_bot, w1, w2, numD_int, numD_ins, w_is_int, w_is_number, wi_Ratio]
    refine ⟨⟨by decide, nmono (m := 1) (by decide) (by decide)⟩, ?_⟩
    rw [mkR_one]
    exact h
  · simp only [true_and, and_true, oU2, oUn1, oL1, oS1, oR1, oJust, iAdd, iSub, iMul, iFdiv, iMod, iEq, iNe, iLt, iLe, iGt, iGe, iNeg, iAbs, DL.iStr, wFmt, wJs, wJoined, sNext, sSeq, sDrop, sRet, sRetN, sIf, sAsg, sPar, wOp, wVar, wC, wUn, wCons, wNil, wCB, wCall, wMake, wMakeSw, wCallSw, wProp, wFld, oI, oI0, oU, wTest, wAnd, wOr, wNot, wAndV, wOrV, wNotV, wIf, wTup, wLst, wLstM, gwName, gwNil, gwCons, gwTup, gwSub, oIx, oInt1, oAbsI, oLen, oGcd, oDivmod, oMax2, oMin2, oIsi, tyOf, clOf, kt_ii, kt_ib, kt_rr, kt_ir, kt_ri, kt_rb, kt_ni, kt_bi, kt_bb, kt_si, kt_ti, kt_li, kt_di, kt_nr, kt_br, kt_sr, kt_tr, kt_lr, kt_dr, oStrI, if_t1, if_f1, Bool.not_true, Bool.not_false, rt, startD, List.map_cons, List.map_nil, List.length_cons, List.length_nil, List.cons_append, List.nil_append, List.getElem?_cons_zero, List.getElem?_cons_succ, List.set_cons_zero, List.set_cons_succ, List.replicate, Nat.reduceAdd, Nat.reduceSub, Nat.zero_add, Nat.sub_self, Nat.add_sub_cancel, kt_tt, wChain, sFor, sForR, forStep, gwLst, listD, wCut, wStar, oListM, oTupl, seqD, oLcm, wCallP3, p3rev, p3mid, wAppend, lk_top, lk_bot, w1, w2, numD_int, numD_ins, w_is_int, w_is_number, wi_Ratio]
    exact h
def w_top : WF := w1r fun p S Q => Q (.int p.1) S
theorem sc_R_top : FnScope ["self"] ["self"] (defScope s_R_top) := ⟨rfl, rfl, rfl, by decide +kernel, rfl, by decide +kernel, by decide +kernel⟩
theorem ok_R_top (T : Tx K mg) : FnOk P w K mg base CX0 1 T.f_R_top T.fd_R_top ["self"] (spW ⟨K, mg⟩ 1 w_top) := by
  refine fnD (k := 0) T.F_R_top sc_R_top (fun cdv A outer s H E hr => ⟨_, (dss_one (ds_ret (d_fld (dv 0) T.g_Ratio T.cl T.na_top)))⟩) (fun ds S Q hl h => ?_)
  obtain ⟨t, b, rfl, h⟩ := one_rat h
  simp only [true_and, and_true, oU2, oUn1, oL1, oS1, oR1, oJust, iAdd, iSub, iMul, iFdiv, iMod, iEq, iNe, iLt, iLe, iGt, iGe, iNeg, iAbs, DL.iStr, wFmt, wJs, wJoined, sNext, sSeq, sDrop, sRet, sRetN, sIf, sAsg, sPar, wOp, wVar, wC, wUn, wCons, wNil, wCB, wCall, wMake, wMakeSw, wCallSw, wProp, wFld, oI, oI0, oU, wTest, wAnd, wOr, wNot, wAndV, wOrV, wNotV, wIf, wTup, wLst, wLstM, gwName, gwNil, gwCons, gwTup, gwSub, oIx, oInt1, oAbsI, oLen, oGcd, oDivmod, oMax2, oMin2, oIsi, tyOf, clOf, kt_ii, kt_ib, kt_rr, kt_ir, kt_ri, kt_rb, kt_ni, kt_bi, kt_bb, kt_si, kt_ti, kt_li, kt_di, kt_nr, kt_br, kt_sr, kt_tr, kt_lr, kt_dr, oStrI, if_t1, if_f1, Bool.not_true, Bool.not_false, rt, startD, List.map_cons, List.map_nil, List.length_cons, List.length_nil, List.cons_append, List.nil_append, List.getElem?_cons_zero, List.getElem?_cons_succ, List.set_cons_zero, List.set_cons_succ, List.replicate, Nat.reduceAdd, Nat.reduceSub, Nat.zero_add, Nat.sub_self, Nat.add_sub_cancel, kt_tt, wChain, sFor, sForR, forStep, gwLst, listD, wCut, wStar, oListM, oTupl, seqD, oLcm, wCallP3, p3rev, p3mid, wAppend, lk_top, lk_bot, w1, w2, numD_int, numD_ins, w_is_int, w_is_number, wi_Ratio, w_as_ratio]
  exact h
def w_bottom : WF := w1r fun p S Q => Q (.int p.2) S
theorem sc_R_bottom : FnScope ["self"] ["self"] (defScope s_R_bottom) := ⟨rfl, rfl, rfl, by decide +kernel, rfl, by decide +kernel, by decide +kernel⟩
theorem ok_R_bottom (T : Tx K mg) : FnOk P w K mg base CX0 1 T.f_R_bottom T.fd_R_bottom ["self"] (spW ⟨K, mg⟩ 1 w_bottom) := by
  refine fnD (k := 0) T.F_R_bottom sc_R_bottom (fun cdv A outer s H E hr => ⟨_, (dss_one (ds_ret (d_fld (dv 0) T.g_Ratio T.cl T.na_bottom)))⟩) (fun ds S Q hl h => ?_)
  obtain ⟨t, b, rfl, h⟩ := one_rat h
  simp only [true_and, and_true, oU2, oUn1, oL1, oS1, oR1, oJust, iAdd, iSub, iMul, iFdiv, iMod, iEq, iNe, iLt, iLe, iGt, iGe, iNeg, iAbs, DL.iStr, wFmt, wJs, wJoined, sNext, sSeq, sDrop, sRet, sRetN, sIf, sAsg, sPar, wOp, wVar, wC, wUn, wCons, wNil, wCB, wCall, wMake, wMakeSw, wCallSw, wProp, wFld, oI, oI0, oU, wTest, wAnd, wOr, wNot, wAndV, wOrV, wNotV, wIf, wTup, wLst, wLstM, gwName, gwNil, gwCons, gwTup, gwSub, oIx, oInt1, oAbsI, oLen, oGcd, oDivmod, oMax2, oMin2, oIsi, tyOf, clOf, kt_ii, kt_ib, kt_rr, kt_ir, kt_ri, kt_rb, kt_ni, kt_bi, kt_bb, kt_si, kt_ti, kt_li, kt_di, kt_nr, kt_br, kt_sr, kt_tr, kt_lr, kt_dr, oStrI, if_t1, if_f1, Bool.not_true, Bool.not_false, rt, startD, List.map_cons, List.map_nil, List.length_cons, List.length_nil, List.cons_append, List.nil_append, List.getElem?_cons_zero, List.getElem?_cons_succ, List.set_cons_zero, List.set_cons_succ, List.replicate, Nat.reduceAdd, Nat.reduceSub, Nat.zero_add, Nat.sub_self, Nat.add_sub_cancel, kt_tt, wChain, sFor, sForR, forStep, gwLst, listD, wCut, wStar, oListM, oTupl, seqD, oLcm, wCallP3, p3rev, p3mid, wAppend, lk_top, lk_bot, w1, w2, numD_int, numD_ins, w_is_int, w_is_number, wi_Ratio, w_as_ratio]
  exact h
theorem cm8 {a b : Int} (ha : a.natAbs < 2 ^ 2000) (hb : b.natAbs < 2 ^ 2000) : CMulW a b := wide_mul ha hb (by decide) (by decide) (by decide)
theorem Sz.one {i : Int} {n : Nat} (hn : 0 < n) (h : i.natAbs < 2 ^ n) : Sz n (i, 1) := ⟨(by show (0 : Int) < 1; decide), h, nmono (m := 1) (by show 1 < 2; decide) (by omega)⟩

theorem lkm (t b : Int) {m : Str} (h1 : ¬ m = "_top") (h2 : ¬ m = "_bottom") : List.lookup m [(("_top" : Str), D.int t), ("_bottom", .int b)] = none := by
  have q1 : (m == ("_top" : Str)) = false := by simpa using h1
  have q2 : (m == ("_bottom" : Str)) = false := by simpa using h2
  simp [List.lookup, q1, q2]
theorem lk_ex (t b : Int) : List.lookup ("_excess" : Str) [(("_top" : Str), D.int t), ("_bottom", .int b)] = none := lkm t b (by decide +kernel) (by decide +kernel)

def w_excess : WF := w2r fun p q S Q => (Sz 2000 p ∧ Sz 2000 q) ∧ Q (.int (p.1 * q.2 - q.1 * p.2)) S
theorem sc_R_excess : FnScope ["self", "number", "right"] ["self", "number"] (defScope s_R_excess) := ⟨rfl, rfl, rfl, by decide +kernel, rfl, by decide +kernel, by decide +kernel⟩
theorem ok_R_excess (T : Tx K mg) : FnOk P w K mg base CX0 6 T.f_R_excess T.fd_R_excess ["self", "number"] (spW ⟨K, mg⟩ 2 w_excess) := by
  refine fnD (k := 5) T.F_R_excess sc_R_excess (fun cdv A outer s H E hr => ⟨_, (dss_cons (ds_set (i := 2) sc_R_excess.nd (d_call (ok_as_ratio T) (hr.mono (by decide)) T.m_as_ratio T.F_as_ratio.kp T.b_as_ratio (da_cons (dv 1) da_nil)))
  (dss_one (ds_ret (d_op op_sub snd_iSub (d_op op_mulW snd_iMul (d_fld (dv 0) T.g_Ratio T.cl T.na_top) (d_prop (dv 2) T.g_Ratio T.cl T.p_bottom (ok_R_bottom T) (hr.mono (by decide)) T.b_R_bottom)) (d_op op_mulW snd_iMul (d_prop (dv 2) T.g_Ratio T.cl T.p_top (ok_R_top T) (hr.mono (by decide)) T.b_R_top) (d_fld (dv 0) T.g_Ratio T.cl T.na_bottom))))))⟩) (fun ds S Q hl h => ?_)
  obtain ⟨t, b, y, q, rfl, hq, ⟨sp, sq⟩, h⟩ := two_rat h
  have h1 : t.natAbs < 2 ^ 2000 := sp.2.1
  have h2 : b.natAbs < 2 ^ 2000 := sp.2.2
  have h3 : q.1.natAbs < 2 ^ 2000 := sq.2.1
  have h4 : q.2.natAbs < 2 ^ 2000 := sq.2.2
  rcases num_in hq with ⟨i, rfl, rfl⟩ | ⟨u, d, rfl, rfl⟩
  · simp only [true_and, and_true, oU2, oUn1, oL1, oS1, oR1, oJust, iAdd, iSub, iMul, iFdiv, iMod, iEq, iNe, iLt, iLe, iGt, iGe, iNeg, iAbs, DL.iStr, wFmt, wJs, wJoined, sNext, sSeq, sDrop, sRet, sRetN, sIf, sAsg, sPar, wOp, wVar, wC, wUn, wCons, wNil, wCB, wCall, wMake, wMakeSw, wCallSw, wProp, wFld, oI, oI0, oU, wTest, wAnd, wOr, wNot, wAndV, wOrV, wNotV, wIf, wTup, wLst, wLstM, gwName, gwNil, gwCons, gwTup, gwSub, oIx, oInt1, oAbsI, oLen, oGcd, oDivmod, oMax2, oMin2, oIsi, tyOf, clOf, kt_ii, kt_ib, kt_rr, kt_ir, kt_ri, kt_rb, kt_ni, kt_bi, kt_bb, kt_si, kt_ti, kt_li, kt_di, kt_nr, kt_br, kt_sr, kt_tr, kt_lr, kt_dr, oStrI, if_t1, if_f1, Bool.not_true, Bool.not_false, rt, startD, List.map_cons, List.map_nil, List.length_cons, List.length_nil, List.cons_append, List.nil_append, List.getElem?_cons_zero, List.getElem?_cons_succ, List.set_cons_zero, List.set_cons_succ, List.replicate, Nat.reduceAdd, Nat.reduceSub, Nat.zero_add, Nat.sub_self, Nat.add_sub_cancel, kt_tt, wChain, sFor, sForR, forStep, gwLst, listD, wCut, wStar, oListM, oTupl, seqD, oLcm, wCallP3, p3rev, p3mid, wAppend, lk_top, lk_bot, w1, w2, numD_int, numD_ins, w_is_int, w_is_number, wi_Ratio, w_as_ratio, w_top, w_bottom, w1r, w2r, lk_ex, wMeth]
    exact ⟨cm8 h1 h4, cm8 h3 h2, h⟩
  · simp only [true_and, and_true, oU2, oUn1, oL1, oS1, oR1, oJust, iAdd, iSub, iMul, iFdiv, iMod, iEq, iNe, iLt, iLe, iGt, iGe, iNeg, iAbs, DL.iStr, wFmt, wJs, wJoined, sNext, sSeq, sDrop, sRet, sRetN, sIf, sAsg, sPar, wOp, wVar, wC, wUn, wCons, wNil, wCB, wCall, wMake, wMakeSw, wCallSw, wProp, wFld, oI, oI0, oU, wTest, wAnd, wOr, wNot, wAndV, wOrV, wNotV, wIf, wTup, wLst, wLstM, gwName, gwNil, gwCons, gwTup, gwSub, oIx, oInt1, oAbsI, oLen, oGcd, oDivmod, oMax2, oMin2, oIsi, tyOf, clOf, kt_ii, kt_ib, kt_rr, kt_ir, kt_ri, kt_rb, kt_ni, kt_bi, kt_bb, kt_si, kt_ti, kt_li, kt_di, kt_nr, kt_br, kt_sr, kt_tr, kt_lr, kt_dr, oStrI, if_t1, if_f1, Bool.not_true, Bool.not_false, rt, startD, List.map_cons, List.map_nil, List.length_cons, List.length_nil, List.cons_append, List.nil_append, List.getElem?_cons_zero, List.getElem?_cons_succ, List.set_cons_zero, List.set_cons_succ, List.replicate, Nat.reduceAdd, Nat.reduceSub, Nat.zero_add, Nat.sub_self, Nat.add_sub_cancel, kt_tt, wChain, sFor, sForR, forStep, gwLst, listD, wCut, wStar, oListM, oTupl, seqD, oLcm, wCallP3, p3rev, p3mid, wAppend, lk_top, lk_bot, w1, w2, numD_int, numD_ins, w_is_int, w_is_number, wi_Ratio, w_as_ratio, w_top, w_bottom, w1r, w2r, lk_ex, wMeth]
    exact ⟨cm8 h1 h4, cm8 h3 h2, h⟩
def w_lt : WF := w2r fun p q S Q => (Sz 2000 p ∧ Sz 2000 q) ∧ Q (.bl (decide (p.1 * q.2 - q.1 * p.2 < 0))) S
theorem sc_R_lt : FnScope ["self", "other"] ["self", "other"] (defScope s_R_lt) := ⟨rfl, rfl, rfl, by decide +kernel, rfl, by decide +kernel, by decide +kernel⟩
theorem ok_R_lt (T : Tx K mg) : FnOk P w K mg base CX0 8 T.f_R_lt T.fd_R_lt ["self", "other"] (spW ⟨K, mg⟩ 2 w_lt) := by
  refine fnD (k := 7) T.F_R_lt sc_R_lt (fun cdv A outer s H E hr => ⟨_, (dss_cons (ds_if (dt_not (dt_val (d_call (ok_is_number T) (hr.mono (by decide)) T.m_is_number T.F_is_number.kp T.b_is_number (da_cons (dv 1) da_nil)))) (dss_one ds_never) dss_nil)
  (dss_one (ds_ret (d_cmp op_lt snd_iLt (d_meth (dv 0) T.g_Ratio T.cl T.M_R_excess (ok_R_excess T) (hr.mono (by decide)) T.b_R_excess (da_cons (dv 1) da_nil)) d_int (nomark _)))))⟩) (fun ds S Q hl h => ?_)
  obtain ⟨t, b, y, q, rfl, hq, ⟨sp, sq⟩, h⟩ := two_rat h
  have h1 : t.natAbs < 2 ^ 2000 := sp.2.1
  have h2 : b.natAbs < 2 ^ 2000 := sp.2.2
  have h3 : q.1.natAbs < 2 ^ 2000 := sq.2.1
  have h4 : q.2.natAbs < 2 ^ 2000 := sq.2.2
  rcases num_in hq with ⟨i, rfl, rfl⟩ | ⟨u, d, rfl, rfl⟩
  · simp only [true_and, and_true, oU2, oUn1, oL1, oS1, oR1, oJust, iAdd, iSub, iMul, iFdiv, iMod, iEq, iNe, iLt, iLe, iGt, iGe, iNeg, iAbs, DL.iStr, wFmt, wJs, wJoined, sNext, sSeq, sDrop, sRet, sRetN, sIf, sAsg, sPar, wOp, wVar, wC, wUn, wCons, wNil, wCB, wCall, wMake, wMakeSw, wCallSw, wProp, wFld, oI, oI0, oU, wTest, wAnd, wOr, wNot, wAndV, wOrV, wNotV, wIf, wTup, wLst, wLstM, gwName, gwNil, gwCons, gwTup, gwSub, oIx, oInt1, oAbsI, oLen, oGcd, oDivmod, oMax2, oMin2, oIsi, tyOf, clOf, kt_ii, kt_ib, kt_rr, kt_ir, kt_ri, kt_rb, kt_ni, kt_bi, kt_bb, kt_si, kt_ti, kt_li, kt_di, kt_nr, kt_br, kt_sr, kt_tr, kt_lr, kt_dr, oStrI, if_t1, if_f1, Bool.not_true, Bool.not_false, rt, startD, List.map_cons, List.map_nil, List.length_cons, List.length_nil, List.cons_append, List.nil_append, List.getElem?_cons_zero, List.getElem?_cons_succ, List.set_cons_zero, List.set_cons_succ, List.replicate, Nat.reduceAdd, Nat.reduceSub, Nat.zero_add, Nat.sub_self, Nat.add_sub_cancel, kt_tt, wChain, sFor, sForR, forStep, gwLst, listD, wCut, wStar, oListM, oTupl, seqD, oLcm, wCallP3, p3rev, p3mid, wAppend, lk_top, lk_bot, w1, w2, numD_int, numD_ins, w_is_int, w_is_number, wi_Ratio, w_as_ratio, w_top, w_bottom, w1r, w2r, lk_ex, wMeth, w_excess]
    exact ⟨⟨sp, sq⟩, h⟩
  · simp only [true_and, and_true, oU2, oUn1, oL1, oS1, oR1, oJust, iAdd, iSub, iMul, iFdiv, iMod, iEq, iNe, iLt, iLe, iGt, iGe, iNeg, iAbs, DL.iStr, wFmt, wJs, wJoined, sNext, sSeq, sDrop, sRet, sRetN, sIf, sAsg, sPar, wOp, wVar, wC, wUn, wCons, wNil, wCB, wCall, wMake, wMakeSw, wCallSw, wProp, wFld, oI, oI0, oU, wTest, wAnd, wOr, wNot, wAndV, wOrV, wNotV, wIf, wTup, wLst, wLstM, gwName, gwNil, gwCons, gwTup, gwSub, oIx, oInt1, oAbsI, oLen, oGcd, oDivmod, oMax2, oMin2, oIsi, tyOf, clOf, kt_ii, kt_ib, kt_rr, kt_ir, kt_ri, kt_rb, kt_ni, kt_bi, kt_bb, kt_si, kt_ti, kt_li, kt_di, kt_nr, kt_br, kt_sr, kt_tr, kt_lr, kt_dr, oStrI, if_t1, if_f1, Bool.not_true, Bool.not_false, rt, startD, List.map_cons, List.map_nil, List.length_cons, List.length_nil, List.cons_append, List.nil_append, List.getElem?_cons_zero, List.getElem?_cons_succ, List.set_cons_zero, List.set_cons_succ, List.replicate, Nat.reduceAdd, Nat.reduceSub, Nat.zero_add, Nat.sub_self, Nat.add_sub_cancel, kt_tt, wChain, sFor, sForR, forStep, gwLst, listD, wCut, wStar, oListM, oTupl, seqD, oLcm, wCallP3, p3rev, p3mid, wAppend, lk_top, lk_bot, w1, w2, numD_int, numD_ins, w_is_int, w_is_number, wi_Ratio, w_as_ratio, w_top, w_bottom, w1r, w2r, lk_ex, wMeth, w_excess]
    exact ⟨⟨sp, sq⟩, h⟩
def w_le : WF := w2r fun p q S Q => (Sz 2000 p ∧ Sz 2000 q) ∧ Q (.bl (decide (p.1 * q.2 - q.1 * p.2 ≤ 0))) S
theorem sc_R_le : FnScope ["self", "other"] ["self", "other"] (defScope s_R_le) := ⟨rfl, rfl, rfl, by decide +kernel, rfl, by decide +kernel, by decide +kernel⟩
theorem ok_R_le (T : Tx K mg) : FnOk P w K mg base CX0 8 T.f_R_le T.fd_R_le ["self", "other"] (spW ⟨K, mg⟩ 2 w_le) := by
  refine fnD (k := 7) T.F_R_le sc_R_le (fun cdv A outer s H E hr => ⟨_, (dss_cons (ds_if (dt_not (dt_val (d_call (ok_is_number T) (hr.mono (by decide)) T.m_is_number T.F_is_number.kp T.b_is_number (da_cons (dv 1) da_nil)))) (dss_one ds_never) dss_nil)
  (dss_one (ds_ret (d_cmp op_le snd_iLe (d_meth (dv 0) T.g_Ratio T.cl T.M_R_excess (ok_R_excess T) (hr.mono (by decide)) T.b_R_excess (da_cons (dv 1) da_nil)) d_int (nomark _)))))⟩) (fun ds S Q hl h => ?_)
  obtain ⟨t, b, y, q, rfl, hq, ⟨sp, sq⟩, h⟩ := two_rat h
  have h1 : t.natAbs < 2 ^ 2000 := sp.2.1
  have h2 : b.natAbs < 2 ^ 2000 := sp.2.2
  have h3 : q.1.natAbs < 2 ^ 2000 := sq.2.1
  have h4 : q.2.natAbs < 2 ^ 2000 := sq.2.2
  rcases num_in hq with ⟨i, rfl, rfl⟩ | ⟨u, d, rfl, rfl⟩
  · simp only [true_and, and_true, oU2, oUn1, oL1, oS1, oR1, oJust, iAdd, iSub, iMul, iFdiv, iMod, iEq, iNe, iLt, iLe, iGt, iGe, iNeg, iAbs, DL.iStr, wFmt, wJs, wJoined, sNext, sSeq, sDrop, sRet, sRetN, sIf, sAsg, sPar, wOp, wVar, wC, wUn, wCons, wNil, wCB, wCall, wMake, wMakeSw, wCallSw, wProp, wFld, oI, oI0, oU, wTest, wAnd, wOr, wNot, wAndV, wOrV, wNotV, wIf, wTup, wLst, wLstM, gwName, gwNil, gwCons, gwTup, gwSub, oIx, oInt1, oAbsI, oLen, oGcd, oDivmod, oMax2, oMin2, oIsi, tyOf, clOf, kt_ii, kt_ib, kt_rr, kt_ir, kt_ri, kt_rb, kt_ni, kt_bi, kt_bb, kt_si, kt_ti, kt_li, kt_di, kt_nr, kt_br, kt_sr, kt_tr, kt_lr, kt_dr, oStrI, if_t1, if_f1, Bool.not_true, Bool.not_false, rt, startD, List.map_cons, List.map_nil, List.length_cons, List.length_nil, List.cons_append, List.nil_append, List.getElem?_cons_zero, List.getElem?_cons_succ, List.set_cons_zero, List.set_cons_succ, List.replicate, Nat.reduceAdd, Nat.reduceSub, Nat.zero_add, Nat.sub_self, Nat.add_sub_cancel, kt_tt, wChain, sFor, sForR, forStep, gwLst, listD, wCut, wStar, oListM, oTupl, seqD, oLcm, wCallP3, p3rev, p3mid, wAppend, lk_top, lk_bot, w1, w2, numD_int, numD_ins, w_is_int, w_is_number, wi_Ratio, w_as_ratio, w_top, w_bottom, w1r, w2r, lk_ex, wMeth, w_excess]
    exact ⟨⟨sp, sq⟩, h⟩
  · simp only [true_and, and_true, oU2, oUn1, oL1, oS1, oR1, oJust, iAdd, iSub, iMul, iFdiv, iMod, iEq, iNe, iLt, iLe, iGt, iGe, iNeg, iAbs, DL.iStr, wFmt, wJs, wJoined, sNext, sSeq, sDrop, sRet, sRetN, sIf, sAsg, sPar, wOp, wVar, wC, wUn, wCons, wNil, wCB, wCall, wMake, wMakeSw, wCallSw, wProp, wFld, oI, oI0, oU, wTest, wAnd, wOr, wNot, wAndV, wOrV, wNotV, wIf, wTup, wLst, wLstM, gwName, gwNil, gwCons, gwTup, gwSub, oIx, oInt1, oAbsI, oLen, oGcd, oDivmod, oMax2, oMin2, oIsi, tyOf, clOf, kt_ii, kt_ib, kt_rr, kt_ir, kt_ri, kt_rb, kt_ni, kt_bi, kt_bb, kt_si, kt_ti, kt_li, kt_di, kt_nr, kt_br, kt_sr, kt_tr, kt_lr, kt_dr, oStrI, if_t1, if_f1, Bool.not_true, Bool.not_false, rt, startD, List.map_cons, List.map_nil, List.length_cons, List.length_nil, List.cons_append, List.nil_append, List.getElem?_cons_zero, List.getElem?_cons_succ, List.set_cons_zero, List.set_cons_succ, List.replicate, Nat.reduceAdd, Nat.reduceSub, Nat.zero_add, Nat.sub_self, Nat.add_sub_cancel, kt_tt, wChain, sFor, sForR, forStep, gwLst, listD, wCut, wStar, oListM, oTupl, seqD, oLcm, wCallP3, p3rev, p3mid, wAppend, lk_top, lk_bot, w1, w2, numD_int, numD_ins, w_is_int, w_is_number, wi_Ratio, w_as_ratio, w_top, w_bottom, w1r, w2r, lk_ex, wMeth, w_excess]
    exact ⟨⟨sp, sq⟩, h⟩
def w_gt : WF := w2r fun p q S Q => (Sz 2000 p ∧ Sz 2000 q) ∧ Q (.bl (decide (p.1 * q.2 - q.1 * p.2 > 0))) S
theorem sc_R_gt : FnScope ["self", "other"] ["self", "other"] (defScope s_R_gt) := ⟨rfl, rfl, rfl, by decide +kernel, rfl, by decide +kernel, by decide +kernel⟩
theorem ok_R_gt (T : Tx K mg) : FnOk P w K mg base CX0 8 T.f_R_gt T.fd_R_gt ["self", "other"] (spW ⟨K, mg⟩ 2 w_gt) := by
  refine fnD (k := 7) T.F_R_gt sc_R_gt (fun cdv A outer s H E hr => ⟨_, (dss_cons (ds_if (dt_not (dt_val (d_call (ok_is_number T) (hr.mono (by decide)) T.m_is_number T.F_is_number.kp T.b_is_number (da_cons (dv 1) da_nil)))) (dss_one ds_never) dss_nil)
  (dss_one (ds_ret (d_cmp op_gt snd_iGt (d_meth (dv 0) T.g_Ratio T.cl T.M_R_excess (ok_R_excess T) (hr.mono (by decide)) T.b_R_excess (da_cons (dv 1) da_nil)) d_int (nomark _)))))⟩) (fun ds S Q hl h => ?_)
  obtain ⟨t, b, y, q, rfl, hq, ⟨sp, sq⟩, h⟩ := two_rat h
  have h1 : t.natAbs < 2 ^ 2000 := sp.2.1
  have h2 : b.natAbs < 2 ^ 2000 := sp.2.2
  have h3 : q.1.natAbs < 2 ^ 2000 := sq.2.1
  have h4 : q.2.natAbs < 2 ^ 2000 := sq.2.2
  rcases num_in hq with ⟨i, rfl, rfl⟩ | ⟨u, d, rfl, rfl⟩
  · simp only [true_and, and_true, oU2, oUn1, oL1, oS1, oR1, oJust, iAdd, iSub, iMul, iFdiv, iMod, iEq, iNe, iLt, iLe, iGt, iGe, iNeg, iAbs, DL.iStr, wFmt, wJs, wJoined, sNext, sSeq, sDrop, sRet, sRetN, sIf, sAsg, sPar, wOp, wVar, wC, wUn, wCons, wNil, wCB, wCall, wMake, wMakeSw, wCallSw, wProp, wFld, oI, oI0, oU, wTest, wAnd, wOr, wNot, wAndV, wOrV, wNotV, wIf, wTup, wLst, wLstM, gwName, gwNil, gwCons, gwTup, gwSub, oIx, oInt1, oAbsI, oLen, oGcd, oDivmod, oMax2, oMin2, oIsi, tyOf, clOf, kt_ii, kt_ib, kt_rr, kt_ir, kt_ri, kt_rb, kt_ni, kt_bi, kt_bb, kt_si, kt_ti, kt_li, kt_di, kt_nr, kt_br, kt_sr, kt_tr, kt_lr, kt_dr, oStrI, if_t1, if_f1, Bool.not_true, Bool.not_false, rt, startD, List.map_cons, List.map_nil, List.length_cons, List.length_nil, List.cons_append, List.nil_append, List.getElem?_cons_zero, List.getElem?_cons_succ, List.set_cons_zero, List.set_cons_succ, List.replicate, Nat.reduceAdd, Nat.reduceSub, Nat.zero_add, Nat.sub_self, Nat.add_sub_cancel, kt_tt, wChain, sFor, sForR, forStep, gwLst, listD, wCut, wStar, oListM, oTupl, seqD, oLcm, wCallP3, p3rev, p3mid, wAppend, lk_top, lk_bot, w1, w2, numD_int, numD_ins, w_is_int, w_is_number, wi_Ratio, w_as_ratio, w_top, w_bottom, w1r, w2r, lk_ex, wMeth, w_excess]
    exact ⟨⟨sp, sq⟩, h⟩
  · simp only [true_and, and_true, oU2, oUn1, oL1, oS1, oR1, oJust, iAdd, iSub, iMul, iFdiv, iMod, iEq, iNe, iLt, iLe, iGt, iGe, iNeg, iAbs, DL.iStr, wFmt, wJs, wJoined, sNext, sSeq, sDrop, sRet, sRetN, sIf, sAsg, sPar, wOp, wVar, wC, wUn, wCons, wNil, wCB, wCall, wMake, wMakeSw, wCallSw, wProp, wFld, oI, oI0, oU, wTest, wAnd, wOr, wNot, wAndV, wOrV, wNotV, wIf, wTup, wLst, wLstM, gwName, gwNil, gwCons, gwTup, gwSub, oIx, oInt1, oAbsI, oLen, oGcd, oDivmod, oMax2, oMin2, oIsi, tyOf, clOf, kt_ii, kt_ib, kt_rr, kt_ir, kt_ri, kt_rb, kt_ni, kt_bi, kt_bb, kt_si, kt_ti, kt_li, kt_di, kt_nr, kt_br, kt_sr, kt_tr, kt_lr, kt_dr, oStrI, if_t1, if_f1, Bool.not_true, Bool.not_false, rt, startD, List.map_cons, List.map_nil, List.length_cons, List.length_nil, List.cons_append, List.nil_append, List.getElem?_cons_zero, List.getElem?_cons_succ, List.set_cons_zero, List.set_cons_succ, List.replicate, Nat.reduceAdd, Nat.reduceSub, Nat.zero_add, Nat.sub_self, Nat.add_sub_cancel, kt_tt, wChain, sFor, sForR, forStep, gwLst, listD, wCut, wStar, oListM, oTupl, seqD, oLcm, wCallP3, p3rev, p3mid, wAppend, lk_top, lk_bot, w1, w2, numD_int, numD_ins, w_is_int, w_is_number, wi_Ratio, w_as_ratio, w_top, w_bottom, w1r, w2r, lk_ex, wMeth, w_excess]
    exact ⟨⟨sp, sq⟩, h⟩
theorem npow {t : Int} {m : Nat} (h : t.natAbs < 2 ^ m) : ∀ i : Nat, (t ^ i).natAbs < 2 ^ (i * m + 1)
  | 0 => by simp
  | i + 1 => by
    have ih := npow h i
    have hm : t.natAbs ≤ 2 ^ m := Nat.le_of_lt h
    rw [Int.pow_succ, Int.natAbs_mul, show (i + 1) * m + 1 = (i * m + 1) + m by rw [Nat.add_mul]; omega, Nat.pow_add]
    exact Nat.lt_of_le_of_lt (Nat.mul_le_mul_left _ hm) (Nat.mul_lt_mul_of_pos_right ih (Nat.pow_pos (by decide)))

theorem range_mem {n : Nat} {d : D} (h : d ∈ rangeD 0 n) : ∃ i : Int, d = .int i ∧ 0 ≤ i ∧ i < n := by
  unfold rangeD at h
  obtain ⟨i, hi, rfl⟩ := List.mem_map.mp h
  exact ⟨_, rfl, by omega, by have := List.mem_range.mp hi; omega⟩
theorem range_len {n : Nat} : (rangeD 0 n).length = n := by simp [rangeD]

theorem cmL {a b : Int} {m n : Nat} (ha : a.natAbs < 2 ^ m) (hb : b.natAbs < 2 ^ n) (hm : 0 < m) (hn : 0 < n) (h : m + n ≤ 500000) : CMulW a b := wide_mul ha hb (by omega) (by omega) (by omega)
theorem pw_lt {t : Int} {m n e : Nat} (h : t.natAbs < 2 ^ m) (hz : n * m ≤ 8900) (he : e ≤ n) : (t ^ e).natAbs < 2 ^ 8901 := nmono (npow h e) (by have := Nat.mul_le_mul_right m he; omega)
theorem half_nat {n k : Nat} : n / 2 ^ k / 2 = n / 2 ^ (k + 1) := by rw [Nat.div_div_eq_div_mul, Nat.pow_succ]
theorem mod_next {n k : Nat} : n % 2 ^ (k + 1) = n % 2 ^ k + 2 ^ k * (n / 2 ^ k % 2) := by rw [Nat.pow_succ, Nat.mod_mul]
theorem fdiv2 (x : Nat) : (x : Int).fdiv 2 = ((x / 2 : Nat) : Int) := by rw [Int.fdiv_eq_ediv_of_nonneg _ (by decide)]; rfl
theorem fmod2 (x : Nat) : (x : Int).fmod 2 = ((x % 2 : Nat) : Int) := by rw [Int.fmod_eq_emod_of_nonneg _ (by decide)]; rfl

def w_raised : WF := fun ds S Q => match ds with
  | [.int t, .int e] => ∃ m : Nat, 0 ≤ e ∧ e ≤ 1000 ∧ t.natAbs < 2 ^ m ∧ e.toNat * m ≤ 8900 ∧ Q (.int (t ^ e.toNat)) S
  | _ => False
theorem sc_raised : FnScope ["number", "exponent", "product", "factor", "left"] ["number", "exponent"] (defScope s_raised) := ⟨rfl, rfl, rfl, by decide +kernel, rfl, by decide +kernel, by decide +kernel⟩
theorem ok_raised (T : Tx K mg) : FnOk P w K mg base CX0 1 T.f_raised T.fd_raised ["number", "exponent"] (spW ⟨K, mg⟩ 2 w_raised) := by
  refine fnD (k := 0) T.F_raised sc_raised (fun cdv A outer s H E hr => ⟨_, (dss_cons (ds_set (i := 2) sc_raised.nd d_int)
  (dss_cons (ds_set (i := 3) sc_raised.nd (dv 0))
  (dss_cons (ds_set (i := 4) sc_raised.nd (dv 1))
  (dss_cons (ds_while PassesOwn.never (dt_cmp op_gt snd_iGt (dv 4) d_int (nomark _)) (dss_cons (ds_if (dt_cmp op_eq snd_iEq (d_op op_modN snd_iMod (dv 4) d_int) d_int (nomark _)) (dss_one (ds_set (i := 2) sc_raised.nd (d_op op_mulW snd_iMul (dv 2) (dv 3)))) dss_nil)
  (dss_cons (ds_set (i := 3) sc_raised.nd (d_op op_mulW snd_iMul (dv 3) (dv 3)))
  (dss_one (ds_set (i := 4) sc_raised.nd (d_op op_fdivWN snd_iFdiv (dv 4) d_int))))))
  (dss_one (ds_ret (dv 2)))))))⟩) (fun ds S Q hl h => ?_)
  match ds, h with
  | [.int t, .int e], ⟨m, e0, e1, ht, hz, h⟩ =>
    obtain ⟨n, rfl⟩ := Int.eq_ofNat_of_zero_le e0
    have hz : n * m ≤ 8900 := by simpa using hz
    simp only [true_and, and_true, oU2, oUn1, oL1, oS1, oR1, oJust, iAdd, iSub, iMul, iFdiv, iMod, iEq, iNe, iLt, iLe, iGt, iGe, iNeg, iAbs, DL.iStr, wFmt, wJs, wJoined, sNext, sSeq, sDrop, sRet, sRetN, sIf, sAsg, sPar, wOp, wVar, wC, wUn, wCons, wNil, wCB, wCall, wMake, wMakeSw, wCallSw, wProp, wFld, oI, oI0, oU, wTest, wAnd, wOr, wNot, wAndV, wOrV, wNotV, wIf, wTup, wLst, wLstM, gwName, gwNil, gwCons, gwTup, gwSub, oIx, oInt1, oAbsI, oLen, oGcd, oDivmod, oMax2, oMin2, oIsi, tyOf, clOf, kt_ii, kt_ib, kt_rr, kt_ir, kt_ri, kt_rb, kt_ni, kt_bi, kt_bb, kt_si, kt_ti, kt_li, kt_di, kt_nr, kt_br, kt_sr, kt_tr, kt_lr, kt_dr, oStrI, if_t1, if_f1, Bool.not_true, Bool.not_false, rt, startD, List.map_cons, List.map_nil, List.length_cons, List.length_nil, List.cons_append, List.nil_append, List.getElem?_cons_zero, List.getElem?_cons_succ, List.set_cons_zero, List.set_cons_succ, List.replicate, Nat.reduceAdd, Nat.reduceSub, Nat.zero_add, Nat.sub_self, Nat.add_sub_cancel, kt_tt, wChain, sFor, sForR, forStep, gwLst, listD, wCut, wStar, oListM, oTupl, seqD, oLcm, wCallP3, p3rev, p3mid, wAppend, lk_top, lk_bot, w1, w2, numD_int, numD_ins, w_is_int, w_is_number, wi_Ratio, w_as_ratio, w_top, w_bottom, w1r, w2r, lk_ex, wMeth, w_excess, w_lt, w_le, w_gt, sWhile]
    refine ⟨fun μ ρ S' => S' = S ∧ ∃ k : Nat, ρ = [some (.int t), some (.int (n : Int)), some (.int (t ^ (n % 2 ^ k))), some (.int (t ^ (2 ^ k))), some (.int ((n / 2 ^ k : Nat) : Int))] ∧ μ = n / 2 ^ k, ⟨n, rfl, 0, by simp [Nat.mod_one, show t ^ 1 = t by rw [Int.pow_succ, Int.pow_zero, Int.one_mul]], by simp⟩, ?_⟩
    rintro μ ρ S' ⟨rfl, k, rfl, rfl⟩
    simp only [true_and, and_true, oU2, oUn1, oL1, oS1, oR1, oJust, iAdd, iSub, iMul, iFdiv, iMod, iEq, iNe, iLt, iLe, iGt, iGe, iNeg, iAbs, DL.iStr, wFmt, wJs, wJoined, sNext, sSeq, sDrop, sRet, sRetN, sIf, sAsg, sPar, wOp, wVar, wC, wUn, wCons, wNil, wCB, wCall, wMake, wMakeSw, wCallSw, wProp, wFld, oI, oI0, oU, wTest, wAnd, wOr, wNot, wAndV, wOrV, wNotV, wIf, wTup, wLst, wLstM, gwName, gwNil, gwCons, gwTup, gwSub, oIx, oInt1, oAbsI, oLen, oGcd, oDivmod, oMax2, oMin2, oIsi, tyOf, clOf, kt_ii, kt_ib, kt_rr, kt_ir, kt_ri, kt_rb, kt_ni, kt_bi, kt_bb, kt_si, kt_ti, kt_li, kt_di, kt_nr, kt_br, kt_sr, kt_tr, kt_lr, kt_dr, oStrI, if_t1, if_f1, Bool.not_true, Bool.not_false, rt, startD, List.map_cons, List.map_nil, List.length_cons, List.length_nil, List.cons_append, List.nil_append, List.getElem?_cons_zero, List.getElem?_cons_succ, List.set_cons_zero, List.set_cons_succ, List.replicate, Nat.reduceAdd, Nat.reduceSub, Nat.zero_add, Nat.sub_self, Nat.add_sub_cancel, kt_tt, wChain, sFor, sForR, forStep, gwLst, listD, wCut, wStar, oListM, oTupl, seqD, oLcm, wCallP3, p3rev, p3mid, wAppend, lk_top, lk_bot, w1, w2, numD_int, numD_ins, w_is_int, w_is_number, wi_Ratio, w_as_ratio, w_top, w_bottom, w1r, w2r, lk_ex, wMeth, w_excess, w_lt, w_le, w_gt, sWhile]
    by_cases c : 0 < n / 2 ^ k
    · rw [decide_eq_true (show (0 : Int) < ((n / 2 ^ k : Nat) : Int) by omega)]
      simp only [true_and, and_true, oU2, oUn1, oL1, oS1, oR1, oJust, iAdd, iSub, iMul, iFdiv, iMod, iEq, iNe, iLt, iLe, iGt, iGe, iNeg, iAbs, DL.iStr, wFmt, wJs, wJoined, sNext, sSeq, sDrop, sRet, sRetN, sIf, sAsg, sPar, wOp, wVar, wC, wUn, wCons, wNil, wCB, wCall, wMake, wMakeSw, wCallSw, wProp, wFld, oI, oI0, oU, wTest, wAnd, wOr, wNot, wAndV, wOrV, wNotV, wIf, wTup, wLst, wLstM, gwName, gwNil, gwCons, gwTup, gwSub, oIx, oInt1, oAbsI, oLen, oGcd, oDivmod, oMax2, oMin2, oIsi, tyOf, clOf, kt_ii, kt_ib, kt_rr, kt_ir, kt_ri, kt_rb, kt_ni, kt_bi, kt_bb, kt_si, kt_ti, kt_li, kt_di, kt_nr, kt_br, kt_sr, kt_tr, kt_lr, kt_dr, oStrI, if_t1, if_f1, Bool.not_true, Bool.not_false, rt, startD, List.map_cons, List.map_nil, List.length_cons, List.length_nil, List.cons_append, List.nil_append, List.getElem?_cons_zero, List.getElem?_cons_succ, List.set_cons_zero, List.set_cons_succ, List.replicate, Nat.reduceAdd, Nat.reduceSub, Nat.zero_add, Nat.sub_self, Nat.add_sub_cancel, kt_tt, wChain, sFor, sForR, forStep, gwLst, listD, wCut, wStar, oListM, oTupl, seqD, oLcm, wCallP3, p3rev, p3mid, wAppend, lk_top, lk_bot, w1, w2, numD_int, numD_ins, w_is_int, w_is_number, wi_Ratio, w_as_ratio, w_top, w_bottom, w1r, w2r, lk_ex, wMeth, w_excess, w_lt, w_le, w_gt, sWhile]
      have kn : 2 ^ k ≤ n := by
        rcases Nat.lt_or_ge n (2 ^ k) with l | l
        · rw [Nat.div_eq_of_lt l] at c; omega
        · exact l
      have f1 := pw_lt (e := 2 ^ k) ht hz kn
      have f2 := pw_lt (e := n % 2 ^ k) ht hz (Nat.mod_le _ _)
      have sq : t ^ (2 ^ k) * t ^ (2 ^ k) = t ^ (2 ^ (k + 1)) := by rw [← Int.pow_add, Nat.pow_succ, Nat.mul_two]
      have lt2 : n / 2 ^ (k + 1) < n / 2 ^ k := by rw [← half_nat]; omega
      refine ⟨by decide, ?_⟩
      rw [fmod2]
      by_cases c2 : n / 2 ^ k % 2 = 1
      · rw [decide_eq_true (show ((n / 2 ^ k % 2 : Nat) : Int) = 1 by omega)]
        simp only [true_and, and_true, oU2, oUn1, oL1, oS1, oR1, oJust, iAdd, iSub, iMul, iFdiv, iMod, iEq, iNe, iLt, iLe, iGt, iGe, iNeg, iAbs, DL.iStr, wFmt, wJs, wJoined, sNext, sSeq, sDrop, sRet, sRetN, sIf, sAsg, sPar, wOp, wVar, wC, wUn, wCons, wNil, wCB, wCall, wMake, wMakeSw, wCallSw, wProp, wFld, oI, oI0, oU, wTest, wAnd, wOr, wNot, wAndV, wOrV, wNotV, wIf, wTup, wLst, wLstM, gwName, gwNil, gwCons, gwTup, gwSub, oIx, oInt1, oAbsI, oLen, oGcd, oDivmod, oMax2, oMin2, oIsi, tyOf, clOf, kt_ii, kt_ib, kt_rr, kt_ir, kt_ri, kt_rb, kt_ni, kt_bi, kt_bb, kt_si, kt_ti, kt_li, kt_di, kt_nr, kt_br, kt_sr, kt_tr, kt_lr, kt_dr, oStrI, if_t1, if_f1, Bool.not_true, Bool.not_false, rt, startD, List.map_cons, List.map_nil, List.length_cons, List.length_nil, List.cons_append, List.nil_append, List.getElem?_cons_zero, List.getElem?_cons_succ, List.set_cons_zero, List.set_cons_succ, List.replicate, Nat.reduceAdd, Nat.reduceSub, Nat.zero_add, Nat.sub_self, Nat.add_sub_cancel, kt_tt, wChain, sFor, sForR, forStep, gwLst, listD, wCut, wStar, oListM, oTupl, seqD, oLcm, wCallP3, p3rev, p3mid, wAppend, lk_top, lk_bot, w1, w2, numD_int, numD_ins, w_is_int, w_is_number, wi_Ratio, w_as_ratio, w_top, w_bottom, w1r, w2r, lk_ex, wMeth, w_excess, w_lt, w_le, w_gt, sWhile]
        refine ⟨cmL f2 f1 (by decide) (by decide) (by decide), cmL f1 f1 (by decide) (by decide) (by decide), ⟨by decide, by decide⟩, n / 2 ^ (k + 1), lt2, k + 1, ?_, rfl⟩
        rw [fdiv2, half_nat, sq, mod_next, c2, Nat.mul_one, Int.pow_add]
      · rw [decide_eq_false (show ¬ ((n / 2 ^ k % 2 : Nat) : Int) = 1 by omega)]
        simp only [true_and, and_true, oU2, oUn1, oL1, oS1, oR1, oJust, iAdd, iSub, iMul, iFdiv, iMod, iEq, iNe, iLt, iLe, iGt, iGe, iNeg, iAbs, DL.iStr, wFmt, wJs, wJoined, sNext, sSeq, sDrop, sRet, sRetN, sIf, sAsg, sPar, wOp, wVar, wC, wUn, wCons, wNil, wCB, wCall, wMake, wMakeSw, wCallSw, wProp, wFld, oI, oI0, oU, wTest, wAnd, wOr, wNot, wAndV, wOrV, wNotV, wIf, wTup, wLst, wLstM, gwName, gwNil, gwCons, gwTup, gwSub, oIx, oInt1, oAbsI, oLen, oGcd, oDivmod, oMax2, oMin2, oIsi, tyOf, clOf, kt_ii, kt_ib, kt_rr, kt_ir, kt_ri, kt_rb, kt_ni, kt_bi, kt_bb, kt_si, kt_ti, kt_li, kt_di, kt_nr, kt_br, kt_sr, kt_tr, kt_lr, kt_dr, oStrI, if_t1, if_f1, Bool.not_true, Bool.not_false, rt, startD, List.map_cons, List.map_nil, List.length_cons, List.length_nil, List.cons_append, List.nil_append, List.getElem?_cons_zero, List.getElem?_cons_succ, List.set_cons_zero, List.set_cons_succ, List.replicate, Nat.reduceAdd, Nat.reduceSub, Nat.zero_add, Nat.sub_self, Nat.add_sub_cancel, kt_tt, wChain, sFor, sForR, forStep, gwLst, listD, wCut, wStar, oListM, oTupl, seqD, oLcm, wCallP3, p3rev, p3mid, wAppend, lk_top, lk_bot, w1, w2, numD_int, numD_ins, w_is_int, w_is_number, wi_Ratio, w_as_ratio, w_top, w_bottom, w1r, w2r, lk_ex, wMeth, w_excess, w_lt, w_le, w_gt, sWhile]
        refine ⟨cmL f1 f1 (by decide) (by decide) (by decide), ⟨by decide, by decide⟩, n / 2 ^ (k + 1), lt2, k + 1, ?_, rfl⟩
        rw [fdiv2, half_nat, sq, mod_next, show n / 2 ^ k % 2 = 0 by omega]
        simp only [Nat.mul_zero, Nat.add_zero]
    · rw [decide_eq_false (show ¬ (0 : Int) < ((n / 2 ^ k : Nat) : Int) by omega)]
      simp only [true_and, and_true, oU2, oUn1, oL1, oS1, oR1, oJust, iAdd, iSub, iMul, iFdiv, iMod, iEq, iNe, iLt, iLe, iGt, iGe, iNeg, iAbs, DL.iStr, wFmt, wJs, wJoined, sNext, sSeq, sDrop, sRet, sRetN, sIf, sAsg, sPar, wOp, wVar, wC, wUn, wCons, wNil, wCB, wCall, wMake, wMakeSw, wCallSw, wProp, wFld, oI, oI0, oU, wTest, wAnd, wOr, wNot, wAndV, wOrV, wNotV, wIf, wTup, wLst, wLstM, gwName, gwNil, gwCons, gwTup, gwSub, oIx, oInt1, oAbsI, oLen, oGcd, oDivmod, oMax2, oMin2, oIsi, tyOf, clOf, kt_ii, kt_ib, kt_rr, kt_ir, kt_ri, kt_rb, kt_ni, kt_bi, kt_bb, kt_si, kt_ti, kt_li, kt_di, kt_nr, kt_br, kt_sr, kt_tr, kt_lr, kt_dr, oStrI, if_t1, if_f1, Bool.not_true, Bool.not_false, rt, startD, List.map_cons, List.map_nil, List.length_cons, List.length_nil, List.cons_append, List.nil_append, List.getElem?_cons_zero, List.getElem?_cons_succ, List.set_cons_zero, List.set_cons_succ, List.replicate, Nat.reduceAdd, Nat.reduceSub, Nat.zero_add, Nat.sub_self, Nat.add_sub_cancel, kt_tt, wChain, sFor, sForR, forStep, gwLst, listD, wCut, wStar, oListM, oTupl, seqD, oLcm, wCallP3, p3rev, p3mid, wAppend, lk_top, lk_bot, w1, w2, numD_int, numD_ins, w_is_int, w_is_number, wi_Ratio, w_as_ratio, w_top, w_bottom, w1r, w2r, lk_ex, wMeth, w_excess, w_lt, w_le, w_gt, sWhile]
      have e : n % 2 ^ k = n := Nat.mod_eq_of_lt (Nat.lt_of_not_le fun l => c (Nat.div_pos l (Nat.pow_pos (by decide))))
      rw [e]
      have h : Q (.int (t ^ n)) S' := by simpa using h
      exact h
def w_is_int_within : WF := fun ds S Q => match ds with
  | [.int v, .int l, .int m] => (l ≤ v ∧ v ≤ m) ∧ Q (.bl true) S
  | _ => False
theorem sc_is_int_within : FnScope ["value", "least", "most"] ["value", "least", "most"] (defScope s_is_int_within) := ⟨rfl, rfl, rfl, by decide +kernel, rfl, by decide +kernel, by decide +kernel⟩
theorem ok_is_int_within (T : Tx K mg) : FnOk P w K mg base CX0 2 T.f_is_int_within T.fd_is_int_within ["value", "least", "most"] (spW ⟨K, mg⟩ 3 w_is_int_within) := by
  refine fnD (k := 1) T.F_is_int_within sc_is_int_within (fun cdv A outer s H E hr => ⟨_, (dss_one (ds_ret (d_and (d_call (ok_is_int T) (hr.mono (by decide)) T.m_is_int T.F_is_int.kp T.b_is_int (da_cons (dv 0) da_nil)) (d_one (d_chain op_le snd_iLe op_le snd_iLe (dv 1) (dv 0) (dv 2))))))⟩) (fun ds S Q hl h => ?_)
  match ds, h with
  | [.int v, .int l, .int m], ⟨⟨h1, h2⟩, h⟩ =>
    simp only [true_and, and_true, oU2, oUn1, oL1, oS1, oR1, oJust, iAdd, iSub, iMul, iFdiv, iMod, iEq, iNe, iLt, iLe, iGt, iGe, iNeg, iAbs, DL.iStr, wFmt, wJs, wJoined, sNext, sSeq, sDrop, sRet, sRetN, sIf, sAsg, sPar, wOp, wVar, wC, wUn, wCons, wNil, wCB, wCall, wMake, wMakeSw, wCallSw, wProp, wFld, oI, oI0, oU, wTest, wAnd, wOr, wNot, wAndV, wOrV, wNotV, wIf, wTup, wLst, wLstM, gwName, gwNil, gwCons, gwTup, gwSub, oIx, oInt1, oAbsI, oLen, oGcd, oDivmod, oMax2, oMin2, oIsi, tyOf, clOf, kt_ii, kt_ib, kt_rr, kt_ir, kt_ri, kt_rb, kt_ni, kt_bi, kt_bb, kt_si, kt_ti, kt_li, kt_di, kt_nr, kt_br, kt_sr, kt_tr, kt_lr, kt_dr, oStrI, if_t1, if_f1, Bool.not_true, Bool.not_false, rt, startD, List.map_cons, List.map_nil, List.length_cons, List.length_nil, List.cons_append, List.nil_append, List.getElem?_cons_zero, List.getElem?_cons_succ, List.set_cons_zero, List.set_cons_succ, List.replicate, Nat.reduceAdd, Nat.reduceSub, Nat.zero_add, Nat.sub_self, Nat.add_sub_cancel, kt_tt, wChain, sFor, sForR, forStep, gwLst, listD, wCut, wStar, oListM, oTupl, seqD, oLcm, wCallP3, p3rev, p3mid, wAppend, lk_top, lk_bot, w1, w2, numD_int, numD_ins, w_is_int, w_is_number, wi_Ratio, w_as_ratio, w_top, w_bottom, w1r, w2r, lk_ex, wMeth, w_excess, w_lt, w_le, w_gt, w_raised]
    rw [decide_eq_true h1]
    simp only [true_and, and_true, oU2, oUn1, oL1, oS1, oR1, oJust, iAdd, iSub, iMul, iFdiv, iMod, iEq, iNe, iLt, iLe, iGt, iGe, iNeg, iAbs, DL.iStr, wFmt, wJs, wJoined, sNext, sSeq, sDrop, sRet, sRetN, sIf, sAsg, sPar, wOp, wVar, wC, wUn, wCons, wNil, wCB, wCall, wMake, wMakeSw, wCallSw, wProp, wFld, oI, oI0, oU, wTest, wAnd, wOr, wNot, wAndV, wOrV, wNotV, wIf, wTup, wLst, wLstM, gwName, gwNil, gwCons, gwTup, gwSub, oIx, oInt1, oAbsI, oLen, oGcd, oDivmod, oMax2, oMin2, oIsi, tyOf, clOf, kt_ii, kt_ib, kt_rr, kt_ir, kt_ri, kt_rb, kt_ni, kt_bi, kt_bb, kt_si, kt_ti, kt_li, kt_di, kt_nr, kt_br, kt_sr, kt_tr, kt_lr, kt_dr, oStrI, if_t1, if_f1, Bool.not_true, Bool.not_false, rt, startD, List.map_cons, List.map_nil, List.length_cons, List.length_nil, List.cons_append, List.nil_append, List.getElem?_cons_zero, List.getElem?_cons_succ, List.set_cons_zero, List.set_cons_succ, List.replicate, Nat.reduceAdd, Nat.reduceSub, Nat.zero_add, Nat.sub_self, Nat.add_sub_cancel, kt_tt, wChain, sFor, sForR, forStep, gwLst, listD, wCut, wStar, oListM, oTupl, seqD, oLcm, wCallP3, p3rev, p3mid, wAppend, lk_top, lk_bot, w1, w2, numD_int, numD_ins, w_is_int, w_is_number, wi_Ratio, w_as_ratio, w_top, w_bottom, w1r, w2r, lk_ex, wMeth, w_excess, w_lt, w_le, w_gt, w_raised]
    rw [decide_eq_true h2]
    exact h
end
end K1
set_option Elab.async false
set_option linter.all false
set_option maxRecDepth 100000
namespace K1
open PySem PySem.Spec PyProof.Rows L2 DL
theorem gc_mkR {t b : Int} (hb : 0 < b) : gc (mkR t b).1 (mkR t b).2 = 1 := by
  show gc (t.fdiv (gc t b)) (b.fdiv (gc t b)) = 1
  rw [fdiv_gc hb, fdiv_gc2 hb]
  have e : gc t b = (Int.gcd t b : Int) := rfl
  have h : 0 < Int.gcd t b := by
    have := gc_pos (t := t) hb
    rw [e] at this
    omega
  have z := Int.gcd_ediv_gcd_ediv_gcd h
  show ((Int.gcd (t / gc t b) (b / gc t b) : Nat) : Int) = 1
  rw [e, z]
  rfl
/-! ### values -/
def val (p : Int × Int) : Rat := (p.1 : Rat) / (p.2 : Rat)
structure Nrm (p : Int × Int) : Prop where
  pos : 0 < p.2
  one : gc p.1 p.2 = 1
theorem cast_pos {b : Int} (h : 0 < b) : (0 : Rat) < (b : Rat) := by exact_mod_cast h
theorem cast_ne {b : Int} (h : b ≠ 0) : (b : Rat) ≠ 0 := by exact_mod_cast h
theorem val_int (i : Int) : val (i, 1) = (i : Rat) := by
  show (i : Rat) / ((1 : Int) : Rat) = i
  have : ((1 : Int) : Rat) = 1 := rfl
  rw [this]
  grind
theorem val_mkR {t b : Int} (hb : b ≠ 0) (h : 0 < gc t b) : (((t / gc t b : Int)) : Rat) / ((b / gc t b : Int) : Rat) = (t : Rat) / (b : Rat) := by
  obtain ⟨u, hu⟩ := gc_dvd_l t b
  obtain ⟨v, hv⟩ := gc_dvd_r t b
  generalize hg : gc t b = g at *
  have g0 : g ≠ 0 := by omega
  have v0 : v ≠ 0 := fun z => hb (by rw [hv, z, Int.mul_zero])
  have e1 : t / g = u := by rw [hu]; exact Int.mul_ediv_cancel_left _ g0
  have e2 : b / g = v := by rw [hv]; exact Int.mul_ediv_cancel_left _ g0
  rw [e1, e2, hu, hv, Rat.intCast_mul, Rat.intCast_mul]
  have h1 := cast_ne g0
  have h2 := cast_ne v0
  grind
theorem val_mk {t b : Int} (hb : 0 < b) : val (mkR t b) = (t : Rat) / (b : Rat) := by
  have g0 := gc_pos (t := t) hb
  show ((t.fdiv (gc t b) : Int) : Rat) / ((b.fdiv (gc t b) : Int) : Rat) = _
  rw [fdiv_gc hb, fdiv_gc2 hb]
  exact val_mkR (by omega) g0
theorem mkR_pos {t b : Int} (hb : 0 < b) : 0 < (mkR t b).2 := by
  show 0 < b.fdiv (gc t b)
  have g0 := gc_pos (t := t) hb
  rw [fdiv_gc2 hb]
  exact Int.ediv_pos_of_pos_of_dvd hb (by omega) (gc_dvd_r t b)
theorem nrm_mk {t b : Int} (hb : 0 < b) : Nrm (mkR t b) := ⟨mkR_pos hb, gc_mkR hb⟩
theorem nrm_int (i : Int) : Nrm (i, 1) := ⟨by show (0 : Int) < 1; decide, by show gc i 1 = 1; unfold gc; simp⟩
theorem Nrm.mk' {p : Int × Int} (h : Nrm p) : mkR p.1 p.2 = p := by
  show (p.1.fdiv (gc p.1 p.2), p.2.fdiv (gc p.1 p.2)) = p
  rw [h.one]
  simp
theorem cop_dvd {a b c : Int} (h : a ∣ b * c) (g : Int.gcd a b = 1) : a ∣ c := by
  have h1 : a.natAbs ∣ b.natAbs * c.natAbs := by
    rw [← Int.natAbs_mul]
    exact Int.natAbs_dvd_natAbs.mpr h
  exact Int.natAbs_dvd_natAbs.mp (Nat.Coprime.dvd_of_dvd_mul_left (show Nat.Coprime a.natAbs b.natAbs from g) h1)
theorem canon {p q : Int × Int} (hp : Nrm p) (hq : Nrm q) (e : val p = val q) : p = q := by
  have b0 := cast_pos hp.pos
  have d0 := cast_pos hq.pos
  have x : p.1 * q.2 = q.1 * p.2 := by
    have : (p.1 : Rat) * q.2 = q.1 * p.2 := by
      have e : (p.1 : Rat) / p.2 = (q.1 : Rat) / q.2 := e
      have h1 : (p.2 : Rat) ≠ 0 := by grind
      have h2 : (q.2 : Rat) ≠ 0 := by grind
      have h3 : (p.1 : Rat) = ((p.1 : Rat) / p.2) * p.2 := by grind
      rw [h3, e]
      grind
    exact_mod_cast this
  have c1 : Int.gcd p.1 p.2 = 1 := by
    have := hp.one
    unfold gc at this
    exact_mod_cast this
  have c2 : Int.gcd q.1 q.2 = 1 := by
    have := hq.one
    unfold gc at this
    exact_mod_cast this
  have e2 : p.2 = q.2 := by
    have d1 : p.2 ∣ q.2 := by
      have : p.2 ∣ p.1 * q.2 := ⟨q.1, by rw [x, Int.mul_comm]⟩
      exact cop_dvd this (by rw [Int.gcd_comm]; exact c1)
    have d2 : q.2 ∣ p.2 := by
      have : q.2 ∣ q.1 * p.2 := ⟨p.1, by rw [← x, Int.mul_comm]⟩
      exact cop_dvd this (by rw [Int.gcd_comm]; exact c2)
    exact Int.dvd_antisymm (Int.le_of_lt hp.pos) (Int.le_of_lt hq.pos) d1 d2
  have e1 : p.1 = q.1 := by
    rw [e2] at x
    exact Int.eq_of_mul_eq_mul_right (by have := hq.pos; omega) x
  exact Prod.ext e1 e2
theorem lt_val {p q : Int × Int} (hp : Nrm p) (hq : Nrm q) : val p < val q ↔ p.1 * q.2 < q.1 * p.2 := by
  have b0 := cast_pos hp.pos
  have d0 := cast_pos hq.pos
  show (p.1 : Rat) / p.2 < (q.1 : Rat) / q.2 ↔ _
  rw [Rat.div_lt_iff b0]
  have e : (q.1 : Rat) / q.2 * p.2 = (q.1 : Rat) * p.2 / q.2 := by grind
  rw [e, Rat.lt_div_iff d0]
  have e2 : ((p.1 * q.2 : Int) : Rat) = (p.1 : Rat) * q.2 := Rat.intCast_mul ..
  have e3 : ((q.1 * p.2 : Int) : Rat) = (q.1 : Rat) * p.2 := Rat.intCast_mul ..
  rw [← e2, ← e3, Rat.intCast_lt_intCast]
theorem le_val {p q : Int × Int} (hp : Nrm p) (hq : Nrm q) : val p ≤ val q ↔ p.1 * q.2 ≤ q.1 * p.2 := by
  rw [← Rat.not_lt, lt_val hq hp]
  omega
theorem val_add {p q : Int × Int} (hp : Nrm p) (hq : Nrm q) : val (addR p q) = val p + val q := by
  have b0 : (p.2 : Rat) ≠ 0 := cast_ne (by have := hp.pos; omega)
  have d0 : (q.2 : Rat) ≠ 0 := cast_ne (by have := hq.pos; omega)
  show val (mkR _ _) = (p.1 : Rat) / p.2 + (q.1 : Rat) / q.2
  rw [val_mk (Int.mul_pos hp.pos hq.pos), Rat.intCast_add, Rat.intCast_mul, Rat.intCast_mul, Rat.intCast_mul]
  grind
theorem val_mul {p q : Int × Int} (hp : Nrm p) (hq : Nrm q) : val (mulR p q) = val p * val q := by
  have b0 : (p.2 : Rat) ≠ 0 := cast_ne (by have := hp.pos; omega)
  have d0 : (q.2 : Rat) ≠ 0 := cast_ne (by have := hq.pos; omega)
  show val (mkR _ _) = (p.1 : Rat) / p.2 * ((q.1 : Rat) / q.2)
  rw [val_mk (Int.mul_pos hp.pos hq.pos), Rat.intCast_mul, Rat.intCast_mul]
  grind
theorem val_neg {p : Int × Int} (hp : Nrm p) : val (negR p) = -val p := by
  show val (mkR _ _) = -((p.1 : Rat) / p.2)
  rw [val_mk hp.pos, Rat.intCast_neg]
  grind
theorem nrm_add {p q : Int × Int} (hp : Nrm p) (hq : Nrm q) : Nrm (addR p q) := nrm_mk (Int.mul_pos hp.pos hq.pos)
theorem nrm_mul {p q : Int × Int} (hp : Nrm p) (hq : Nrm q) : Nrm (mulR p q) := nrm_mk (Int.mul_pos hp.pos hq.pos)
theorem nrm_neg {p : Int × Int} (hp : Nrm p) : Nrm (negR p) := nrm_mk hp.pos

/-! ### rows: the law's in lowest terms, the program's over a common bottom -/
def sbR (a b : Int × Int) : Int × Int := mkR (a.1 * b.2 - b.1 * a.2) (a.2 * b.2)
theorem nrm_sb {p q : Int × Int} (hp : Nrm p) (hq : Nrm q) : Nrm (sbR p q) := nrm_mk (Int.mul_pos hp.pos hq.pos)
theorem val_sb {p q : Int × Int} (hp : Nrm p) (hq : Nrm q) : val (sbR p q) = val p - val q := by
  have b0 : (p.2 : Rat) ≠ 0 := cast_ne (by have := hp.pos; omega)
  have d0 : (q.2 : Rat) ≠ 0 := cast_ne (by have := hq.pos; omega)
  show val (mkR _ _) = (p.1 : Rat) / p.2 - (q.1 : Rat) / q.2
  rw [val_mk (Int.mul_pos hp.pos hq.pos), Rat.intCast_sub, Rat.intCast_mul, Rat.intCast_mul, Rat.intCast_mul]
  grind
abbrev Pr := Int × Int
def stepL (b : Pr) (ws : List Pr) : List Pr := (ws.zip ws.tail).map fun p => sbR p.2 (mulR b p.1)
def stepP (b : Int) (ws : List Int) : List Int := (ws.zip ws.tail).map fun p => p.2 - b * p.1
def rowL (bs ws : List Pr) (i : Nat) : List Pr := (bs.take i).foldl (fun r b => stepL b r) ws
def rowP (bs ws : List Int) (i : Nat) : List Int := (bs.take i).foldl (fun r b => stepP b r) ws
def firstL (bs ws : List Pr) : List Pr := (List.range bs.length).map fun i => (rowL bs ws i).headD (0, 1)
def firstP (bs ws : List Int) : List Int := (List.range bs.length).map fun i => (rowP bs ws i).headD 0
def nextL (bs ls : List Pr) : List Pr := ((bs.dropLast.zip (ls.dropLast)).zip ls.tail).map (fun p => addR (mulR p.1.1 p.1.2) p.2) ++ ((bs.zip ls).map fun p => mulR p.1 p.2).drop (bs.length - 1)
def nextP (bs ls : List Int) : List Int := (bs.zip (ls.zip (ls.tail ++ [0]))).map fun p => p.2.2 + p.1 * p.2.1
/-- the i-th of Ls is s q ^ i times the i-th of ls -/
structure Sc (q s : Rat) (ls : List Pr) (Ls : List Int) : Prop where
  len : ls.length = Ls.length
  nrm : ∀ p ∈ ls, Nrm p
  at_ : ∀ (i : Nat) (p : Pr) (L : Int), ls[i]? = some p → Ls[i]? = some L → (L : Rat) = s * q ^ i * val p
/-- the bases, told over their common bottom -/
structure Bs (q : Rat) (bs : List Pr) (Bz : List Int) : Prop where
  len : bs.length = Bz.length
  nrm : ∀ p ∈ bs, Nrm p
  at_ : ∀ (i : Nat) (p : Pr) (B : Int), bs[i]? = some p → Bz[i]? = some B → (B : Rat) = q * val p
theorem get_zip_tail {α : Type} {l : List α} {i : Nat} {x : α × α} (h : (l.zip l.tail)[i]? = some x) : l[i]? = some x.1 ∧ l[i + 1]? = some x.2 := by
  rw [List.getElem?_zip_eq_some] at h
  refine ⟨h.1, ?_⟩
  have := h.2
  rw [List.getElem?_tail] at this
  exact this
theorem zip_tail_get {α : Type} {l : List α} {i : Nat} {a b : α} (h : l[i]? = some a) (h2 : l[i + 1]? = some b) : (l.zip l.tail)[i]? = some (a, b) := by
  rw [List.getElem?_zip_eq_some]
  exact ⟨h, by rw [List.getElem?_tail]; exact h2⟩
theorem stepL_get {b : Pr} {ws : List Pr} {i : Nat} {x y : Pr} (h : ws[i]? = some x) (h2 : ws[i + 1]? = some y) : (stepL b ws)[i]? = some (sbR y (mulR b x)) := by
  unfold stepL
  rw [List.getElem?_map, zip_tail_get h h2]
  rfl
theorem stepL_inv {b : Pr} {ws : List Pr} {i : Nat} {p : Pr} (h : (stepL b ws)[i]? = some p) : ∃ x y, ws[i]? = some x ∧ ws[i + 1]? = some y ∧ p = sbR y (mulR b x) := by
  unfold stepL at h
  rw [List.getElem?_map, Option.map_eq_some_iff] at h
  obtain ⟨z, hz, rfl⟩ := h
  obtain ⟨h1, h2⟩ := get_zip_tail hz
  exact ⟨z.1, z.2, h1, h2, rfl⟩
theorem stepP_get {b : Int} {ws : List Int} {i : Nat} {x y : Int} (h : ws[i]? = some x) (h2 : ws[i + 1]? = some y) : (stepP b ws)[i]? = some (y - b * x) := by
  unfold stepP
  rw [List.getElem?_map, zip_tail_get h h2]
  rfl
theorem stepP_inv {b : Int} {ws : List Int} {i : Nat} {p : Int} (h : (stepP b ws)[i]? = some p) : ∃ x y, ws[i]? = some x ∧ ws[i + 1]? = some y ∧ p = y - b * x := by
  unfold stepP at h
  rw [List.getElem?_map, Option.map_eq_some_iff] at h
  obtain ⟨z, hz, rfl⟩ := h
  obtain ⟨h1, h2⟩ := get_zip_tail hz
  exact ⟨z.1, z.2, h1, h2, rfl⟩
theorem stepL_len {b : Pr} {ws : List Pr} : (stepL b ws).length = ws.length - 1 := by unfold stepL; simp
theorem stepP_len {b : Int} {ws : List Int} : (stepP b ws).length = ws.length - 1 := by unfold stepP; simp
theorem mem_get {α : Type} {l : List α} {p : α} (h : p ∈ l) : ∃ i : Nat, l[i]? = some p := by
  obtain ⟨i, hi, e⟩ := List.mem_iff_getElem.mp h
  exact ⟨i, by rw [List.getElem?_eq_getElem hi, e]⟩
theorem get_mem {α : Type} {l : List α} {i : Nat} {p : α} (h : l[i]? = some p) : p ∈ l := List.mem_of_getElem? h
theorem stepL_nrm {b : Pr} {ws : List Pr} (hb : Nrm b) (h : ∀ p ∈ ws, Nrm p) : ∀ p ∈ stepL b ws, Nrm p := fun p hp => by
  obtain ⟨i, hi⟩ := mem_get hp
  obtain ⟨x, y, h1, h2, rfl⟩ := stepL_inv hi
  exact nrm_sb (h _ (get_mem h2)) (nrm_mul hb (h _ (get_mem h1)))
theorem Sc.step {q s : Rat} {b : Pr} {B : Int} {ls : List Pr} {Ls : List Int} (h : Sc q s ls Ls) (hb : Nrm b) (e : (B : Rat) = q * val b) : Sc q (s * q) (stepL b ls) (stepP B Ls) := by
  refine ⟨by rw [stepL_len, stepP_len, h.len], stepL_nrm hb h.nrm, fun i p L h1 h2 => ?_⟩
  obtain ⟨x, y, hx, hy, rfl⟩ := stepL_inv h1
  obtain ⟨X, Y, hX, hY, rfl⟩ := stepP_inv h2
  have e1 := h.at_ i x X hx hX
  have e2 := h.at_ (i + 1) y Y hy hY
  have nx := h.nrm _ (get_mem hx)
  have ny := h.nrm _ (get_mem hy)
  rw [val_sb ny (nrm_mul hb nx), val_mul hb nx, Rat.intCast_sub, Rat.intCast_mul, e, e1, e2, Rat.pow_succ]
  generalize val y = vy
  generalize val x = vx
  generalize val b = vb
  generalize q ^ i = qi
  grind
theorem rowL_succ {bs ws : List Pr} {i : Nat} {b : Pr} (h : bs[i]? = some b) : rowL bs ws (i + 1) = stepL b (rowL bs ws i) := by
  unfold rowL
  rw [List.take_add_one, h, List.foldl_append]
  rfl
theorem rowP_succ {bs ws : List Int} {i : Nat} {b : Int} (h : bs[i]? = some b) : rowP bs ws (i + 1) = stepP b (rowP bs ws i) := by
  unfold rowP
  rw [List.take_add_one, h, List.foldl_append]
  rfl
theorem rowL_zero {bs ws : List Pr} : rowL bs ws 0 = ws := by unfold rowL; simp
theorem rowP_zero {bs ws : List Int} : rowP bs ws 0 = ws := by unfold rowP; simp
theorem Sc.row {q s : Rat} {bs ws : List Pr} {Bz Ws : List Int} (h : Sc q s ws Ws) (hb : Bs q bs Bz) : ∀ i, i ≤ bs.length → Sc q (s * q ^ i) (rowL bs ws i) (rowP Bz Ws i)
  | 0, _ => by rw [rowL_zero, rowP_zero, Rat.pow_zero, Rat.mul_one]; exact h
  | i + 1, hi => by
    have ih := Sc.row h hb i (by omega)
    have h1 : i < bs.length := by omega
    have h2 : i < Bz.length := by have := hb.len; omega
    have g1 := List.getElem?_eq_getElem h1
    have g2 := List.getElem?_eq_getElem h2
    rw [rowL_succ g1, rowP_succ g2, Rat.pow_succ, ← Rat.mul_assoc]
    exact ih.step (hb.nrm _ (get_mem g1)) (hb.at_ i _ _ g1 g2)
theorem rowL_len {bs ws : List Pr} : ∀ i, i ≤ bs.length → (rowL bs ws i).length = ws.length - i
  | 0, _ => by rw [rowL_zero]; rfl
  | i + 1, hi => by
    rw [rowL_succ (List.getElem?_eq_getElem (show i < bs.length by omega)), stepL_len, rowL_len i (by omega)]
    omega
theorem rowP_len {bs ws : List Int} : ∀ i, i ≤ bs.length → (rowP bs ws i).length = ws.length - i
  | 0, _ => by rw [rowP_zero]; rfl
  | i + 1, hi => by
    rw [rowP_succ (List.getElem?_eq_getElem (show i < bs.length by omega)), stepP_len, rowP_len i (by omega)]
    omega
theorem head_get {α : Type} {l : List α} {d : α} (h : 0 < l.length) : l[0]? = some (l.headD d) := by
  cases l with
  | nil => simp at h
  | cons x xs => rfl
theorem firstL_get {bs ws : List Pr} {i : Nat} (h : i < bs.length) : (firstL bs ws)[i]? = some ((rowL bs ws i).headD (0, 1)) := by
  unfold firstL
  rw [List.getElem?_map, List.getElem?_range h]
  rfl
theorem firstP_get {bs ws : List Int} {i : Nat} (h : i < bs.length) : (firstP bs ws)[i]? = some ((rowP bs ws i).headD 0) := by
  unfold firstP
  rw [List.getElem?_map, List.getElem?_range h]
  rfl
theorem firstL_len {bs ws : List Pr} : (firstL bs ws).length = bs.length := by unfold firstL; simp
theorem firstP_len {bs ws : List Int} : (firstP bs ws).length = bs.length := by unfold firstP; simp
theorem Sc.first {q s : Rat} {bs ws : List Pr} {Bz Ws : List Int} (h : Sc q s ws Ws) (hb : Bs q bs Bz) (hl : bs.length = ws.length) : Sc q s (firstL bs ws) (firstP Bz Ws) := by
  have hW := h.len
  have hB := hb.len
  have key : ∀ i, i < bs.length → ∃ p L, (rowL bs ws i)[0]? = some p ∧ (rowP Bz Ws i)[0]? = some L ∧ (rowL bs ws i).headD (0, 1) = p ∧ (rowP Bz Ws i).headD 0 = L ∧ Nrm p ∧ (L : Rat) = s * q ^ i * val p := fun i hi => by
    have sc := h.row hb i (by omega)
    have l1 : 0 < (rowL bs ws i).length := by rw [rowL_len i (by omega)]; omega
    have l2 : 0 < (rowP Bz Ws i).length := by rw [rowP_len i (by omega)]; omega
    have g1 := head_get (d := ((0, 1) : Pr)) l1
    have g2 := head_get (d := (0 : Int)) l2
    refine ⟨_, _, g1, g2, rfl, rfl, sc.nrm _ (get_mem g1), ?_⟩
    have := sc.at_ 0 _ _ g1 g2
    rw [Rat.pow_zero, Rat.mul_one] at this
    exact this
  refine ⟨by rw [firstL_len, firstP_len, hB], fun p hp => ?_, fun i p L h1 h2 => ?_⟩
  · obtain ⟨i, hi⟩ := mem_get hp
    have li := (List.getElem?_eq_some_iff.mp hi).1
    rw [firstL_len] at li
    rw [firstL_get li] at hi
    cases hi
    obtain ⟨p, L, _, _, e1, _, n, _⟩ := key i li
    rw [e1]
    exact n
  · have li := (List.getElem?_eq_some_iff.mp h1).1
    rw [firstL_len] at li
    rw [firstL_get li] at h1
    rw [firstP_get (by omega)] at h2
    cases h1; cases h2
    obtain ⟨p, L, _, _, e1, e2, n, e⟩ := key i li
    rw [e1, e2]
    exact e
/-! ### one place on -/
theorem nextP_len {bs ls : List Int} (h : bs.length = ls.length) (h0 : 0 < ls.length) : (nextP bs ls).length = bs.length := by
  unfold nextP
  simp
  omega
theorem nextP_get {bs ls : List Int} {i : Nat} {b x y : Int} (h1 : bs[i]? = some b) (h2 : ls[i]? = some x) (h3 : (ls.tail ++ [0])[i]? = some y) : (nextP bs ls)[i]? = some (y + b * x) := by
  unfold nextP
  rw [List.getElem?_map, List.getElem?_zip_eq_some.mpr (show bs[i]? = some (b, (x, y)).1 ∧ _ from ⟨h1, List.getElem?_zip_eq_some.mpr (show ls[i]? = some (x, y).1 ∧ _ from ⟨h2, h3⟩)⟩)]
  rfl
theorem nextP_inv {bs ls : List Int} {i : Nat} {p : Int} (h : (nextP bs ls)[i]? = some p) : ∃ b x y, bs[i]? = some b ∧ ls[i]? = some x ∧ (ls.tail ++ [0])[i]? = some y ∧ p = y + b * x := by
  unfold nextP at h
  rw [List.getElem?_map, Option.map_eq_some_iff] at h
  obtain ⟨z, hz, rfl⟩ := h
  rw [List.getElem?_zip_eq_some] at hz
  have h2 := List.getElem?_zip_eq_some.mp hz.2
  exact ⟨_, _, _, hz.1, h2.1, h2.2, rfl⟩
theorem tail0 {ls : List Int} {i : Nat} (h : i < ls.length) : (i + 1 < ls.length ∧ (ls.tail ++ [0])[i]? = ls[i + 1]?) ∨ (i + 1 = ls.length ∧ (ls.tail ++ [0])[i]? = some 0) := by
  by_cases c : i + 1 < ls.length
  · exact .inl ⟨c, by rw [List.getElem?_append_left (by rw [List.length_tail]; omega), List.getElem?_tail]⟩
  · refine .inr ⟨by omega, ?_⟩
    rw [List.getElem?_append_right (by rw [List.length_tail]; omega), List.length_tail, show i - (ls.length - 1) = 0 by omega]
    rfl
theorem nextL_get1 {bs ls : List Pr} {i : Nat} {b x y : Pr} (hl : bs.length = ls.length) (h1 : bs[i]? = some b) (h2 : ls[i]? = some x) (h3 : ls[i + 1]? = some y) : (nextL bs ls)[i]? = some (addR (mulR b x) y) := by
  have l3 := (List.getElem?_eq_some_iff.mp h3).1
  unfold nextL
  rw [List.getElem?_append_left (by simp; omega), List.getElem?_map]
  have g : ((bs.dropLast.zip ls.dropLast).zip ls.tail)[i]? = some ((b, x), y) := by
    rw [List.getElem?_zip_eq_some]
    refine ⟨List.getElem?_zip_eq_some.mpr ⟨?_, ?_⟩, by rw [List.getElem?_tail]; exact h3⟩
    · rw [List.getElem?_dropLast, if_pos (by omega)]; exact h1
    · rw [List.getElem?_dropLast, if_pos (by omega)]; exact h2
  rw [g]
  rfl
theorem nextL_get2 {bs ls : List Pr} {i : Nat} {b x : Pr} (hl : bs.length = ls.length) (h1 : bs[i]? = some b) (h2 : ls[i]? = some x) (h3 : i + 1 = ls.length) : (nextL bs ls)[i]? = some (mulR b x) := by
  unfold nextL
  have e : ((((bs.dropLast.zip (ls.dropLast)).zip ls.tail).map (fun p => addR (mulR p.1.1 p.1.2) p.2))).length = i := by simp; omega
  rw [List.getElem?_append_right (by omega), e, Nat.sub_self, List.getElem?_drop, show bs.length - 1 + 0 = i by omega, List.getElem?_map, List.getElem?_zip_eq_some.mpr (show bs[i]? = some (b, x).1 ∧ _ from ⟨h1, h2⟩)]
  rfl
theorem nextL_len {bs ls : List Pr} (hl : bs.length = ls.length) (h0 : 0 < ls.length) : (nextL bs ls).length = bs.length := by
  unfold nextL
  simp
  omega
theorem Sc.next {q s : Rat} {bs ls : List Pr} {Bz Ls : List Int} (h : Sc q s ls Ls) (hb : Bs q bs Bz) (hl : bs.length = ls.length) (h0 : 0 < ls.length) : Sc q (s * q) (nextL bs ls) (nextP Bz Ls) := by
  have hL := h.len
  have hB := hb.len
  have key : ∀ i, i < bs.length → ∃ p L, (nextL bs ls)[i]? = some p ∧ (nextP Bz Ls)[i]? = some L ∧ Nrm p ∧ (L : Rat) = s * q * q ^ i * val p := fun i hi => by
    have g1 := List.getElem?_eq_getElem hi
    have g2 := List.getElem?_eq_getElem (show i < Bz.length by omega)
    have g3 := List.getElem?_eq_getElem (show i < ls.length by omega)
    have g4 := List.getElem?_eq_getElem (show i < Ls.length by omega)
    generalize bs[i] = b at g1
    generalize Bz[i] = B at g2
    generalize ls[i] = x at g3
    generalize Ls[i] = X at g4
    have nb := hb.nrm _ (get_mem g1)
    have nx := h.nrm _ (get_mem g3)
    have eb := hb.at_ i _ _ g1 g2
    have ex := h.at_ i _ _ g3 g4
    rcases tail0 (ls := Ls) (i := i) (by omega) with ⟨c, e⟩ | ⟨c, e⟩
    · have g5 := List.getElem?_eq_getElem (show i + 1 < ls.length by omega)
      have g6 := List.getElem?_eq_getElem c
      generalize ls[i + 1] = y at g5
      generalize Ls[i + 1] = Y at g6
      have ny := h.nrm _ (get_mem g5)
      have ey := h.at_ (i + 1) _ _ g5 g6
      refine ⟨_, _, nextL_get1 hl g1 g3 g5, nextP_get g2 g4 (e.trans g6), nrm_add (nrm_mul nb nx) ny, ?_⟩
      rw [val_add (nrm_mul nb nx) ny, val_mul nb nx, Rat.intCast_add, Rat.intCast_mul, eb, ex, ey, Rat.pow_succ]
      generalize val y = vy
      generalize val x = vx
      generalize val b = vb
      generalize q ^ i = qi
      grind
    · refine ⟨_, _, nextL_get2 hl g1 g3 (by omega), nextP_get g2 g4 e, nrm_mul nb nx, ?_⟩
      rw [val_mul nb nx, Rat.intCast_add, Rat.intCast_mul, eb, ex]
      have z : ((0 : Int) : Rat) = 0 := rfl
      rw [z]
      generalize val x = vx
      generalize val b = vb
      generalize q ^ i = qi
      grind
  refine ⟨by rw [nextL_len hl h0, nextP_len (by omega) (by omega), hB], fun p hp => ?_, fun i p L h1 h2 => ?_⟩
  · obtain ⟨i, hi⟩ := mem_get hp
    have li := (List.getElem?_eq_some_iff.mp hi).1
    rw [nextL_len hl h0] at li
    obtain ⟨p', L, e1, _, n, _⟩ := key i li
    rw [hi] at e1
    cases e1
    exact n
  · have li := (List.getElem?_eq_some_iff.mp h1).1
    rw [nextL_len hl h0] at li
    obtain ⟨p', L', e1, e2, n, e⟩ := key i li
    rw [h1] at e1
    rw [h2] at e2
    cases e1; cases e2
    exact e
end K1

set_option Elab.async false
set_option linter.all false
set_option maxRecDepth 100000
namespace K1
open PySem PySem.Spec PyProof.Rows L2 DL
def cbN (ps : List Pr) : Nat := ps.foldl (fun b p => Nat.lcm b p.2.natAbs) 1
def cb (ps : List Pr) : Int := ((cbN ps : Nat) : Int)
def whB (q : Int) (p : Pr) : Int := p.1 * q.fdiv p.2
def scP (ps : List Pr) (b q : Int) : List Int := ps.zipIdx.map fun p => p.1.1 * b.fdiv p.1.2 * q ^ p.2
def itP (B : List Int) : Nat → List Int → List Int
  | 0, ls => ls
  | n + 1, ls => nextP B (itP B n ls)
def itL (B : List Pr) : Nat → List Pr → List Pr
  | 0, ls => ls
  | n + 1, ls => nextL B (itL B n ls)
def whB' (ps : List Pr) : List Int := ps.map (whB (cb ps))
def wholeP (ps qs : List Pr) (n : Nat) : List Int := itP (whB' ps) n (firstP (whB' ps) (scP qs (cb qs) (cb ps)))
structure Small (N : Nat) (ps : List Pr) : Prop where
  l1 : 1 ≤ ps.length
  l6 : ps.length ≤ 6
  n0 : 0 < N
  n1 : N < 2 ^ 10
  all : ∀ p ∈ ps, Nrm p ∧ p.2.natAbs ∣ N ∧ p.1.natAbs < 2 ^ 10
theorem foldl_dvd {N : Nat} : ∀ (ps : List Pr) (b : Nat), b ∣ N → (∀ p ∈ ps, p.2.natAbs ∣ N) → ps.foldl (fun b p => Nat.lcm b p.2.natAbs) b ∣ N
  | [], b, h, _ => h
  | p :: ps, b, h, hp => foldl_dvd ps _ (Nat.lcm_dvd h (hp p List.mem_cons_self)) fun q hq => hp q (List.mem_cons_of_mem _ hq)
theorem foldl_self : ∀ (ps : List Pr) (b : Nat), b ∣ ps.foldl (fun b p => Nat.lcm b p.2.natAbs) b
  | [], b => Nat.dvd_refl b
  | p :: ps, b => Nat.dvd_trans (Nat.dvd_lcm_left b p.2.natAbs) (foldl_self ps _)
theorem foldl_mem : ∀ (ps : List Pr) (b : Nat) (p : Pr), p ∈ ps → p.2.natAbs ∣ ps.foldl (fun b p => Nat.lcm b p.2.natAbs) b
  | q :: ps, b, p, h => by
    rcases List.mem_cons.mp h with rfl | h
    · exact Nat.dvd_trans (Nat.dvd_lcm_right b p.2.natAbs) (foldl_self ps _)
    · exact foldl_mem ps _ p h
theorem cbN_dvd {N : Nat} {ps : List Pr} (h : ∀ p ∈ ps, p.2.natAbs ∣ N) : cbN ps ∣ N := foldl_dvd ps 1 (Nat.one_dvd N) h
theorem cbN_take {N : Nat} {ps : List Pr} (h : ∀ p ∈ ps, p.2.natAbs ∣ N) (i : Nat) : cbN (ps.take i) ∣ N := cbN_dvd fun p hp => h p (List.mem_of_mem_take hp)
theorem cbN_succ {ps : List Pr} {i : Nat} {p : Pr} (h : ps[i]? = some p) : cbN (ps.take (i + 1)) = Nat.lcm (cbN (ps.take i)) p.2.natAbs := by
  unfold cbN
  rw [List.take_add_one, h, List.foldl_append]
  rfl
theorem Small.cb {N : Nat} {ps : List Pr} (h : Small N ps) : cbN ps ∣ N ∧ 0 < cbN ps ∧ cbN ps < 2 ^ 10 := by
  have d := cbN_dvd fun p hp => (h.all p hp).2.1
  exact ⟨d, Nat.pos_of_dvd_of_pos d h.n0, Nat.lt_of_le_of_lt (Nat.le_of_dvd h.n0 d) h.n1⟩
theorem Small.cb0 {N : Nat} {ps : List Pr} (h : Small N ps) : 0 < K1.cb ps := by
  have := h.cb.2.1
  unfold K1.cb
  omega
theorem Small.cbz {N : Nat} {ps : List Pr} (h : Small N ps) : (K1.cb ps).natAbs < 2 ^ 10 := by
  have := h.cb.2.2
  unfold K1.cb
  rw [Int.natAbs_natCast]
  exact this
theorem cb_mem {ps : List Pr} {p : Pr} (h : p ∈ ps) : p.2 ∣ cb ps := by
  have := foldl_mem ps 1 p h
  exact Int.natAbs_dvd_natAbs.mp (by unfold cb; rw [Int.natAbs_natCast]; exact this)
theorem div_val {p : Pr} {q : Int} (hp : 0 < p.2) (h : p.2 ∣ q) : ((p.1 * q.fdiv p.2 : Int) : Rat) = (q : Rat) * val p := by
  obtain ⟨k, rfl⟩ := h
  have e : (p.2 * k).fdiv p.2 = k := by
    rw [Int.fdiv_eq_ediv_of_nonneg _ (by omega)]
    exact Int.mul_ediv_cancel_left _ (by omega)
  have b0 : (p.2 : Rat) ≠ 0 := cast_ne (by omega)
  rw [e, Rat.intCast_mul, Rat.intCast_mul]
  show _ = (p.2 : Rat) * k * ((p.1 : Rat) / p.2)
  grind
theorem Small.bs {N : Nat} {ps : List Pr} (h : Small N ps) : Bs (K1.cb ps : Rat) ps (whB' ps) := by
  refine ⟨by unfold whB'; rw [List.length_map], fun p hp => (h.all p hp).1, fun i p B h1 h2 => ?_⟩
  unfold whB' at h2
  rw [List.getElem?_map, h1] at h2
  cases h2
  exact div_val ((h.all p (get_mem h1)).1.pos) (cb_mem (get_mem h1))
theorem cast_pow (q : Int) : ∀ n : Nat, ((q ^ n : Int) : Rat) = (q : Rat) ^ n
  | 0 => by rw [Int.pow_zero, Rat.pow_zero]; rfl
  | n + 1 => by rw [Int.pow_succ, Rat.intCast_mul, cast_pow q n, Rat.pow_succ]
theorem Small.sc {N : Nat} {ps : List Pr} (h : Small N ps) (q : Int) : Sc (q : Rat) (K1.cb ps : Rat) ps (scP ps (K1.cb ps) q) := by
  refine ⟨by unfold scP; simp, fun p hp => (h.all p hp).1, fun i p L h1 h2 => ?_⟩
  unfold scP at h2
  rw [List.getElem?_map, List.getElem?_zipIdx, h1] at h2
  simp only [Option.map_some, Option.some.injEq, Nat.zero_add] at h2
  subst h2
  rw [Rat.intCast_mul, div_val ((h.all p (get_mem h1)).1.pos) (cb_mem (get_mem h1)), cast_pow]
  grind
theorem itL_len {ps ls : List Pr} (hl : ps.length = ls.length) (h0 : 0 < ls.length) : ∀ n, (itL ps n ls).length = ls.length
  | 0 => rfl
  | n + 1 => by
    have ih := itL_len hl h0 n
    show (nextL ps (itL ps n ls)).length = _
    rw [nextL_len (by omega) (by omega), hl]
theorem Sc.it {q s : Rat} {ps ls : List Pr} {Bz Ls : List Int} (h : Sc q s ls Ls) (hb : Bs q ps Bz) (hl : ps.length = ls.length) (h0 : 0 < ls.length) : ∀ n, Sc q (s * q ^ n) (itL ps n ls) (itP Bz n Ls)
  | 0 => by rw [Rat.pow_zero, Rat.mul_one]; exact h
  | n + 1 => by
    have ih := Sc.it h hb hl h0 n
    have e := itL_len hl h0 n
    rw [Rat.pow_succ, ← Rat.mul_assoc]
    exact ih.next hb (by omega) (by omega)
/-- all levels at all places -/
def lev (ps qs : List Pr) (n : Nat) : List Pr := itL ps n (firstL ps qs)
theorem lev_len {ps qs : List Pr} (h0 : 0 < ps.length) (n : Nat) : (lev ps qs n).length = ps.length := by
  unfold lev
  rw [itL_len (by rw [firstL_len]) (by rw [firstL_len]; exact h0), firstL_len]
section
variable {N M : Nat} {ps qs : List Pr}
theorem whole_sc (hp : Small N ps) (hq : Small M qs) (hl : ps.length = qs.length) (n : Nat) : Sc (cb ps : Rat) ((cb qs : Rat) * (cb ps : Rat) ^ n) (lev ps qs n) (wholeP ps qs n) :=
  ((hq.sc (cb ps)).first hp.bs hl).it hp.bs (by rw [firstL_len]) (by rw [firstL_len]; exact hp.l1) n
/-! ### sizes -/
def Bd (N : Nat) (Ls : List Int) : Prop := ∀ L ∈ Ls, L.natAbs < 2 ^ N
theorem Bd.mono {N M : Nat} {Ls : List Int} (h : Bd N Ls) (l : N ≤ M) : Bd M Ls := fun L hL => nmono (h L hL) l
theorem fdiv_lt {a b : Int} {n : Nat} (h : a.natAbs < 2 ^ n) (hb : 0 < b) : (a.fdiv b).natAbs < 2 ^ n := by
  rw [Int.fdiv_eq_ediv_of_nonneg _ (by omega)]
  exact Nat.lt_of_le_of_lt (natAbs_div_le _ _) h
theorem Small.whb (hp : Small N ps) : Bd 20 (whB' ps) := fun L hL => by
  unfold whB' at hL
  obtain ⟨p, h1, rfl⟩ := List.mem_map.mp hL
  exact nmul (hp.all p h1).2.2 (fdiv_lt hp.cbz (hp.all p h1).1.pos)
theorem bd_sc (hq : Small M qs) (hp : Small N ps) : Bd 90 (scP qs (cb qs) (cb ps)) := fun L hL => by
  unfold scP at hL
  obtain ⟨⟨p, i⟩, h1, rfl⟩ := List.mem_map.mp hL
  have h2 := List.mem_zipIdx h1
  have i6 : i < 6 := by have := hq.l6; omega
  have pm : p ∈ qs := by rw [h2.2.2]; exact List.getElem_mem _
  have z := nmul (nmul (hq.all p pm).2.2 (fdiv_lt hq.cbz (hq.all p pm).1.pos)) (npow hp.cbz i)
  exact nmono z (by omega)
theorem bd_step {B : Int} {Ls : List Int} {n : Nat} (hB : B.natAbs < 2 ^ 20) (h : Bd n Ls) : Bd (n + 21) (stepP B Ls) := fun L hL => by
  obtain ⟨i, hi⟩ := mem_get hL
  obtain ⟨x, y, h1, h2, rfl⟩ := stepP_inv hi
  have z1 := nmul hB (h _ (get_mem h1))
  have z2 := nmono (h _ (get_mem h2)) (show n ≤ 20 + n by omega)
  have z3 := nadd z2 (nneg z1)
  rw [show y - B * x = y + -(B * x) by omega, show n + 21 = 20 + n + 1 by omega]
  exact z3
theorem bd_row {Bz Ws : List Int} (hB : Bd 20 Bz) (h : Bd 90 Ws) : ∀ i, i ≤ Bz.length → Bd (90 + 21 * i) (rowP Bz Ws i)
  | 0, _ => by rw [rowP_zero]; exact h
  | i + 1, hi => by
    have g := List.getElem?_eq_getElem (show i < Bz.length by omega)
    rw [rowP_succ g]
    exact (bd_step (hB _ (get_mem g)) (bd_row hB h i (by omega))).mono (by omega)
theorem headD_mem {α : Type} {l : List α} {d : α} (h : 0 < l.length) : l.headD d ∈ l := get_mem (head_get h)
theorem bd_first {Bz Ws : List Int} (hB : Bd 20 Bz) (h : Bd 90 Ws) (hl : Bz.length = Ws.length) (h6 : Bz.length ≤ 6) : Bd 220 (firstP Bz Ws) := fun L hL => by
  obtain ⟨i, hi⟩ := mem_get hL
  have li := (List.getElem?_eq_some_iff.mp hi).1
  rw [firstP_len] at li
  rw [firstP_get li] at hi
  cases hi
  have l2 : 0 < (rowP Bz Ws i).length := by rw [rowP_len i (by omega)]; omega
  exact (bd_row hB h i (by omega)).mono (by omega) _ (headD_mem l2)
theorem bd_next {Bz Ls : List Int} {n : Nat} (hB : Bd 20 Bz) (h : Bd n Ls) : Bd (n + 21) (nextP Bz Ls) := fun L hL => by
  obtain ⟨i, hi⟩ := mem_get hL
  obtain ⟨b, x, y, h1, h2, h3, rfl⟩ := nextP_inv hi
  have z1 := nmul (hB _ (get_mem h1)) (h _ (get_mem h2))
  have hy : y.natAbs < 2 ^ n := by
    rcases List.mem_append.mp (get_mem h3) with z | z
    · exact h _ (List.mem_of_mem_tail z)
    · rw [List.mem_singleton.mp z]
      exact Nat.pow_pos (by decide)
  have z3 := nadd (nmono hy (show n ≤ 20 + n by omega)) z1
  rw [show n + 21 = 20 + n + 1 by omega]
  exact z3
theorem bd_it {Bz Ls : List Int} (hB : Bd 20 Bz) (h : Bd 220 Ls) : ∀ n, Bd (220 + 21 * n) (itP Bz n Ls)
  | 0 => h
  | n + 1 => (bd_next hB (bd_it hB h n)).mono (by omega)
theorem scP_len {b q : Int} : (scP qs b q).length = qs.length := by unfold scP; simp
theorem whB_len : (whB' ps).length = ps.length := by unfold whB'; simp
theorem bd_whole (hp : Small N ps) (hq : Small M qs) (hl : ps.length = qs.length) (n : Nat) : Bd (220 + 21 * n) (wholeP ps qs n) :=
  bd_it hp.whb (bd_first hp.whb (bd_sc hq hp) (by rw [whB_len, scP_len, hl]) (by rw [whB_len]; exact hp.l6)) n
theorem whole_len (hp : Small N ps) (hq : Small M qs) (hl : ps.length = qs.length) (n : Nat) : (wholeP ps qs n).length = ps.length := by
  rw [← (whole_sc hp hq hl n).len, lev_len hp.l1]
/-! ### lowest terms by a whole number over a bottom -/
theorem cross {p : Pr} (hp : Nrm p) {L S : Int} (e : (L : Rat) = (S : Rat) * val p) : L * p.2 = S * p.1 := by
  have b0 : (p.2 : Rat) ≠ 0 := cast_ne (by have := hp.pos; omega)
  have e : (L : Rat) = (S : Rat) * ((p.1 : Rat) / p.2) := e
  have : ((L * p.2 : Int) : Rat) = ((S * p.1 : Int) : Rat) := by
    rw [Rat.intCast_mul, Rat.intCast_mul, e]
    grind
  exact_mod_cast this
theorem nrm_bound {p : Pr} (hp : Nrm p) {L S : Int} (hS : 0 < S) (e : (L : Rat) = (S : Rat) * val p) : p.1.natAbs ≤ L.natAbs ∧ p.2.natAbs ≤ S.natAbs := by
  have x := cross hp e
  have c : Int.gcd p.2 p.1 = 1 := by
    have := hp.one
    unfold gc at this
    rw [Int.gcd_comm]
    exact_mod_cast this
  have d : p.2 ∣ S := cop_dvd (b := p.1) ⟨L, by rw [Int.mul_comm p.1 S, ← x, Int.mul_comm]⟩ c
  obtain ⟨k, rfl⟩ := d
  have p0 := hp.pos
  have k0 : 0 < k := by
    rcases Int.lt_or_le 0 k with h | h
    · exact h
    · have : p.2 * k ≤ 0 := Int.mul_nonpos_of_nonneg_of_nonpos (by omega) h
      omega
  have e2 : L = k * p.1 := by
    have : p.2 * L = p.2 * (k * p.1) := by rw [Int.mul_comm, x, Int.mul_assoc]
    exact Int.eq_of_mul_eq_mul_left (by omega) this
  refine ⟨?_, Nat.le_of_dvd (by omega) (Int.natAbs_dvd_natAbs.mpr ⟨k, rfl⟩)⟩
  rw [e2, Int.natAbs_mul]
  exact Nat.le_mul_of_pos_left _ (by omega)
theorem mkR_of {p : Pr} (hp : Nrm p) {L S : Int} (hS : 0 < S) (e : (L : Rat) = (S : Rat) * val p) : mkR L S = p := by
  refine canon (nrm_mk hS) hp ?_
  have s0 : (S : Rat) ≠ 0 := cast_ne (by omega)
  rw [val_mk hS, e]
  grind
/-- a fraction of the law, not too large -/
structure Okp (p : Pr) : Prop where
  nrm : Nrm p
  z1 : p.1.natAbs < 2 ^ 2000
  z2 : p.2.natAbs < 2 ^ 2000
theorem bot_pos (hp : Small N ps) (hq : Small M qs) (n : Nat) : 0 < cb qs * cb ps ^ n := Int.mul_pos hq.cb0 (Int.pow_pos hp.cb0)
theorem bot_lt (hp : Small N ps) (hq : Small M qs) {n : Nat} (hn : n ≤ 150) : (cb qs * cb ps ^ n).natAbs < 2 ^ 1600 := nmono (nmul hq.cbz (npow hp.cbz n)) (by omega)
theorem lev_get (hp : Small N ps) (hq : Small M qs) (hl : ps.length = qs.length) {n i : Nat} {p : Pr} (h : (lev ps qs n)[i]? = some p) : ∃ L, (wholeP ps qs n)[i]? = some L ∧ Nrm p ∧ ((L : Int) : Rat) = ((cb qs * cb ps ^ (n + i) : Int) : Rat) * val p := by
  have sc := whole_sc hp hq hl n
  have li := (List.getElem?_eq_some_iff.mp h).1
  have l2 : i < (wholeP ps qs n).length := by rw [← sc.len]; exact li
  have g := List.getElem?_eq_getElem l2
  refine ⟨_, g, sc.nrm _ (get_mem h), ?_⟩
  rw [sc.at_ i _ _ h g, Rat.intCast_mul, Int.pow_add, Rat.intCast_mul, cast_pow, cast_pow]
  grind
theorem lev_ok (hp : Small N ps) (hq : Small M qs) (hl : ps.length = qs.length) {n : Nat} (hn : n ≤ 80) : ∀ p ∈ lev ps qs n, Okp p := fun p h => by
  obtain ⟨i, hi⟩ := mem_get h
  have li := (List.getElem?_eq_some_iff.mp hi).1
  rw [lev_len hp.l1] at li
  have i6 := hp.l6
  obtain ⟨L, h1, h2, e⟩ := lev_get hp hq hl hi
  obtain ⟨b1, b2⟩ := nrm_bound h2 (bot_pos hp hq _) e
  have z := bd_whole hp hq hl n _ (get_mem h1)
  exact ⟨h2, nmono (Nat.lt_of_le_of_lt b1 z) (by omega), nmono (Nat.lt_of_le_of_lt b2 (bot_lt hp hq (n := n + i) (by omega))) (by omega)⟩
/-- what levels_at tells -/
def levP (ps qs : List Pr) (n : Nat) : List Pr := (wholeP ps qs n).zipIdx.map fun p => mkR p.1 (cb qs * cb ps ^ (n + p.2))
theorem lev_eq (hp : Small N ps) (hq : Small M qs) (hl : ps.length = qs.length) (n : Nat) : levP ps qs n = lev ps qs n := by
  apply List.ext_getElem?
  intro i
  by_cases hi : i < ps.length
  · have g := List.getElem?_eq_getElem (show i < (lev ps qs n).length by rw [lev_len hp.l1]; exact hi)
    obtain ⟨L, h1, h2, e⟩ := lev_get hp hq hl g
    unfold levP
    rw [List.getElem?_map, List.getElem?_zipIdx, h1, g]
    simp only [Option.map_some, Nat.zero_add, Option.some.injEq]
    exact mkR_of h2 (bot_pos hp hq _) e
  · rw [List.getElem?_eq_none (by unfold levP; simp; rw [whole_len hp hq hl]; omega), List.getElem?_eq_none (by rw [lev_len hp.l1]; omega)]
def h0 (ps qs : List Pr) (n : Nat) : Pr := (lev ps qs n).headD (0, 1)
theorem h0_get (hp : Small N ps) (n : Nat) : (lev ps qs n)[0]? = some (h0 ps qs n) := head_get (by rw [lev_len hp.l1]; exact hp.l1)
theorem val_eq (hp : Small N ps) (hq : Small M qs) (hl : ps.length = qs.length) (n : Nat) : mkR ((wholeP ps qs n).headD 0) (cb qs * cb ps ^ n) = h0 ps qs n := by
  obtain ⟨L, h1, h2, e⟩ := lev_get hp hq hl (h0_get (qs := qs) hp n)
  have h3 := head_get (d := (0 : Int)) (l := wholeP ps qs n) (by rw [whole_len hp hq hl]; exact hp.l1)
  rw [h1] at h3
  rw [← Option.some.inj h3]
  exact mkR_of h2 (bot_pos hp hq _) e
/-! ### the levels by the values at this place and behind it -/
theorem lev_nrm (hp : Small N ps) (hq : Small M qs) (hl : ps.length = qs.length) {n : Nat} : ∀ p ∈ lev ps qs n, Nrm p := (whole_sc hp hq hl n).nrm
theorem lev_next (hp : Small N ps) (hq : Small M qs) (hl : ps.length = qs.length) {n i : Nat} {b x y z : Pr} (hb : ps[i]? = some b) (hx : (lev ps qs n)[i]? = some x) (hy : (lev ps qs n)[i + 1]? = some y) (hz : (lev ps qs (n + 1))[i]? = some z) : val z = val y + val b * val x := by
  have e : lev ps qs (n + 1) = nextL ps (lev ps qs n) := rfl
  rw [e, nextL_get1 (by rw [lev_len hp.l1]) hb hx hy] at hz
  cases hz
  have nb := (hp.all b (get_mem hb)).1
  have nx := lev_nrm hp hq hl _ (get_mem hx)
  have ny := lev_nrm hp hq hl _ (get_mem hy)
  rw [val_add (nrm_mul nb nx) ny, val_mul nb nx]
  grind
theorem sb_of {b x y z : Pr} (nb : Nrm b) (nx : Nrm x) (ny : Nrm y) (nz : Nrm z) (e : val z = val y + val b * val x) : sbR z (mulR b x) = y := by
  refine canon (nrm_sb nz (nrm_mul nb nx)) ny ?_
  rw [val_sb nz (nrm_mul nb nx), val_mul nb nx, e]
  grind
/-- the i-th levels at n, n + 1, .. -/
def lvs (ps qs : List Pr) (n i m : Nat) : List Pr := (List.range m).map fun k => ((lev ps qs (n + k))[i]?).getD (0, 1)
theorem lvs_get {ps qs : List Pr} {n i m k : Nat} (hk : k < m) : (lvs ps qs n i m)[k]? = some (((lev ps qs (n + k))[i]?).getD (0, 1)) := by
  unfold lvs
  rw [List.getElem?_map, List.getElem?_range hk]
  rfl
theorem lvs_len {ps qs : List Pr} {n i m : Nat} : (lvs ps qs n i m).length = m := by unfold lvs; simp
theorem row_lvs (hp : Small N ps) (hq : Small M qs) (hl : ps.length = qs.length) (n : Nat) : ∀ i, i < ps.length → rowL ps (lvs ps qs n 0 ps.length) i = lvs ps qs n i (ps.length - i)
  | 0, _ => by rw [rowL_zero]; rfl
  | i + 1, hi => by
    have g := List.getElem?_eq_getElem (show i < ps.length by omega)
    generalize ps[i] = b at g
    rw [rowL_succ g, row_lvs hp hq hl n i (by omega)]
    apply List.ext_getElem?
    intro k
    by_cases hk : k < ps.length - (i + 1)
    · have q1 := lvs_get (ps := ps) (qs := qs) (n := n) (i := i) (m := ps.length - i) (k := k) (by omega)
      have q2 := lvs_get (ps := ps) (qs := qs) (n := n) (i := i) (m := ps.length - i) (k := k + 1) (by omega)
      rw [stepL_get q1 q2, lvs_get hk]
      have gx := List.getElem?_eq_getElem (show i < (lev ps qs (n + k)).length by rw [lev_len hp.l1]; omega)
      have gy := List.getElem?_eq_getElem (show i + 1 < (lev ps qs (n + k)).length by rw [lev_len hp.l1]; omega)
      have gz := List.getElem?_eq_getElem (show i < (lev ps qs (n + k + 1)).length by rw [lev_len hp.l1]; omega)
      rw [gx, gy, show n + (k + 1) = n + k + 1 by omega, gz]
      simp only [Option.getD_some]
      exact congrArg some (sb_of (hp.all b (get_mem g)).1 (lev_nrm hp hq hl _ (get_mem gx)) (lev_nrm hp hq hl _ (get_mem gy)) (lev_nrm hp hq hl _ (get_mem gz)) (lev_next hp hq hl g gx gy gz))
    · rw [List.getElem?_eq_none (by rw [stepL_len, lvs_len]; omega), List.getElem?_eq_none (by rw [lvs_len]; omega)]
theorem first_lvs (hp : Small N ps) (hq : Small M qs) (hl : ps.length = qs.length) (n : Nat) : firstL ps (lvs ps qs n 0 ps.length) = lev ps qs n := by
  apply List.ext_getElem?
  intro i
  by_cases hi : i < ps.length
  · rw [firstL_get hi, row_lvs hp hq hl n i hi]
    have h := head_get (d := ((0, 1) : Pr)) (l := lvs ps qs n i (ps.length - i)) (by rw [lvs_len]; omega)
    rw [lvs_get (by omega)] at h
    rw [← h, Nat.add_zero, List.getElem?_eq_getElem (show i < (lev ps qs n).length by rw [lev_len hp.l1]; omega)]
    rfl
  · rw [List.getElem?_eq_none (by rw [firstL_len]; omega), List.getElem?_eq_none (by rw [lev_len hp.l1]; omega)]
theorem lev_row (hp : Small N ps) (hq : Small M qs) (hl : ps.length = qs.length) : ∀ n i, n + i < ps.length → (lev ps qs n)[i]? = (rowL ps qs i)[n]?
  | 0, i, h => by
    show (firstL ps qs)[i]? = _
    rw [firstL_get (by omega)]
    exact (head_get (by rw [rowL_len i (by omega)]; omega)).symm
  | n + 1, i, h => by
    have ih1 := lev_row hp hq hl n i (by omega)
    have ih2 := lev_row hp hq hl n (i + 1) (by omega)
    have g := List.getElem?_eq_getElem (show i < ps.length by omega)
    generalize ps[i] = b at g
    obtain ⟨x, gx⟩ : ∃ x, (lev ps qs n)[i]? = some x := ⟨_, List.getElem?_eq_getElem (show i < (lev ps qs n).length by rw [lev_len hp.l1]; omega)⟩
    obtain ⟨y, gy⟩ : ∃ x, (lev ps qs n)[i + 1]? = some x := ⟨_, List.getElem?_eq_getElem (show i + 1 < (lev ps qs n).length by rw [lev_len hp.l1]; omega)⟩
    obtain ⟨z, gz⟩ : ∃ x, (lev ps qs (n + 1))[i]? = some x := ⟨_, List.getElem?_eq_getElem (show i < (lev ps qs (n + 1)).length by rw [lev_len hp.l1]; omega)⟩
    obtain ⟨v, gw⟩ : ∃ x, (rowL ps qs i)[n + 1]? = some x := ⟨_, List.getElem?_eq_getElem (show n + 1 < (rowL ps qs i).length by rw [rowL_len i (by omega)]; omega)⟩
    have e := lev_next hp hq hl g gx gy gz
    rw [gz, gw]
    rw [gx] at ih1
    rw [gy, rowL_succ g, stepL_get ih1.symm gw] at ih2
    have rn := ((hq.sc (cb ps)).row hp.bs i (by omega)).nrm
    have nb := (hp.all b (get_mem g)).1
    have nx := lev_nrm hp hq hl _ (get_mem gx)
    have nv := rn _ (get_mem gw)
    have ey : val y = val v - val b * val x := by
      rw [Option.some.inj ih2, val_sb nv (nrm_mul nb nx), val_mul nb nx]
    refine congrArg some (canon (lev_nrm hp hq hl _ (get_mem gz)) nv ?_)
    rw [e, ey]
    grind
theorem h0_first (hp : Small N ps) (hq : Small M qs) (hl : ps.length = qs.length) {n : Nat} (h : n < ps.length) : qs[n]? = some (h0 ps qs n) := by
  have e := lev_row hp hq hl n 0 (by omega)
  rw [h0_get hp, rowL_zero] at e
  exact e.symm
theorem lvs0 (hp : Small N ps) {n m : Nat} : lvs ps qs n 0 m = (List.range m).map fun k => h0 ps qs (n + k) := by
  unfold lvs
  refine List.map_congr_left fun k _ => ?_
  rw [h0_get hp]
  rfl
end
end K1

set_option Elab.async false
set_option linter.all false
set_option maxRecDepth 100000
set_option maxHeartbeats 0
namespace K1
open PySem PySem.Spec PyProof.Rows L2 DL
section
variable {P : Program} {w : World} {K : PySem.W.Frag} {mg : Str → Option Value} {base : Heap}
theorem pow64 {a : Int} {n : Nat} (h : a.natAbs ≤ n) (hn : n < 2 ^ 64) : a.natAbs < 2 ^ 64 := Nat.lt_of_le_of_lt h hn
theorem stay_mut {S : MS} {m : Nat} {ds : List D} (h : S[m]? = some ds) : stayD S (.mut m) = some (ds, fun S2 => S2[m]? = some ds) := by
  show (match S[m]? with
    | some ds => some (ds, fun S2 : MS => S2[m]? = some ds)
    | none => none) = _
  rw [h]
def prD (p : Pr) : D := .tup [.int p.1, .int p.2]

def w_common_bottom : WF := fun ds S Q => match ds with
  | [.mut m] => ∃ (N : Nat) (ps : List Pr), S[m]? = some (ps.map rt) ∧ (∀ p ∈ ps, p.2.natAbs ∣ N) ∧ 0 < N ∧ N < 2 ^ 64 ∧ Q (.int (cb ps)) S
  | _ => False
theorem sc_common_bottom : FnScope ["ratios", "bottom", "ratio"] ["ratios"] (defScope s_common_bottom) := ⟨rfl, rfl, rfl, by decide +kernel, rfl, by decide +kernel, by decide +kernel⟩
theorem ok_common_bottom (T : Tx K mg) : FnOk P w K mg base CX0 3 T.f_common_bottom T.fd_common_bottom ["ratios"] (spW ⟨K, mg⟩ 1 w_common_bottom) := by
  refine fnD (k := 2) T.F_common_bottom sc_common_bottom (fun cdv A outer s H E hr => ⟨_, (dss_cons (ds_set (i := 1) sc_common_bottom.nd d_int)
  (dss_cons (ds_for PassesOwn.never rfl (dv 0) (dg_name (i := 2) sc_common_bottom.nd) (dss_one (ds_set (i := 1) sc_common_bottom.nd (d_callF cr_lcm snd_lcm T.g_lcm (da_cons (dv 1) (da_cons (d_prop (dv 2) T.g_Ratio T.cl T.p_bottom (ok_R_bottom T) (hr.mono (by decide)) T.b_R_bottom) da_nil))))))
  (dss_one (ds_ret (dv 1)))))⟩) (fun ds S Q hl h => ?_)
  match ds, h with
  | [.mut m], ⟨N, ps, hS, hd, n0, n1, h⟩ =>
    simp only [true_and, and_true, oU2, oUn1, oL1, oS1, oR1, oJust, iAdd, iSub, iMul, iFdiv, iMod, iEq, iNe, iLt, iLe, iGt, iGe, iNeg, iAbs, DL.iStr, wFmt, wJs, wJoined, sNext, sSeq, sDrop, sRet, sRetN, sIf, sAsg, sPar, wOp, wVar, wC, wUn, wCons, wNil, wCB, wCall, wMake, wMakeSw, wCallSw, wProp, wFld, oI, oI0, oU, wTest, wAnd, wOr, wNot, wAndV, wOrV, wNotV, wIf, wTup, wLst, wLstM, gwName, gwNil, gwCons, gwTup, gwSub, oIx, oInt1, oAbsI, oLen, oGcd, oDivmod, oMax2, oMin2, oIsi, tyOf, clOf, kt_ii, kt_ib, kt_rr, kt_ir, kt_ri, kt_rb, kt_ni, kt_bi, kt_bb, kt_si, kt_ti, kt_li, kt_di, kt_nr, kt_br, kt_sr, kt_tr, kt_lr, kt_dr, oStrI, if_t1, if_f1, Bool.not_true, Bool.not_false, rt, startD, List.map_cons, List.map_nil, List.length_cons, List.length_nil, List.cons_append, List.nil_append, List.getElem?_cons_zero, List.getElem?_cons_succ, List.set_cons_zero, List.set_cons_succ, List.replicate, Nat.reduceAdd, Nat.reduceSub, Nat.zero_add, Nat.sub_self, Nat.add_sub_cancel, kt_tt, wChain, sFor, sForR, forStep, gwLst, listD, wCut, wStar, oListM, oTupl, seqD, oLcm, wCallP3, p3rev, p3mid, wAppend, lk_top, lk_bot, w1, w2, numD_int, numD_ins, w_is_int, w_is_number, wi_Ratio, w_as_ratio, w_top, w_bottom, w1r, w2r, lk_ex, wMeth, w_excess, w_lt, w_le, w_gt, w_raised, w_is_int_within, wLc, wLcE, wLcZ, wLcZ3, wLcT, wLcR, wYes, wipeD, Nat.zero_add]
    refine ⟨_, hS, ?_⟩
    refine forM_run (m0 := m) rt (fun i ρ S' => S' = S ∧ ∃ o, ρ = [some (.mut m), some (.int ((cbN (ps.take i) : Nat) : Int)), o]) ps 0 (fun i ρ S' j => ?_) ?_ ?_ _ _ ⟨rfl, none, rfl⟩
    · obtain ⟨rfl, _⟩ := j
      exact hS
    · rintro i p ρ S' nx hp ⟨rfl, o, rfl⟩ hn
      simp only [true_and, and_true, oU2, oUn1, oL1, oS1, oR1, oJust, iAdd, iSub, iMul, iFdiv, iMod, iEq, iNe, iLt, iLe, iGt, iGe, iNeg, iAbs, DL.iStr, wFmt, wJs, wJoined, sNext, sSeq, sDrop, sRet, sRetN, sIf, sAsg, sPar, wOp, wVar, wC, wUn, wCons, wNil, wCB, wCall, wMake, wMakeSw, wCallSw, wProp, wFld, oI, oI0, oU, wTest, wAnd, wOr, wNot, wAndV, wOrV, wNotV, wIf, wTup, wLst, wLstM, gwName, gwNil, gwCons, gwTup, gwSub, oIx, oInt1, oAbsI, oLen, oGcd, oDivmod, oMax2, oMin2, oIsi, tyOf, clOf, kt_ii, kt_ib, kt_rr, kt_ir, kt_ri, kt_rb, kt_ni, kt_bi, kt_bb, kt_si, kt_ti, kt_li, kt_di, kt_nr, kt_br, kt_sr, kt_tr, kt_lr, kt_dr, oStrI, if_t1, if_f1, Bool.not_true, Bool.not_false, rt, startD, List.map_cons, List.map_nil, List.length_cons, List.length_nil, List.cons_append, List.nil_append, List.getElem?_cons_zero, List.getElem?_cons_succ, List.set_cons_zero, List.set_cons_succ, List.replicate, Nat.reduceAdd, Nat.reduceSub, Nat.zero_add, Nat.sub_self, Nat.add_sub_cancel, kt_tt, wChain, sFor, sForR, forStep, gwLst, listD, wCut, wStar, oListM, oTupl, seqD, oLcm, wCallP3, p3rev, p3mid, wAppend, lk_top, lk_bot, w1, w2, numD_int, numD_ins, w_is_int, w_is_number, wi_Ratio, w_as_ratio, w_top, w_bottom, w1r, w2r, lk_ex, wMeth, w_excess, w_lt, w_le, w_gt, w_raised, w_is_int_within, wLc, wLcE, wLcZ, wLcZ3, wLcT, wLcR, wYes, wipeD, Nat.zero_add]
      simp only [Nat.zero_add] at hn ⊢
      have d1 := Nat.le_of_dvd n0 (cbN_take hd i)
      have d2 := Nat.le_of_dvd n0 (hd p (get_mem hp))
      refine ⟨by rw [Int.natAbs_natCast]; omega, by omega, hn _ _ ⟨rfl, some (rt p), ?_⟩⟩
      rw [cbN_succ hp, Int.natAbs_natCast]
      rfl
    · rintro ρ S' ⟨rfl, o, rfl⟩
      simp only [true_and, and_true, oU2, oUn1, oL1, oS1, oR1, oJust, iAdd, iSub, iMul, iFdiv, iMod, iEq, iNe, iLt, iLe, iGt, iGe, iNeg, iAbs, DL.iStr, wFmt, wJs, wJoined, sNext, sSeq, sDrop, sRet, sRetN, sIf, sAsg, sPar, wOp, wVar, wC, wUn, wCons, wNil, wCB, wCall, wMake, wMakeSw, wCallSw, wProp, wFld, oI, oI0, oU, wTest, wAnd, wOr, wNot, wAndV, wOrV, wNotV, wIf, wTup, wLst, wLstM, gwName, gwNil, gwCons, gwTup, gwSub, oIx, oInt1, oAbsI, oLen, oGcd, oDivmod, oMax2, oMin2, oIsi, tyOf, clOf, kt_ii, kt_ib, kt_rr, kt_ir, kt_ri, kt_rb, kt_ni, kt_bi, kt_bb, kt_si, kt_ti, kt_li, kt_di, kt_nr, kt_br, kt_sr, kt_tr, kt_lr, kt_dr, oStrI, if_t1, if_f1, Bool.not_true, Bool.not_false, rt, startD, List.map_cons, List.map_nil, List.length_cons, List.length_nil, List.cons_append, List.nil_append, List.getElem?_cons_zero, List.getElem?_cons_succ, List.set_cons_zero, List.set_cons_succ, List.replicate, Nat.reduceAdd, Nat.reduceSub, Nat.zero_add, Nat.sub_self, Nat.add_sub_cancel, kt_tt, wChain, sFor, sForR, forStep, gwLst, listD, wCut, wStar, oListM, oTupl, seqD, oLcm, wCallP3, p3rev, p3mid, wAppend, lk_top, lk_bot, w1, w2, numD_int, numD_ins, w_is_int, w_is_number, wi_Ratio, w_as_ratio, w_top, w_bottom, w1r, w2r, lk_ex, wMeth, w_excess, w_lt, w_le, w_gt, w_raised, w_is_int_within, wLc, wLcE, wLcZ, wLcZ3, wLcT, wLcR, wYes, wipeD, Nat.zero_add]
      rw [List.take_length]
      exact h
theorem Small.dv {N : Nat} {ps : List Pr} (h : Small N ps) : ∀ p ∈ ps, p.2.natAbs ∣ N := fun p hp => (h.all p hp).2.1
theorem Small.n64 {N : Nat} {ps : List Pr} (h : Small N ps) : N < 2 ^ 64 := Nat.lt_trans h.n1 (by decide)
theorem small_line {n : Nat} (h : n ≤ 1000) : n ≤ sizeLine := by rw [sizeLine_eq]; omega
theorem mutD {ys : List D} {m : Nat} {S S0 : MS} (h : MapJ S0 m ys ys.length S) : Ext S0 S ∧ S[m]? = some ys := h.fin rfl

def w_whole_bases : WF := fun ds S Q => match ds with
  | [.mut m] => ∃ (N : Nat) (ps : List Pr), S[m]? = some (ps.map rt) ∧ Small N ps ∧ ∀ S' k, Ext S S' → S'[k]? = some ((whB' ps).map D.int) → Q (.mut k) S'
  | _ => False
theorem sc_whole_bases : FnScope ["bases", "bottom", "base"] ["bases"] (defScope s_whole_bases) := ⟨rfl, rfl, rfl, by decide +kernel, rfl, by decide +kernel, by decide +kernel⟩
theorem ok_whole_bases (T : Tx K mg) : FnOk P w K mg base CX0 5 T.f_whole_bases T.fd_whole_bases ["bases"] (spW ⟨K, mg⟩ 1 w_whole_bases) := by
  refine fnD (k := 4) T.F_whole_bases sc_whole_bases (fun cdv A outer s H E hr => ⟨_, (dss_cons (ds_set (i := 1) sc_whole_bases.nd (d_call (ok_common_bottom T) (hr.mono (by decide)) T.m_common_bottom T.F_common_bottom.kp T.b_common_bottom (da_cons (dv 0) da_nil)))
  (dss_one (ds_ret (d_lc (own := [("base", 2)]) rfl sc_whole_bases.nd (dv 0) (blkOk_by (own := [("base", 2)]) (N := ["bases", "bottom", "base"]) (sc := defScope s_whole_bases) (by decide +kernel)) (gown_name (by decide)) (fun _ _ _ _ _ => (dg_name (i := 2) sc_whole_bases.nd)) (fun _ _ _ _ _ => dts_nil) (fun _ _ _ _ _ => (d_op op_mulW snd_iMul (d_propC (dv 2) T.g_Ratio T.cl T.p_top (ok_R_top T) (hr.mono (by decide)) T.b_R_top) (d_op op_fdivWN snd_iFdiv (dv 1) (d_propC (dv 2) T.g_Ratio T.cl T.p_bottom (ok_R_bottom T) (hr.mono (by decide)) T.b_R_bottom))))))))⟩) (fun ds S Q hl h => ?_)
  match ds, h with
  | [.mut m], ⟨N, ps, hS, hs, h⟩ =>
    simp only [true_and, and_true, oU2, oUn1, oL1, oS1, oR1, oJust, iAdd, iSub, iMul, iFdiv, iMod, iEq, iNe, iLt, iLe, iGt, iGe, iNeg, iAbs, DL.iStr, wFmt, wJs, wJoined, sNext, sSeq, sDrop, sRet, sRetN, sIf, sAsg, sPar, wOp, wVar, wC, wUn, wCons, wNil, wCB, wCall, wMake, wMakeSw, wCallSw, wProp, wFld, oI, oI0, oU, wTest, wAnd, wOr, wNot, wAndV, wOrV, wNotV, wIf, wTup, wLst, wLstM, gwName, gwNil, gwCons, gwTup, gwSub, oIx, oInt1, oAbsI, oLen, oGcd, oDivmod, oMax2, oMin2, oIsi, tyOf, clOf, kt_ii, kt_ib, kt_rr, kt_ir, kt_ri, kt_rb, kt_ni, kt_bi, kt_bb, kt_si, kt_ti, kt_li, kt_di, kt_nr, kt_br, kt_sr, kt_tr, kt_lr, kt_dr, oStrI, if_t1, if_f1, Bool.not_true, Bool.not_false, rt, startD, List.map_cons, List.map_nil, List.length_cons, List.length_nil, List.cons_append, List.nil_append, List.getElem?_cons_zero, List.getElem?_cons_succ, List.set_cons_zero, List.set_cons_succ, List.replicate, Nat.reduceAdd, Nat.reduceSub, Nat.zero_add, Nat.sub_self, Nat.add_sub_cancel, kt_tt, wChain, sFor, sForR, forStep, gwLst, listD, wCut, wStar, oListM, oTupl, seqD, oLcm, wCallP3, p3rev, p3mid, wAppend, lk_top, lk_bot, w1, w2, numD_int, numD_ins, w_is_int, w_is_number, wi_Ratio, w_as_ratio, w_top, w_bottom, w1r, w2r, lk_ex, wMeth, w_excess, w_lt, w_le, w_gt, w_raised, w_is_int_within, wLc, wLcE, wLcZ, wLcZ3, wLcT, wLcR, wYes, wipeD, Nat.zero_add, w_common_bottom]
    refine ⟨N, ps, hS, hs.dv, hs.n0, hs.n64, ?_⟩
    rw [hS]
    simp only [true_and, and_true, oU2, oUn1, oL1, oS1, oR1, oJust, iAdd, iSub, iMul, iFdiv, iMod, iEq, iNe, iLt, iLe, iGt, iGe, iNeg, iAbs, DL.iStr, wFmt, wJs, wJoined, sNext, sSeq, sDrop, sRet, sRetN, sIf, sAsg, sPar, wOp, wVar, wC, wUn, wCons, wNil, wCB, wCall, wMake, wMakeSw, wCallSw, wProp, wFld, oI, oI0, oU, wTest, wAnd, wOr, wNot, wAndV, wOrV, wNotV, wIf, wTup, wLst, wLstM, gwName, gwNil, gwCons, gwTup, gwSub, oIx, oInt1, oAbsI, oLen, oGcd, oDivmod, oMax2, oMin2, oIsi, tyOf, clOf, kt_ii, kt_ib, kt_rr, kt_ir, kt_ri, kt_rb, kt_ni, kt_bi, kt_bb, kt_si, kt_ti, kt_li, kt_di, kt_nr, kt_br, kt_sr, kt_tr, kt_lr, kt_dr, oStrI, if_t1, if_f1, Bool.not_true, Bool.not_false, rt, startD, List.map_cons, List.map_nil, List.length_cons, List.length_nil, List.cons_append, List.nil_append, List.getElem?_cons_zero, List.getElem?_cons_succ, List.set_cons_zero, List.set_cons_succ, List.replicate, Nat.reduceAdd, Nat.reduceSub, Nat.zero_add, Nat.sub_self, Nat.add_sub_cancel, kt_tt, wChain, sFor, sForR, forStep, gwLst, listD, wCut, wStar, oListM, oTupl, seqD, oLcm, wCallP3, p3rev, p3mid, wAppend, lk_top, lk_bot, w1, w2, numD_int, numD_ins, w_is_int, w_is_number, wi_Ratio, w_as_ratio, w_top, w_bottom, w1r, w2r, lk_ex, wMeth, w_excess, w_lt, w_le, w_gt, w_raised, w_is_int_within, wLc, wLcE, wLcZ, wLcZ3, wLcT, wLcR, wYes, wipeD, Nat.zero_add, w_common_bottom]
    refine lcM_run rt (MapJ S S.length ((whB' ps).map .int)) ps 0 (fun i S' j => j.1 _ _ hS) ?_ ?_ _ MapJ.start
    · intro i p S' nx hp j hn
      simp only [true_and, and_true, oU2, oUn1, oL1, oS1, oR1, oJust, iAdd, iSub, iMul, iFdiv, iMod, iEq, iNe, iLt, iLe, iGt, iGe, iNeg, iAbs, DL.iStr, wFmt, wJs, wJoined, sNext, sSeq, sDrop, sRet, sRetN, sIf, sAsg, sPar, wOp, wVar, wC, wUn, wCons, wNil, wCB, wCall, wMake, wMakeSw, wCallSw, wProp, wFld, oI, oI0, oU, wTest, wAnd, wOr, wNot, wAndV, wOrV, wNotV, wIf, wTup, wLst, wLstM, gwName, gwNil, gwCons, gwTup, gwSub, oIx, oInt1, oAbsI, oLen, oGcd, oDivmod, oMax2, oMin2, oIsi, tyOf, clOf, kt_ii, kt_ib, kt_rr, kt_ir, kt_ri, kt_rb, kt_ni, kt_bi, kt_bb, kt_si, kt_ti, kt_li, kt_di, kt_nr, kt_br, kt_sr, kt_tr, kt_lr, kt_dr, oStrI, if_t1, if_f1, Bool.not_true, Bool.not_false, rt, startD, List.map_cons, List.map_nil, List.length_cons, List.length_nil, List.cons_append, List.nil_append, List.getElem?_cons_zero, List.getElem?_cons_succ, List.set_cons_zero, List.set_cons_succ, List.replicate, Nat.reduceAdd, Nat.reduceSub, Nat.zero_add, Nat.sub_self, Nat.add_sub_cancel, kt_tt, wChain, sFor, sForR, forStep, gwLst, listD, wCut, wStar, oListM, oTupl, seqD, oLcm, wCallP3, p3rev, p3mid, wAppend, lk_top, lk_bot, w1, w2, numD_int, numD_ins, w_is_int, w_is_number, wi_Ratio, w_as_ratio, w_top, w_bottom, w1r, w2r, lk_ex, wMeth, w_excess, w_lt, w_le, w_gt, w_raised, w_is_int_within, wLc, wLcE, wLcZ, wLcZ3, wLcT, wLcR, wYes, wipeD, Nat.zero_add, w_common_bottom, lcStep]
      have hm := hs.all p (get_mem hp)
      have z1 : p.1.natAbs < 2 ^ 2000 := nmono hm.2.2 (by decide)
      have z4 : ((cb ps).fdiv p.2).natAbs < 2 ^ 2000 := nmono (fdiv_lt hs.cbz hm.1.pos) (by decide)
      have p2 : p.2.natAbs < 2 ^ 10 := by
        have := Nat.le_of_dvd hs.n0 hm.2.1
        have n1 := hs.n1
        omega
      refine ⟨⟨by have := hm.1.pos; omega, lt_log2 (by decide) (nmono p2 (by decide))⟩, cm8 z1 z4, ?_⟩
      refine map_next (Nat.le_refl _) j .refl ?_ (small_line (by simp [whB']; have := hs.l6; omega)) hn
      unfold whB'
      rw [Nat.zero_add, List.getElem?_map, List.getElem?_map, hp]
      rfl
    · intro S' j
      rw [Nat.zero_add, show ps.length = ((whB' ps).map D.int).length by simp [whB']] at j
      exact h _ _ (mutD j).1 (mutD j).2
theorem scP_get {qs : List Pr} {b q : Int} {i : Nat} {p : Pr} (h : qs[i]? = some p) : (scP qs b q)[i]? = some (p.1 * b.fdiv p.2 * q ^ i) := by
  unfold scP
  rw [List.getElem?_map, List.getElem?_zipIdx, h]
  simp

def w_scaled : WF := fun ds S Q => match ds with
  | [.mut m, .int b, .int q] => ∃ (N : Nat) (ps : List Pr), S[m]? = some (ps.map rt) ∧ Small N ps ∧ b.natAbs < 2 ^ 10 ∧ q.natAbs < 2 ^ 10 ∧ ∀ S' k, Ext S S' → S'[k]? = some ((scP ps b q).map D.int) → Q (.mut k) S'
  | _ => False
theorem sc_scaled : FnScope ["values", "bottom", "step", "t", "value"] ["values", "bottom", "step"] (defScope s_scaled) := ⟨rfl, rfl, rfl, by decide +kernel, rfl, by decide +kernel, by decide +kernel⟩
theorem ok_scaled (T : Tx K mg) : FnOk P w K mg base CX0 5 T.f_scaled T.fd_scaled ["values", "bottom", "step"] (spW ⟨K, mg⟩ 3 w_scaled) := by
  refine fnD (k := 4) T.F_scaled sc_scaled (fun cdv A outer s H E hr => ⟨_, (dss_one (ds_ret (d_lcE (own := [("t", 3), ("value", 4)]) rfl sc_scaled.nd T.z_enumerate (da_cons (dv 0) da_nil) (blkOk_by (own := [("t", 3), ("value", 4)]) (N := ["values", "bottom", "step", "t", "value"]) (sc := defScope s_scaled) (by decide +kernel)) (gown_two (by decide) (by decide)) (fun _ _ _ _ _ => (dg_tup (n := 2) rfl (dgs_cons (dg_name (i := 3) sc_scaled.nd) (dgs_cons (dg_name (i := 4) sc_scaled.nd) dgs_nil)))) (fun _ _ _ _ _ => dts_nil) (fun _ _ _ _ _ => (d_op op_mulW snd_iMul (d_op op_mulW snd_iMul (d_propC (dv 4) T.g_Ratio T.cl T.p_top (ok_R_top T) (hr.mono (by decide)) T.b_R_top) (d_op op_fdivWN snd_iFdiv (dv 1) (d_propC (dv 4) T.g_Ratio T.cl T.p_bottom (ok_R_bottom T) (hr.mono (by decide)) T.b_R_bottom))) (d_callC (ok_raised T) (hr.mono (by decide)) T.m_raised T.F_raised.kp T.b_raised (da_cons (dv 2) (da_cons (dv 3) da_nil))))))))⟩) (fun ds S Q hl h => ?_)
  match ds, h with
  | [.mut m, .int b, .int q], ⟨N, ps, hS, hs, hb, hq, h⟩ =>
    simp only [true_and, and_true, oU2, oUn1, oL1, oS1, oR1, oJust, iAdd, iSub, iMul, iFdiv, iMod, iEq, iNe, iLt, iLe, iGt, iGe, iNeg, iAbs, DL.iStr, wFmt, wJs, wJoined, sNext, sSeq, sDrop, sRet, sRetN, sIf, sAsg, sPar, wOp, wVar, wC, wUn, wCons, wNil, wCB, wCall, wMake, wMakeSw, wCallSw, wProp, wFld, oI, oI0, oU, wTest, wAnd, wOr, wNot, wAndV, wOrV, wNotV, wIf, wTup, wLst, wLstM, gwName, gwNil, gwCons, gwTup, gwSub, oIx, oInt1, oAbsI, oLen, oGcd, oDivmod, oMax2, oMin2, oIsi, tyOf, clOf, kt_ii, kt_ib, kt_rr, kt_ir, kt_ri, kt_rb, kt_ni, kt_bi, kt_bb, kt_si, kt_ti, kt_li, kt_di, kt_nr, kt_br, kt_sr, kt_tr, kt_lr, kt_dr, oStrI, if_t1, if_f1, Bool.not_true, Bool.not_false, rt, startD, List.map_cons, List.map_nil, List.length_cons, List.length_nil, List.cons_append, List.nil_append, List.getElem?_cons_zero, List.getElem?_cons_succ, List.set_cons_zero, List.set_cons_succ, List.replicate, Nat.reduceAdd, Nat.reduceSub, Nat.zero_add, Nat.sub_self, Nat.add_sub_cancel, kt_tt, wChain, sFor, sForR, forStep, gwLst, listD, wCut, wStar, oListM, oTupl, seqD, oLcm, wCallP3, p3rev, p3mid, wAppend, lk_top, lk_bot, w1, w2, numD_int, numD_ins, w_is_int, w_is_number, wi_Ratio, w_as_ratio, w_top, w_bottom, w1r, w2r, lk_ex, wMeth, w_excess, w_lt, w_le, w_gt, w_raised, w_is_int_within, wLc, wLcE, wLcZ, wLcZ3, wLcT, wLcR, wYes, wipeD, Nat.zero_add, w_common_bottom, w_whole_bases]
    refine ⟨_, _, stay_mut hS, ?_⟩
    rw [enum_map]
    refine lcO_run (fun p : Pr × Nat => D.tup [.int (p.2 : Nat), rt p.1]) (MapJ S S.length ((scP ps b q).map .int)) ps.zipIdx 0 (fun i S' j => j.1 _ _ hS) ?_ ?_ _ MapJ.start
    · intro i p S' nx hp j hn
      rw [List.getElem?_zipIdx, Option.map_eq_some_iff] at hp
      obtain ⟨p, hp, rfl⟩ := hp
      have i6 : i < 6 := by have := (List.getElem?_eq_some_iff.mp hp).1; have := hs.l6; omega
      simp only [true_and, and_true, oU2, oUn1, oL1, oS1, oR1, oJust, iAdd, iSub, iMul, iFdiv, iMod, iEq, iNe, iLt, iLe, iGt, iGe, iNeg, iAbs, DL.iStr, wFmt, wJs, wJoined, sNext, sSeq, sDrop, sRet, sRetN, sIf, sAsg, sPar, wOp, wVar, wC, wUn, wCons, wNil, wCB, wCall, wMake, wMakeSw, wCallSw, wProp, wFld, oI, oI0, oU, wTest, wAnd, wOr, wNot, wAndV, wOrV, wNotV, wIf, wTup, wLst, wLstM, gwName, gwNil, gwCons, gwTup, gwSub, oIx, oInt1, oAbsI, oLen, oGcd, oDivmod, oMax2, oMin2, oIsi, tyOf, clOf, kt_ii, kt_ib, kt_rr, kt_ir, kt_ri, kt_rb, kt_ni, kt_bi, kt_bb, kt_si, kt_ti, kt_li, kt_di, kt_nr, kt_br, kt_sr, kt_tr, kt_lr, kt_dr, oStrI, if_t1, if_f1, Bool.not_true, Bool.not_false, rt, startD, List.map_cons, List.map_nil, List.length_cons, List.length_nil, List.cons_append, List.nil_append, List.getElem?_cons_zero, List.getElem?_cons_succ, List.set_cons_zero, List.set_cons_succ, List.replicate, Nat.reduceAdd, Nat.reduceSub, Nat.zero_add, Nat.sub_self, Nat.add_sub_cancel, kt_tt, wChain, sFor, sForR, forStep, gwLst, listD, wCut, wStar, oListM, oTupl, seqD, oLcm, wCallP3, p3rev, p3mid, wAppend, lk_top, lk_bot, w1, w2, numD_int, numD_ins, w_is_int, w_is_number, wi_Ratio, w_as_ratio, w_top, w_bottom, w1r, w2r, lk_ex, wMeth, w_excess, w_lt, w_le, w_gt, w_raised, w_is_int_within, wLc, wLcE, wLcZ, wLcZ3, wLcT, wLcR, wYes, wipeD, Nat.zero_add, w_common_bottom, w_whole_bases, lcStep]
      have hm := hs.all p (get_mem hp)
      have z4 : (b.fdiv p.2).natAbs < 2 ^ 10 := fdiv_lt hb hm.1.pos
      have p2 : p.2.natAbs < 2 ^ 10 := by
        have := Nat.le_of_dvd hs.n0 hm.2.1
        have n1 := hs.n1
        omega
      have z5 := nmul hm.2.2 z4
      have z6 := npow hq i
      refine ⟨⟨by have := hm.1.pos; omega, lt_log2 (by decide) (nmono p2 (by decide))⟩, cm8 (nmono hm.2.2 (by decide)) (nmono z4 (by decide)), 10, by omega, by omega, hq, by simp; omega, ?_⟩
      refine ⟨cm8 (nmono z5 (by decide)) (nmono (by simpa using z6) (by omega)), ?_⟩
      refine map_next (Nat.le_refl _) j .refl ?_ (small_line (by rw [List.length_map, scP_len]; have := hs.l6; omega)) hn
      rw [Nat.zero_add, List.getElem?_map, scP_get hp]
      simp
    · intro S' j
      rw [Nat.zero_add, show ps.zipIdx.length = ((scP ps b q).map D.int).length by rw [List.length_map, scP_len, List.length_zipIdx]] at j
      exact h _ _ (mutD j).1 (mutD j).2
def w_whole_values : WF := fun ds S Q => match ds with
  | [.mut m, .mut v] => ∃ (N M : Nat) (ps qs : List Pr), S[m]? = some (ps.map rt) ∧ S[v]? = some (qs.map rt) ∧ Small N ps ∧ Small M qs ∧ ∀ S' k, Ext S S' → S'[k]? = some ((scP qs (cb qs) (cb ps)).map D.int) → Q (.mut k) S'
  | _ => False
theorem sc_whole_values : FnScope ["bases", "values"] ["bases", "values"] (defScope s_whole_values) := ⟨rfl, rfl, rfl, by decide +kernel, rfl, by decide +kernel, by decide +kernel⟩
theorem ok_whole_values (T : Tx K mg) : FnOk P w K mg base CX0 6 T.f_whole_values T.fd_whole_values ["bases", "values"] (spW ⟨K, mg⟩ 2 w_whole_values) := by
  refine fnD (k := 5) T.F_whole_values sc_whole_values (fun cdv A outer s H E hr => ⟨_, (dss_one (ds_ret (d_call (ok_scaled T) (hr.mono (by decide)) T.m_scaled T.F_scaled.kp T.b_scaled (da_cons (dv 1) (da_cons (d_call (ok_common_bottom T) (hr.mono (by decide)) T.m_common_bottom T.F_common_bottom.kp T.b_common_bottom (da_cons (dv 1) da_nil)) (da_cons (d_call (ok_common_bottom T) (hr.mono (by decide)) T.m_common_bottom T.F_common_bottom.kp T.b_common_bottom (da_cons (dv 0) da_nil)) da_nil))))))⟩) (fun ds S Q hl h => ?_)
  match ds, h with
  | [.mut m, .mut v], ⟨N, M, ps, qs, hS, hV, hs, hv, h⟩ =>
    simp only [true_and, and_true, oU2, oUn1, oL1, oS1, oR1, oJust, iAdd, iSub, iMul, iFdiv, iMod, iEq, iNe, iLt, iLe, iGt, iGe, iNeg, iAbs, DL.iStr, wFmt, wJs, wJoined, sNext, sSeq, sDrop, sRet, sRetN, sIf, sAsg, sPar, wOp, wVar, wC, wUn, wCons, wNil, wCB, wCall, wMake, wMakeSw, wCallSw, wProp, wFld, oI, oI0, oU, wTest, wAnd, wOr, wNot, wAndV, wOrV, wNotV, wIf, wTup, wLst, wLstM, gwName, gwNil, gwCons, gwTup, gwSub, oIx, oInt1, oAbsI, oLen, oGcd, oDivmod, oMax2, oMin2, oIsi, tyOf, clOf, kt_ii, kt_ib, kt_rr, kt_ir, kt_ri, kt_rb, kt_ni, kt_bi, kt_bb, kt_si, kt_ti, kt_li, kt_di, kt_nr, kt_br, kt_sr, kt_tr, kt_lr, kt_dr, oStrI, if_t1, if_f1, Bool.not_true, Bool.not_false, rt, startD, List.map_cons, List.map_nil, List.length_cons, List.length_nil, List.cons_append, List.nil_append, List.getElem?_cons_zero, List.getElem?_cons_succ, List.set_cons_zero, List.set_cons_succ, List.replicate, Nat.reduceAdd, Nat.reduceSub, Nat.zero_add, Nat.sub_self, Nat.add_sub_cancel, kt_tt, wChain, sFor, sForR, forStep, gwLst, listD, wCut, wStar, oListM, oTupl, seqD, oLcm, wCallP3, p3rev, p3mid, wAppend, lk_top, lk_bot, w1, w2, numD_int, numD_ins, w_is_int, w_is_number, wi_Ratio, w_as_ratio, w_top, w_bottom, w1r, w2r, lk_ex, wMeth, w_excess, w_lt, w_le, w_gt, w_raised, w_is_int_within, wLc, wLcE, wLcZ, wLcZ3, wLcT, wLcR, wYes, wipeD, Nat.zero_add, w_common_bottom, w_whole_bases, w_scaled]
    refine ⟨M, qs, hV, hv.dv, hv.n0, hv.n64, N, ps, hS, hs.dv, hs.n0, hs.n64, ?_⟩
    exact ⟨M, qs, hV, hv, hv.cbz, hs.cbz, h⟩
theorem atI_head {l : List D} {d : D} (h : l[0]? = some d) : L2.atI l 0 = some d := atI_nat h
theorem map_head {α : Type} {f : α → D} {l : List α} {d : α} (h : 0 < l.length) : L2.atI (l.map f) 0 = some (f (l.headD d)) := atI_nat (j := 0) (by rw [List.getElem?_map, head_get (d := d) h]; rfl)
theorem cut_tail (l : List D) : cutD l (some 1) none = l.tail := by
  cases l with
  | nil => rfl
  | cons d ds => exact cut_from1 d ds
theorem map_tail {α β : Type} (f : α → β) (l : List α) : (l.map f).tail = l.tail.map f := by cases l <;> rfl

end
end K1
set_option Elab.async false
set_option linter.all false
set_option maxRecDepth 100000
set_option maxHeartbeats 0
namespace K1
open PySem PySem.Spec PyProof.Rows L2 DL
section
variable {P : Program} {w : World} {K : PySem.W.Frag} {mg : Str → Option Value} {base : Heap}
theorem Bd.lt {N : Nat} {Ls : List Int} (h : Bd N Ls) {i : Nat} {L : Int} (e : Ls[i]? = some L) : L.natAbs < 2 ^ N := h L (get_mem e)
theorem ne_get {S : MS} {m r : Nat} {x y : List D} (h : S[r]? = some y) (n : r ≠ m) : (S.set m x)[r]? = some y := by
  rw [List.getElem?_set_ne (fun z => n z.symm)]
  exact h
theorem take_map {α : Type} {f : α → D} {l : List α} {i : Nat} {x : α} (h : l[i]? = some x) : (l.take i).map f ++ [f x] = (l.take (i + 1)).map f := by
  rw [List.take_add_one, h, List.map_append]
  rfl

def w_first_levels : WF := fun ds S Q => match ds with
  | [.mut b, .mut v] => ∃ Bz Ws : List Int, S[b]? = some (Bz.map D.int) ∧ S[v]? = some (Ws.map D.int) ∧ Bd 20 Bz ∧ Bd 90 Ws ∧ Bz.length = Ws.length ∧ Bz.length ≤ 6 ∧ ∀ S' k, Ext S S' → S'[k]? = some ((firstP Bz Ws).map D.int) → Q (.mut k) S'
  | _ => False
theorem sc_first_levels : FnScope ["bases", "values", "levels", "row", "base", "value", "behind"] ["bases", "values"] (defScope s_first_levels) := ⟨rfl, rfl, rfl, by decide +kernel, rfl, by decide +kernel, by decide +kernel⟩
theorem ok_first_levels (T : Tx K mg) : FnOk P w K mg base CX0 2 T.f_first_levels T.fd_first_levels ["bases", "values"] (spW ⟨K, mg⟩ 2 w_first_levels) := by
  refine fnD (k := 1) T.F_first_levels sc_first_levels (fun cdv A outer s H E hr => ⟨_, (dss_cons (ds_set (i := 2) sc_first_levels.nd (d_lstM da_nil))
  (dss_cons (ds_set (i := 3) sc_first_levels.nd (d_callTy call_list_of snd_listM T.z_list (da_cons (dv 1) da_nil) (hv := bt_list)))
  (dss_cons (ds_for PassesOwn.never rfl (dv 0) (dg_name (i := 4) sc_first_levels.nd) (dss_cons (ds_expr (d_append (dv 2) (da_cons (d_ix (dv 3) d_int) da_nil)))
  (dss_one (ds_setL (i := 3) sc_first_levels.nd (p_lcZ (own := [("value", 5), ("behind", 6)]) rfl sc_first_levels.nd T.z_zip (da_cons (dv 3) (da_cons (d_cutFrom (dv 3)) da_nil)) (blkOk_by (own := [("value", 5), ("behind", 6)]) (N := ["bases", "values", "levels", "row", "base", "value", "behind"]) (sc := defScope s_first_levels) (by decide +kernel)) (gown_two (by decide) (by decide)) (fun _ _ _ _ _ => (dg_tup (n := 2) rfl (dgs_cons (dg_name (i := 5) sc_first_levels.nd) (dgs_cons (dg_name (i := 6) sc_first_levels.nd) dgs_nil)))) (fun _ _ _ _ _ => dts_nil) (fun _ _ _ _ _ => (d_op op_sub snd_iSub (dv 6) (d_op op_mulW snd_iMul (dv 4) (dv 5)))))))))
  (dss_one (ds_ret (dv 2))))))⟩) (fun ds S Q hl h => ?_)
  match ds, h with
  | [.mut b, .mut v], ⟨Bz, Ws, hB, hV, zB, zW, hl, h6, h⟩ =>
    simp only [true_and, and_true, oU2, oUn1, oL1, oS1, oR1, oJust, iAdd, iSub, iMul, iFdiv, iMod, iEq, iNe, iLt, iLe, iGt, iGe, iNeg, iAbs, DL.iStr, wFmt, wJs, wJoined, sNext, sSeq, sDrop, sRet, sRetN, sIf, sAsg, sPar, wOp, wVar, wC, wUn, wCons, wNil, wCB, wCall, wMake, wMakeSw, wCallSw, wProp, wFld, oI, oI0, oU, wTest, wAnd, wOr, wNot, wAndV, wOrV, wNotV, wIf, wTup, wLst, wLstM, gwName, gwNil, gwCons, gwTup, gwSub, oIx, oInt1, oAbsI, oLen, oGcd, oDivmod, oMax2, oMin2, oIsi, tyOf, clOf, kt_ii, kt_ib, kt_rr, kt_ir, kt_ri, kt_rb, kt_ni, kt_bi, kt_bb, kt_si, kt_ti, kt_li, kt_di, kt_nr, kt_br, kt_sr, kt_tr, kt_lr, kt_dr, oStrI, if_t1, if_f1, Bool.not_true, Bool.not_false, rt, startD, List.map_cons, List.map_nil, List.length_cons, List.length_nil, List.cons_append, List.nil_append, List.getElem?_cons_zero, List.getElem?_cons_succ, List.set_cons_zero, List.set_cons_succ, List.replicate, Nat.reduceAdd, Nat.reduceSub, Nat.zero_add, Nat.sub_self, Nat.add_sub_cancel, kt_tt, wChain, sFor, sForR, forStep, gwLst, listD, wCut, wStar, oListM, oTupl, seqD, oLcm, wCallP3, p3rev, p3mid, wAppend, lk_top, lk_bot, w1, w2, numD_int, numD_ins, w_is_int, w_is_number, wi_Ratio, w_as_ratio, w_top, w_bottom, w1r, w2r, lk_ex, wMeth, w_excess, w_lt, w_le, w_gt, w_raised, w_is_int_within, wLc, wLcE, wLcZ, wLcZ3, wLcT, wLcR, wYes, wipeD, Nat.zero_add, w_common_bottom, w_whole_bases, w_scaled, w_whole_values]
    refine ⟨Nat.zero_le _, _, Ext.app _ _ hV, ?_⟩
    have e2 : Ext S ((S ++ [[]]) ++ [Ws.map D.int]) := Ext.app.trans Ext.app
    have r1 : ((S ++ [[]]) ++ [Ws.map D.int])[(S ++ [[]]).length]? = some (Ws.map D.int) := new_at
    have l1 : ((S ++ [[]]) ++ [Ws.map D.int])[S.length]? = some [] := Ext.app _ _ new_at
    have n1 : (S ++ [[]]).length ≠ S.length := by simp
    have g1 : S.length ≤ (S ++ [[]]).length := by simp
    generalize (S ++ [[]]).length = r0 at r1 n1 g1 ⊢
    generalize (S ++ [[]]) ++ [Ws.map D.int] = S2 at e2 r1 l1 ⊢
    refine ⟨_, e2 _ _ hB, ?_⟩
    refine forM_run (m0 := b) D.int (fun i ρ S' => Ext S S' ∧ S'[S.length]? = some (((firstP Bz Ws).take i).map D.int) ∧ ∃ r o1 o2 o3, r ≠ S.length ∧ S.length ≤ r ∧ S'[r]? = some ((rowP Bz Ws i).map D.int) ∧ ρ = [some (.mut b), some (.mut v), some (.mut S.length), some (.mut r), o1, o2, o3]) Bz 0 (fun i ρ S' j => j.1 _ _ hB) ?_ ?_ _ _ ⟨e2, by rw [List.take_zero]; exact l1, r0, none, none, none, n1, g1, by rw [rowP_zero]; exact r1, rfl⟩
    · rintro i B ρ S' nx hp ⟨eS, hL, r, o1, o2, o3, nr, gr, hr, rfl⟩ hn
      simp only [Nat.zero_add] at hL hr hn
      have li := (List.getElem?_eq_some_iff.mp hp).1
      have rl : (rowP Bz Ws i).length = Ws.length - i := rowP_len i (by omega)
      have rpos : 0 < (rowP Bz Ws i).length := by omega
      have zr := (bd_row zB zW i (by omega)).mono (show 90 + 21 * i ≤ 220 by omega)
      simp only [true_and, and_true, oU2, oUn1, oL1, oS1, oR1, oJust, iAdd, iSub, iMul, iFdiv, iMod, iEq, iNe, iLt, iLe, iGt, iGe, iNeg, iAbs, DL.iStr, wFmt, wJs, wJoined, sNext, sSeq, sDrop, sRet, sRetN, sIf, sAsg, sPar, wOp, wVar, wC, wUn, wCons, wNil, wCB, wCall, wMake, wMakeSw, wCallSw, wProp, wFld, oI, oI0, oU, wTest, wAnd, wOr, wNot, wAndV, wOrV, wNotV, wIf, wTup, wLst, wLstM, gwName, gwNil, gwCons, gwTup, gwSub, oIx, oInt1, oAbsI, oLen, oGcd, oDivmod, oMax2, oMin2, oIsi, tyOf, clOf, kt_ii, kt_ib, kt_rr, kt_ir, kt_ri, kt_rb, kt_ni, kt_bi, kt_bb, kt_si, kt_ti, kt_li, kt_di, kt_nr, kt_br, kt_sr, kt_tr, kt_lr, kt_dr, oStrI, if_t1, if_f1, Bool.not_true, Bool.not_false, rt, startD, List.map_cons, List.map_nil, List.length_cons, List.length_nil, List.cons_append, List.nil_append, List.getElem?_cons_zero, List.getElem?_cons_succ, List.set_cons_zero, List.set_cons_succ, List.replicate, Nat.reduceAdd, Nat.reduceSub, Nat.zero_add, Nat.sub_self, Nat.add_sub_cancel, kt_tt, wChain, sFor, sForR, forStep, gwLst, listD, wCut, wStar, oListM, oTupl, seqD, oLcm, wCallP3, p3rev, p3mid, wAppend, lk_top, lk_bot, w1, w2, numD_int, numD_ins, w_is_int, w_is_number, wi_Ratio, w_as_ratio, w_top, w_bottom, w1r, w2r, lk_ex, wMeth, w_excess, w_lt, w_le, w_gt, w_raised, w_is_int_within, wLc, wLcE, wLcZ, wLcZ3, wLcT, wLcR, wYes, wipeD, Nat.zero_add, w_common_bottom, w_whole_bases, w_scaled, w_whole_values]
      rw [hr]
      simp only [true_and, and_true, oU2, oUn1, oL1, oS1, oR1, oJust, iAdd, iSub, iMul, iFdiv, iMod, iEq, iNe, iLt, iLe, iGt, iGe, iNeg, iAbs, DL.iStr, wFmt, wJs, wJoined, sNext, sSeq, sDrop, sRet, sRetN, sIf, sAsg, sPar, wOp, wVar, wC, wUn, wCons, wNil, wCB, wCall, wMake, wMakeSw, wCallSw, wProp, wFld, oI, oI0, oU, wTest, wAnd, wOr, wNot, wAndV, wOrV, wNotV, wIf, wTup, wLst, wLstM, gwName, gwNil, gwCons, gwTup, gwSub, oIx, oInt1, oAbsI, oLen, oGcd, oDivmod, oMax2, oMin2, oIsi, tyOf, clOf, kt_ii, kt_ib, kt_rr, kt_ir, kt_ri, kt_rb, kt_ni, kt_bi, kt_bb, kt_si, kt_ti, kt_li, kt_di, kt_nr, kt_br, kt_sr, kt_tr, kt_lr, kt_dr, oStrI, if_t1, if_f1, Bool.not_true, Bool.not_false, rt, startD, List.map_cons, List.map_nil, List.length_cons, List.length_nil, List.cons_append, List.nil_append, List.getElem?_cons_zero, List.getElem?_cons_succ, List.set_cons_zero, List.set_cons_succ, List.replicate, Nat.reduceAdd, Nat.reduceSub, Nat.zero_add, Nat.sub_self, Nat.add_sub_cancel, kt_tt, wChain, sFor, sForR, forStep, gwLst, listD, wCut, wStar, oListM, oTupl, seqD, oLcm, wCallP3, p3rev, p3mid, wAppend, lk_top, lk_bot, w1, w2, numD_int, numD_ins, w_is_int, w_is_number, wi_Ratio, w_as_ratio, w_top, w_bottom, w1r, w2r, lk_ex, wMeth, w_excess, w_lt, w_le, w_gt, w_raised, w_is_int_within, wLc, wLcE, wLcZ, wLcZ3, wLcT, wLcR, wYes, wipeD, Nat.zero_add, w_common_bottom, w_whole_bases, w_scaled, w_whole_values]
      rw [map_head (d := 0) rpos]
      simp only [true_and, and_true, oU2, oUn1, oL1, oS1, oR1, oJust, iAdd, iSub, iMul, iFdiv, iMod, iEq, iNe, iLt, iLe, iGt, iGe, iNeg, iAbs, DL.iStr, wFmt, wJs, wJoined, sNext, sSeq, sDrop, sRet, sRetN, sIf, sAsg, sPar, wOp, wVar, wC, wUn, wCons, wNil, wCB, wCall, wMake, wMakeSw, wCallSw, wProp, wFld, oI, oI0, oU, wTest, wAnd, wOr, wNot, wAndV, wOrV, wNotV, wIf, wTup, wLst, wLstM, gwName, gwNil, gwCons, gwTup, gwSub, oIx, oInt1, oAbsI, oLen, oGcd, oDivmod, oMax2, oMin2, oIsi, tyOf, clOf, kt_ii, kt_ib, kt_rr, kt_ir, kt_ri, kt_rb, kt_ni, kt_bi, kt_bb, kt_si, kt_ti, kt_li, kt_di, kt_nr, kt_br, kt_sr, kt_tr, kt_lr, kt_dr, oStrI, if_t1, if_f1, Bool.not_true, Bool.not_false, rt, startD, List.map_cons, List.map_nil, List.length_cons, List.length_nil, List.cons_append, List.nil_append, List.getElem?_cons_zero, List.getElem?_cons_succ, List.set_cons_zero, List.set_cons_succ, List.replicate, Nat.reduceAdd, Nat.reduceSub, Nat.zero_add, Nat.sub_self, Nat.add_sub_cancel, kt_tt, wChain, sFor, sForR, forStep, gwLst, listD, wCut, wStar, oListM, oTupl, seqD, oLcm, wCallP3, p3rev, p3mid, wAppend, lk_top, lk_bot, w1, w2, numD_int, numD_ins, w_is_int, w_is_number, wi_Ratio, w_as_ratio, w_top, w_bottom, w1r, w2r, lk_ex, wMeth, w_excess, w_lt, w_le, w_gt, w_raised, w_is_int_within, wLc, wLcE, wLcZ, wLcZ3, wLcT, wLcR, wYes, wipeD, Nat.zero_add, w_common_bottom, w_whole_bases, w_scaled, w_whole_values]
      refine ⟨_, hL, Nat.lt_of_le_of_lt (by simp; exact Nat.min_le_left _ _) (Nat.lt_of_lt_of_le (show i < 1000 by omega) (small_line (Nat.le_refl _))), ?_⟩
      rw [take_map (firstP_get (ws := Ws) li)]
      have hr2 := ne_get (x := ((firstP Bz Ws).take (i + 1)).map D.int) hr nr
      have hL2 := set_at (x := ((firstP Bz Ws).take (i + 1)).map D.int) hL
      have eS2 : Ext S (S'.set S.length (((firstP Bz Ws).take (i + 1)).map D.int)) := eS.set (Nat.le_refl _)
      generalize S'.set S.length (((firstP Bz Ws).take (i + 1)).map D.int) = S3 at hr2 hL2 eS2 ⊢
      rw [hr2]
      refine ⟨_, rfl, ?_⟩
      refine ⟨_, _, _, _, stay_mut hr2, rfl, ?_⟩
      rw [cut_tail, map_tail, zip_map]
      refine lcO_run (fun p : Int × Int => D.tup [.int p.1, .int p.2]) (MapJ S3 S3.length ((stepP B (rowP Bz Ws i)).map .int)) _ 0 (fun i S' j => ⟨j.1 _ _ hr2, trivial⟩) ?_ ?_ _ MapJ.start
      · intro k p S4 nx4 hk j4 hn4
        obtain ⟨k1, k2⟩ := get_zip_tail hk
        have q1 := zr.lt k1
        have q2 := zB.lt hp
        simp only [true_and, and_true, oU2, oUn1, oL1, oS1, oR1, oJust, iAdd, iSub, iMul, iFdiv, iMod, iEq, iNe, iLt, iLe, iGt, iGe, iNeg, iAbs, DL.iStr, wFmt, wJs, wJoined, sNext, sSeq, sDrop, sRet, sRetN, sIf, sAsg, sPar, wOp, wVar, wC, wUn, wCons, wNil, wCB, wCall, wMake, wMakeSw, wCallSw, wProp, wFld, oI, oI0, oU, wTest, wAnd, wOr, wNot, wAndV, wOrV, wNotV, wIf, wTup, wLst, wLstM, gwName, gwNil, gwCons, gwTup, gwSub, oIx, oInt1, oAbsI, oLen, oGcd, oDivmod, oMax2, oMin2, oIsi, tyOf, clOf, kt_ii, kt_ib, kt_rr, kt_ir, kt_ri, kt_rb, kt_ni, kt_bi, kt_bb, kt_si, kt_ti, kt_li, kt_di, kt_nr, kt_br, kt_sr, kt_tr, kt_lr, kt_dr, oStrI, if_t1, if_f1, Bool.not_true, Bool.not_false, rt, startD, List.map_cons, List.map_nil, List.length_cons, List.length_nil, List.cons_append, List.nil_append, List.getElem?_cons_zero, List.getElem?_cons_succ, List.set_cons_zero, List.set_cons_succ, List.replicate, Nat.reduceAdd, Nat.reduceSub, Nat.zero_add, Nat.sub_self, Nat.add_sub_cancel, kt_tt, wChain, sFor, sForR, forStep, gwLst, listD, wCut, wStar, oListM, oTupl, seqD, oLcm, wCallP3, p3rev, p3mid, wAppend, lk_top, lk_bot, w1, w2, numD_int, numD_ins, w_is_int, w_is_number, wi_Ratio, w_as_ratio, w_top, w_bottom, w1r, w2r, lk_ex, wMeth, w_excess, w_lt, w_le, w_gt, w_raised, w_is_int_within, wLc, wLcE, wLcZ, wLcZ3, wLcT, wLcR, wYes, wipeD, Nat.zero_add, w_common_bottom, w_whole_bases, w_scaled, w_whole_values, lcStep]
        refine ⟨cm8 (nmono q2 (by decide)) (nmono q1 (by decide)), ?_⟩
        refine map_next (Nat.le_refl _) j4 .refl ?_ (small_line (by rw [List.length_map, stepP_len]; omega)) hn4
        rw [Nat.zero_add, List.getElem?_map, stepP_get k1 k2]
        rfl
      · intro S4 j4
        rw [Nat.zero_add, show ((rowP Bz Ws i).zip (rowP Bz Ws i).tail).length = ((stepP B (rowP Bz Ws i)).map D.int).length by rw [List.length_map, stepP_len]; simp] at j4
        obtain ⟨f1, f2⟩ := mutD j4
        have l3 := (List.getElem?_eq_some_iff.mp hL2).1
        have l4 := eS2.len
        exact hn _ _ ⟨eS2.trans f1, f1 _ _ hL2, S3.length, _, _, _, by omega, by omega, by rw [rowP_succ hp]; exact f2, rfl⟩
    · rintro ρ S' ⟨eS, hL, r, o1, o2, o3, nr, gr, hr, rfl⟩
      simp only [true_and, and_true, oU2, oUn1, oL1, oS1, oR1, oJust, iAdd, iSub, iMul, iFdiv, iMod, iEq, iNe, iLt, iLe, iGt, iGe, iNeg, iAbs, DL.iStr, wFmt, wJs, wJoined, sNext, sSeq, sDrop, sRet, sRetN, sIf, sAsg, sPar, wOp, wVar, wC, wUn, wCons, wNil, wCB, wCall, wMake, wMakeSw, wCallSw, wProp, wFld, oI, oI0, oU, wTest, wAnd, wOr, wNot, wAndV, wOrV, wNotV, wIf, wTup, wLst, wLstM, gwName, gwNil, gwCons, gwTup, gwSub, oIx, oInt1, oAbsI, oLen, oGcd, oDivmod, oMax2, oMin2, oIsi, tyOf, clOf, kt_ii, kt_ib, kt_rr, kt_ir, kt_ri, kt_rb, kt_ni, kt_bi, kt_bb, kt_si, kt_ti, kt_li, kt_di, kt_nr, kt_br, kt_sr, kt_tr, kt_lr, kt_dr, oStrI, if_t1, if_f1, Bool.not_true, Bool.not_false, rt, startD, List.map_cons, List.map_nil, List.length_cons, List.length_nil, List.cons_append, List.nil_append, List.getElem?_cons_zero, List.getElem?_cons_succ, List.set_cons_zero, List.set_cons_succ, List.replicate, Nat.reduceAdd, Nat.reduceSub, Nat.zero_add, Nat.sub_self, Nat.add_sub_cancel, kt_tt, wChain, sFor, sForR, forStep, gwLst, listD, wCut, wStar, oListM, oTupl, seqD, oLcm, wCallP3, p3rev, p3mid, wAppend, lk_top, lk_bot, w1, w2, numD_int, numD_ins, w_is_int, w_is_number, wi_Ratio, w_as_ratio, w_top, w_bottom, w1r, w2r, lk_ex, wMeth, w_excess, w_lt, w_le, w_gt, w_raised, w_is_int_within, wLc, wLcE, wLcZ, wLcZ3, wLcT, wLcR, wYes, wipeD, Nat.zero_add, w_common_bottom, w_whole_bases, w_scaled, w_whole_values]
      rw [Nat.zero_add, show Bz.length = (firstP Bz Ws).length by rw [firstP_len], List.take_length] at hL
      exact h _ _ eS hL
def w_next_levels : WF := fun ds S Q => match ds with
  | [.mut b, .mut l] => ∃ (n : Nat) (Bz Ls : List Int), S[b]? = some (Bz.map D.int) ∧ S[l]? = some (Ls.map D.int) ∧ Bd 20 Bz ∧ Bd n Ls ∧ (0 < n ∧ n ≤ 100000) ∧ Bz.length = Ls.length ∧ Bz.length ≤ 6 ∧ ∀ S' k, Ext S S' → S'[k]? = some ((nextP Bz Ls).map D.int) → Q (.mut k) S'
  | _ => False
theorem sc_next_levels : FnScope ["bases", "levels", "uppers", "base", "level", "upper"] ["bases", "levels"] (defScope s_next_levels) := ⟨rfl, rfl, rfl, by decide +kernel, rfl, by decide +kernel, by decide +kernel⟩
theorem ok_next_levels (T : Tx K mg) : FnOk P w K mg base CX0 2 T.f_next_levels T.fd_next_levels ["bases", "levels"] (spW ⟨K, mg⟩ 2 w_next_levels) := by
  refine fnD (k := 1) T.F_next_levels sc_next_levels (fun cdv A outer s H E hr => ⟨_, (dss_cons (ds_set (i := 2) sc_next_levels.nd (d_lst (da_star (d_cutFrom (dv 1)) (da_cons d_int da_nil))))
  (dss_one (ds_ret (d_lcZ3 (own := [("base", 3), ("level", 4), ("upper", 5)]) rfl sc_next_levels.nd T.z_zip (da_cons (dv 0) (da_cons (dv 1) (da_cons (dv 2) da_nil))) (blkOk_by (own := [("base", 3), ("level", 4), ("upper", 5)]) (N := ["bases", "levels", "uppers", "base", "level", "upper"]) (sc := defScope s_next_levels) (by decide +kernel)) (gown_three (by decide) (by decide) (by decide)) (fun _ _ _ _ _ => (dg_tup (n := 3) rfl (dgs_cons (dg_name (i := 3) sc_next_levels.nd) (dgs_cons (dg_name (i := 4) sc_next_levels.nd) (dgs_cons (dg_name (i := 5) sc_next_levels.nd) dgs_nil))))) (fun _ _ _ _ _ => dts_nil) (fun _ _ _ _ _ => (d_op op_add snd_iAdd (dv 5) (d_op op_mulW snd_iMul (dv 3) (dv 4))))))))⟩) (fun ds S Q hl h => ?_)
  match ds, h with
  | [.mut b, .mut l], ⟨n, Bz, Ls, hB, hL, zB, zL, hn, hl, h6, h⟩ =>
    simp only [true_and, and_true, oU2, oUn1, oL1, oS1, oR1, oJust, iAdd, iSub, iMul, iFdiv, iMod, iEq, iNe, iLt, iLe, iGt, iGe, iNeg, iAbs, DL.iStr, wFmt, wJs, wJoined, sNext, sSeq, sDrop, sRet, sRetN, sIf, sAsg, sPar, wOp, wVar, wC, wUn, wCons, wNil, wCB, wCall, wMake, wMakeSw, wCallSw, wProp, wFld, oI, oI0, oU, wTest, wAnd, wOr, wNot, wAndV, wOrV, wNotV, wIf, wTup, wLst, wLstM, gwName, gwNil, gwCons, gwTup, gwSub, oIx, oInt1, oAbsI, oLen, oGcd, oDivmod, oMax2, oMin2, oIsi, tyOf, clOf, kt_ii, kt_ib, kt_rr, kt_ir, kt_ri, kt_rb, kt_ni, kt_bi, kt_bb, kt_si, kt_ti, kt_li, kt_di, kt_nr, kt_br, kt_sr, kt_tr, kt_lr, kt_dr, oStrI, if_t1, if_f1, Bool.not_true, Bool.not_false, rt, startD, List.map_cons, List.map_nil, List.length_cons, List.length_nil, List.cons_append, List.nil_append, List.getElem?_cons_zero, List.getElem?_cons_succ, List.set_cons_zero, List.set_cons_succ, List.replicate, Nat.reduceAdd, Nat.reduceSub, Nat.zero_add, Nat.sub_self, Nat.add_sub_cancel, kt_tt, wChain, sFor, sForR, forStep, gwLst, listD, wCut, wStar, oListM, oTupl, seqD, oLcm, wCallP3, p3rev, p3mid, wAppend, lk_top, lk_bot, w1, w2, numD_int, numD_ins, w_is_int, w_is_number, wi_Ratio, w_as_ratio, w_top, w_bottom, w1r, w2r, lk_ex, wMeth, w_excess, w_lt, w_le, w_gt, w_raised, w_is_int_within, wLc, wLcE, wLcZ, wLcZ3, wLcT, wLcR, wYes, wipeD, Nat.zero_add, w_common_bottom, w_whole_bases, w_scaled, w_whole_values]
    refine ⟨_, hL, _, rfl, ?_⟩
    rw [cut_tail, map_tail]
    refine ⟨small_line (by simp; omega), ?_⟩
    have et : Ls.tail.map D.int ++ [D.int 0] = (Ls.tail ++ [0]).map D.int := by rw [List.map_append]; rfl
    rw [et]
    refine ⟨_, _, _, _, _, _, stay_mut hB, stay_mut hL, rfl, ?_⟩
    rw [zip3_map]
    refine lcO_run (fun p : Int × Int × Int => D.tup [.int p.1, .int p.2.1, .int p.2.2]) (MapJ S S.length ((nextP Bz Ls).map .int)) _ 0 (fun i S' j => ⟨j.1 _ _ hB, j.1 _ _ hL, trivial⟩) ?_ ?_ _ MapJ.start
    · intro k p S4 nx4 hk j4 hn4
      rw [List.getElem?_zip_eq_some] at hk
      obtain ⟨k1, hk⟩ := hk
      rw [List.getElem?_zip_eq_some] at hk
      obtain ⟨k2, k3⟩ := hk
      have q1 := zB.lt k1
      have q2 := zL.lt k2
      simp only [true_and, and_true, oU2, oUn1, oL1, oS1, oR1, oJust, iAdd, iSub, iMul, iFdiv, iMod, iEq, iNe, iLt, iLe, iGt, iGe, iNeg, iAbs, DL.iStr, wFmt, wJs, wJoined, sNext, sSeq, sDrop, sRet, sRetN, sIf, sAsg, sPar, wOp, wVar, wC, wUn, wCons, wNil, wCB, wCall, wMake, wMakeSw, wCallSw, wProp, wFld, oI, oI0, oU, wTest, wAnd, wOr, wNot, wAndV, wOrV, wNotV, wIf, wTup, wLst, wLstM, gwName, gwNil, gwCons, gwTup, gwSub, oIx, oInt1, oAbsI, oLen, oGcd, oDivmod, oMax2, oMin2, oIsi, tyOf, clOf, kt_ii, kt_ib, kt_rr, kt_ir, kt_ri, kt_rb, kt_ni, kt_bi, kt_bb, kt_si, kt_ti, kt_li, kt_di, kt_nr, kt_br, kt_sr, kt_tr, kt_lr, kt_dr, oStrI, if_t1, if_f1, Bool.not_true, Bool.not_false, rt, startD, List.map_cons, List.map_nil, List.length_cons, List.length_nil, List.cons_append, List.nil_append, List.getElem?_cons_zero, List.getElem?_cons_succ, List.set_cons_zero, List.set_cons_succ, List.replicate, Nat.reduceAdd, Nat.reduceSub, Nat.zero_add, Nat.sub_self, Nat.add_sub_cancel, kt_tt, wChain, sFor, sForR, forStep, gwLst, listD, wCut, wStar, oListM, oTupl, seqD, oLcm, wCallP3, p3rev, p3mid, wAppend, lk_top, lk_bot, w1, w2, numD_int, numD_ins, w_is_int, w_is_number, wi_Ratio, w_as_ratio, w_top, w_bottom, w1r, w2r, lk_ex, wMeth, w_excess, w_lt, w_le, w_gt, w_raised, w_is_int_within, wLc, wLcE, wLcZ, wLcZ3, wLcT, wLcR, wYes, wipeD, Nat.zero_add, w_common_bottom, w_whole_bases, w_scaled, w_whole_values, lcStep]
      refine ⟨wide_mul q1 q2 (by decide) (by omega) (by omega), ?_⟩
      refine map_next (Nat.le_refl _) j4 .refl ?_ (small_line (by rw [List.length_map]; unfold nextP; simp; omega)) hn4
      rw [Nat.zero_add, List.getElem?_map, nextP_get k1 k2 k3]
      rfl
    · intro S4 j4
      rw [Nat.zero_add, show (Bz.zip (Ls.zip (Ls.tail ++ [0]))).length = ((nextP Bz Ls).map D.int).length by unfold nextP; simp] at j4
      exact h _ _ (mutD j4).1 (mutD j4).2
end
end K1
set_option Elab.async false
set_option linter.all false
set_option maxRecDepth 100000
set_option maxHeartbeats 0
namespace K1
open PySem PySem.Spec PyProof.Rows L2 DL
section
variable {P : Program} {w : World} {K : PySem.W.Frag} {mg : Str → Option Value} {base : Heap}
theorem rangeD_map (n : Nat) : rangeD 0 n = (List.range n).map fun i : Nat => D.int (0 + i) := rfl
theorem it_bd {N M : Nat} {ps qs : List Pr} (hp : Small N ps) (hq : Small M qs) (hl : ps.length = qs.length) (i : Nat) : Bd (220 + 21 * i) (itP (whB' ps) i (firstP (whB' ps) (scP qs (cb qs) (cb ps)))) := bd_whole hp hq hl i
theorem it_len {N M : Nat} {ps qs : List Pr} (hp : Small N ps) (hq : Small M qs) (hl : ps.length = qs.length) (i : Nat) : (itP (whB' ps) i (firstP (whB' ps) (scP qs (cb qs) (cb ps)))).length = ps.length := whole_len hp hq hl i

def w_whole_levels : WF := fun ds S Q => match ds with
  | [.mut b, .mut v, .int n] => ∃ (N M : Nat) (ps qs : List Pr), S[b]? = some (ps.map rt) ∧ S[v]? = some (qs.map rt) ∧ Small N ps ∧ Small M qs ∧ ps.length = qs.length ∧ 0 ≤ n ∧ n ≤ 120 ∧ ∀ S' k, Ext S S' → S'[k]? = some ((wholeP ps qs n.toNat).map D.int) → Q (.mut k) S'
  | _ => False
theorem sc_whole_levels : FnScope ["bases", "values", "place", "wholes", "levels", "_"] ["bases", "values", "place"] (defScope s_whole_levels) := ⟨rfl, rfl, rfl, by decide +kernel, rfl, by decide +kernel, by decide +kernel⟩
theorem ok_whole_levels (T : Tx K mg) : FnOk P w K mg base CX0 7 T.f_whole_levels T.fd_whole_levels ["bases", "values", "place"] (spW ⟨K, mg⟩ 3 w_whole_levels) := by
  refine fnD (k := 6) T.F_whole_levels sc_whole_levels (fun cdv A outer s H E hr => ⟨_, (dss_cons (ds_set (i := 3) sc_whole_levels.nd (d_call (ok_whole_bases T) (hr.mono (by decide)) T.m_whole_bases T.F_whole_bases.kp T.b_whole_bases (da_cons (dv 0) da_nil)))
  (dss_cons (ds_set (i := 4) sc_whole_levels.nd (d_call (ok_first_levels T) (hr.mono (by decide)) T.m_first_levels T.F_first_levels.kp T.b_first_levels (da_cons (dv 3) (da_cons (d_call (ok_whole_values T) (hr.mono (by decide)) T.m_whole_values T.F_whole_values.kp T.b_whole_values (da_cons (dv 0) (da_cons (dv 1) da_nil))) da_nil))))
  (dss_cons (ds_forR PassesOwn.never rfl T.z_range (da_cons (dv 2) da_nil) (dg_name (i := 5) sc_whole_levels.nd) (dss_one (ds_set (i := 4) sc_whole_levels.nd (d_call (ok_next_levels T) (hr.mono (by decide)) T.m_next_levels T.F_next_levels.kp T.b_next_levels (da_cons (dv 3) (da_cons (dv 4) da_nil))))))
  (dss_one (ds_ret (dv 4))))))⟩) (fun ds S Q hl h => ?_)
  match ds, h with
  | [.mut b, .mut v, .int n], ⟨N, M, ps, qs, hB, hV, hp, hq, hl, n0, n1, h⟩ =>
    obtain ⟨n, rfl⟩ := Int.eq_ofNat_of_zero_le n0
    simp only [true_and, and_true, oU2, oUn1, oL1, oS1, oR1, oJust, iAdd, iSub, iMul, iFdiv, iMod, iEq, iNe, iLt, iLe, iGt, iGe, iNeg, iAbs, DL.iStr, wFmt, wJs, wJoined, sNext, sSeq, sDrop, sRet, sRetN, sIf, sAsg, sPar, wOp, wVar, wC, wUn, wCons, wNil, wCB, wCall, wMake, wMakeSw, wCallSw, wProp, wFld, oI, oI0, oU, wTest, wAnd, wOr, wNot, wAndV, wOrV, wNotV, wIf, wTup, wLst, wLstM, gwName, gwNil, gwCons, gwTup, gwSub, oIx, oInt1, oAbsI, oLen, oGcd, oDivmod, oMax2, oMin2, oIsi, tyOf, clOf, kt_ii, kt_ib, kt_rr, kt_ir, kt_ri, kt_rb, kt_ni, kt_bi, kt_bb, kt_si, kt_ti, kt_li, kt_di, kt_nr, kt_br, kt_sr, kt_tr, kt_lr, kt_dr, oStrI, if_t1, if_f1, Bool.not_true, Bool.not_false, rt, startD, List.map_cons, List.map_nil, List.length_cons, List.length_nil, List.cons_append, List.nil_append, List.getElem?_cons_zero, List.getElem?_cons_succ, List.set_cons_zero, List.set_cons_succ, List.replicate, Nat.reduceAdd, Nat.reduceSub, Nat.zero_add, Nat.sub_self, Nat.add_sub_cancel, kt_tt, wChain, sFor, sForR, forStep, gwLst, listD, wCut, wStar, oListM, oTupl, seqD, oLcm, wCallP3, p3rev, p3mid, wAppend, lk_top, lk_bot, w1, w2, numD_int, numD_ins, w_is_int, w_is_number, wi_Ratio, w_as_ratio, w_top, w_bottom, w1r, w2r, lk_ex, wMeth, w_excess, w_lt, w_le, w_gt, w_raised, w_is_int_within, wLc, wLcE, wLcZ, wLcZ3, wLcT, wLcR, wYes, wipeD, Nat.zero_add, w_common_bottom, w_whole_bases, w_scaled, w_whole_values, w_first_levels, w_next_levels]
    refine ⟨N, ps, hB, hp, fun S1 wk e1 hw => ?_⟩
    refine ⟨N, M, ps, qs, e1 _ _ hB, e1 _ _ hV, hp, hq, fun S2 vk e2 hv => ?_⟩
    refine ⟨whB' ps, _, e2 _ _ hw, hv, hp.whb, bd_sc hq hp, by rw [whB_len, scP_len, hl], by rw [whB_len]; exact hp.l6, fun S3 fk e3 hf => ?_⟩
    refine ⟨⟨by omega, by omega⟩, ?_⟩
    rw [Int.toNat_natCast, rangeD_map]
    have hw3 := e3 _ _ (e2 _ _ hw)
    refine forD_run (fun i : Nat => D.int (0 + i)) (fun i ρ S' => Ext S3 S' ∧ ∃ k o, S'[k]? = some ((itP (whB' ps) i (firstP (whB' ps) (scP qs (cb qs) (cb ps)))).map D.int) ∧ ρ = [some (.mut b), some (.mut v), some (.int (n : Int)), some (.mut wk), some (.mut k), o]) (List.range n) 0 ?_ ?_ _ _ ⟨.refl, fk, none, hf, rfl⟩
    · rintro i x ρ S' nx hx ⟨eS, k, o, hk, rfl⟩ hn
      simp only [Nat.zero_add] at hk hn
      have hin := (List.getElem?_eq_some_iff.mp hx).1
      rw [List.length_range] at hin
      simp only [true_and, and_true, oU2, oUn1, oL1, oS1, oR1, oJust, iAdd, iSub, iMul, iFdiv, iMod, iEq, iNe, iLt, iLe, iGt, iGe, iNeg, iAbs, DL.iStr, wFmt, wJs, wJoined, sNext, sSeq, sDrop, sRet, sRetN, sIf, sAsg, sPar, wOp, wVar, wC, wUn, wCons, wNil, wCB, wCall, wMake, wMakeSw, wCallSw, wProp, wFld, oI, oI0, oU, wTest, wAnd, wOr, wNot, wAndV, wOrV, wNotV, wIf, wTup, wLst, wLstM, gwName, gwNil, gwCons, gwTup, gwSub, oIx, oInt1, oAbsI, oLen, oGcd, oDivmod, oMax2, oMin2, oIsi, tyOf, clOf, kt_ii, kt_ib, kt_rr, kt_ir, kt_ri, kt_rb, kt_ni, kt_bi, kt_bb, kt_si, kt_ti, kt_li, kt_di, kt_nr, kt_br, kt_sr, kt_tr, kt_lr, kt_dr, oStrI, if_t1, if_f1, Bool.not_true, Bool.not_false, rt, startD, List.map_cons, List.map_nil, List.length_cons, List.length_nil, List.cons_append, List.nil_append, List.getElem?_cons_zero, List.getElem?_cons_succ, List.set_cons_zero, List.set_cons_succ, List.replicate, Nat.reduceAdd, Nat.reduceSub, Nat.zero_add, Nat.sub_self, Nat.add_sub_cancel, kt_tt, wChain, sFor, sForR, forStep, gwLst, listD, wCut, wStar, oListM, oTupl, seqD, oLcm, wCallP3, p3rev, p3mid, wAppend, lk_top, lk_bot, w1, w2, numD_int, numD_ins, w_is_int, w_is_number, wi_Ratio, w_as_ratio, w_top, w_bottom, w1r, w2r, lk_ex, wMeth, w_excess, w_lt, w_le, w_gt, w_raised, w_is_int_within, wLc, wLcE, wLcZ, wLcZ3, wLcT, wLcR, wYes, wipeD, Nat.zero_add, w_common_bottom, w_whole_bases, w_scaled, w_whole_values, w_first_levels, w_next_levels]
      refine ⟨220 + 21 * i, whB' ps, _, eS _ _ hw3, hk, hp.whb, it_bd hp hq hl i, ⟨by omega, by omega⟩, by rw [whB_len, it_len hp hq hl], by rw [whB_len]; exact hp.l6, fun S4 k4 e4 h4 => ?_⟩
      exact hn _ _ ⟨eS.trans e4, k4, _, h4, rfl⟩
    · rintro ρ S' ⟨eS, k, o, hk, rfl⟩
      simp only [true_and, and_true, oU2, oUn1, oL1, oS1, oR1, oJust, iAdd, iSub, iMul, iFdiv, iMod, iEq, iNe, iLt, iLe, iGt, iGe, iNeg, iAbs, DL.iStr, wFmt, wJs, wJoined, sNext, sSeq, sDrop, sRet, sRetN, sIf, sAsg, sPar, wOp, wVar, wC, wUn, wCons, wNil, wCB, wCall, wMake, wMakeSw, wCallSw, wProp, wFld, oI, oI0, oU, wTest, wAnd, wOr, wNot, wAndV, wOrV, wNotV, wIf, wTup, wLst, wLstM, gwName, gwNil, gwCons, gwTup, gwSub, oIx, oInt1, oAbsI, oLen, oGcd, oDivmod, oMax2, oMin2, oIsi, tyOf, clOf, kt_ii, kt_ib, kt_rr, kt_ir, kt_ri, kt_rb, kt_ni, kt_bi, kt_bb, kt_si, kt_ti, kt_li, kt_di, kt_nr, kt_br, kt_sr, kt_tr, kt_lr, kt_dr, oStrI, if_t1, if_f1, Bool.not_true, Bool.not_false, rt, startD, List.map_cons, List.map_nil, List.length_cons, List.length_nil, List.cons_append, List.nil_append, List.getElem?_cons_zero, List.getElem?_cons_succ, List.set_cons_zero, List.set_cons_succ, List.replicate, Nat.reduceAdd, Nat.reduceSub, Nat.zero_add, Nat.sub_self, Nat.add_sub_cancel, kt_tt, wChain, sFor, sForR, forStep, gwLst, listD, wCut, wStar, oListM, oTupl, seqD, oLcm, wCallP3, p3rev, p3mid, wAppend, lk_top, lk_bot, w1, w2, numD_int, numD_ins, w_is_int, w_is_number, wi_Ratio, w_as_ratio, w_top, w_bottom, w1r, w2r, lk_ex, wMeth, w_excess, w_lt, w_le, w_gt, w_raised, w_is_int_within, wLc, wLcE, wLcZ, wLcZ3, wLcT, wLcR, wYes, wipeD, Nat.zero_add, w_common_bottom, w_whole_bases, w_scaled, w_whole_values, w_first_levels, w_next_levels]
      rw [Nat.zero_add, List.length_range] at hk
      exact h _ _ (((e1.trans e2).trans e3).trans eS) hk
def w_ratios_of : WF := fun ds S Q => match ds with
  | [.tup xs] => ∃ ps : List Pr, xs.map numD = ps.map some ∧ ps.length ≤ 1000 ∧ ∀ S' k, Ext S S' → S'[k]? = some (ps.map rt) → Q (.mut k) S'
  | _ => False
theorem sc_ratios_of : FnScope ["numbers", "number"] ["numbers"] (defScope s_ratios_of) := ⟨rfl, rfl, rfl, by decide +kernel, rfl, by decide +kernel, by decide +kernel⟩
theorem ok_ratios_of (T : Tx K mg) : FnOk P w K mg base CX0 6 T.f_ratios_of T.fd_ratios_of ["numbers"] (spW ⟨K, mg⟩ 1 w_ratios_of) := by
  refine fnD (k := 5) T.F_ratios_of sc_ratios_of (fun cdv A outer s H E hr => ⟨_, (dss_one (ds_ret (d_lcT (own := [("number", 1)]) rfl sc_ratios_of.nd (dv 0) (blkOk_by (own := [("number", 1)]) (N := ["numbers", "number"]) (sc := defScope s_ratios_of) (by decide +kernel)) (gown_name (by decide)) (fun _ _ _ _ _ => (dg_name (i := 1) sc_ratios_of.nd)) (fun _ _ _ _ _ => dts_nil) (fun _ _ _ _ _ => (d_callC (ok_as_ratio T) (hr.mono (by decide)) T.m_as_ratio T.F_as_ratio.kp T.b_as_ratio (da_cons (dv 1) da_nil))))))⟩) (fun ds S Q hl h => ?_)
  match ds, h with
  | [.tup xs], ⟨ps, e, hl, h⟩ =>
    have len : xs.length = ps.length := by have := congrArg List.length e; simpa using this
    simp only [true_and, and_true, oU2, oUn1, oL1, oS1, oR1, oJust, iAdd, iSub, iMul, iFdiv, iMod, iEq, iNe, iLt, iLe, iGt, iGe, iNeg, iAbs, DL.iStr, wFmt, wJs, wJoined, sNext, sSeq, sDrop, sRet, sRetN, sIf, sAsg, sPar, wOp, wVar, wC, wUn, wCons, wNil, wCB, wCall, wMake, wMakeSw, wCallSw, wProp, wFld, oI, oI0, oU, wTest, wAnd, wOr, wNot, wAndV, wOrV, wNotV, wIf, wTup, wLst, wLstM, gwName, gwNil, gwCons, gwTup, gwSub, oIx, oInt1, oAbsI, oLen, oGcd, oDivmod, oMax2, oMin2, oIsi, tyOf, clOf, kt_ii, kt_ib, kt_rr, kt_ir, kt_ri, kt_rb, kt_ni, kt_bi, kt_bb, kt_si, kt_ti, kt_li, kt_di, kt_nr, kt_br, kt_sr, kt_tr, kt_lr, kt_dr, oStrI, if_t1, if_f1, Bool.not_true, Bool.not_false, rt, startD, List.map_cons, List.map_nil, List.length_cons, List.length_nil, List.cons_append, List.nil_append, List.getElem?_cons_zero, List.getElem?_cons_succ, List.set_cons_zero, List.set_cons_succ, List.replicate, Nat.reduceAdd, Nat.reduceSub, Nat.zero_add, Nat.sub_self, Nat.add_sub_cancel, kt_tt, wChain, sFor, sForR, forStep, gwLst, listD, wCut, wStar, oListM, oTupl, seqD, oLcm, wCallP3, p3rev, p3mid, wAppend, lk_top, lk_bot, w1, w2, numD_int, numD_ins, w_is_int, w_is_number, wi_Ratio, w_as_ratio, w_top, w_bottom, w1r, w2r, lk_ex, wMeth, w_excess, w_lt, w_le, w_gt, w_raised, w_is_int_within, wLc, wLcE, wLcZ, wLcZ3, wLcT, wLcR, wYes, wipeD, Nat.zero_add, w_common_bottom, w_whole_bases, w_scaled, w_whole_values, w_first_levels, w_next_levels]
    rw [← List.map_id xs]
    refine lcD_run id (MapJ S S.length (ps.map rt)) xs 0 ?_ ?_ _ MapJ.start
    · intro i x S' nx hx j hn
      have g : (xs.map numD)[i]? = some (numD x) := by rw [List.getElem?_map, hx]; rfl
      rw [e, List.getElem?_map, Option.map_eq_some_iff] at g
      obtain ⟨p, hp, hn2⟩ := g
      simp only [true_and, and_true, oU2, oUn1, oL1, oS1, oR1, oJust, iAdd, iSub, iMul, iFdiv, iMod, iEq, iNe, iLt, iLe, iGt, iGe, iNeg, iAbs, DL.iStr, wFmt, wJs, wJoined, sNext, sSeq, sDrop, sRet, sRetN, sIf, sAsg, sPar, wOp, wVar, wC, wUn, wCons, wNil, wCB, wCall, wMake, wMakeSw, wCallSw, wProp, wFld, oI, oI0, oU, wTest, wAnd, wOr, wNot, wAndV, wOrV, wNotV, wIf, wTup, wLst, wLstM, gwName, gwNil, gwCons, gwTup, gwSub, oIx, oInt1, oAbsI, oLen, oGcd, oDivmod, oMax2, oMin2, oIsi, tyOf, clOf, kt_ii, kt_ib, kt_rr, kt_ir, kt_ri, kt_rb, kt_ni, kt_bi, kt_bb, kt_si, kt_ti, kt_li, kt_di, kt_nr, kt_br, kt_sr, kt_tr, kt_lr, kt_dr, oStrI, if_t1, if_f1, Bool.not_true, Bool.not_false, rt, startD, List.map_cons, List.map_nil, List.length_cons, List.length_nil, List.cons_append, List.nil_append, List.getElem?_cons_zero, List.getElem?_cons_succ, List.set_cons_zero, List.set_cons_succ, List.replicate, Nat.reduceAdd, Nat.reduceSub, Nat.zero_add, Nat.sub_self, Nat.add_sub_cancel, kt_tt, wChain, sFor, sForR, forStep, gwLst, listD, wCut, wStar, oListM, oTupl, seqD, oLcm, wCallP3, p3rev, p3mid, wAppend, lk_top, lk_bot, w1, w2, numD_int, numD_ins, w_is_int, w_is_number, wi_Ratio, w_as_ratio, w_top, w_bottom, w1r, w2r, lk_ex, wMeth, w_excess, w_lt, w_le, w_gt, w_raised, w_is_int_within, wLc, wLcE, wLcZ, wLcZ3, wLcT, wLcR, wYes, wipeD, Nat.zero_add, w_common_bottom, w_whole_bases, w_scaled, w_whole_values, w_first_levels, w_next_levels, lcStep]
      simp only [id]
      rw [← hn2]
      simp only [true_and, and_true, oU2, oUn1, oL1, oS1, oR1, oJust, iAdd, iSub, iMul, iFdiv, iMod, iEq, iNe, iLt, iLe, iGt, iGe, iNeg, iAbs, DL.iStr, wFmt, wJs, wJoined, sNext, sSeq, sDrop, sRet, sRetN, sIf, sAsg, sPar, wOp, wVar, wC, wUn, wCons, wNil, wCB, wCall, wMake, wMakeSw, wCallSw, wProp, wFld, oI, oI0, oU, wTest, wAnd, wOr, wNot, wAndV, wOrV, wNotV, wIf, wTup, wLst, wLstM, gwName, gwNil, gwCons, gwTup, gwSub, oIx, oInt1, oAbsI, oLen, oGcd, oDivmod, oMax2, oMin2, oIsi, tyOf, clOf, kt_ii, kt_ib, kt_rr, kt_ir, kt_ri, kt_rb, kt_ni, kt_bi, kt_bb, kt_si, kt_ti, kt_li, kt_di, kt_nr, kt_br, kt_sr, kt_tr, kt_lr, kt_dr, oStrI, if_t1, if_f1, Bool.not_true, Bool.not_false, rt, startD, List.map_cons, List.map_nil, List.length_cons, List.length_nil, List.cons_append, List.nil_append, List.getElem?_cons_zero, List.getElem?_cons_succ, List.set_cons_zero, List.set_cons_succ, List.replicate, Nat.reduceAdd, Nat.reduceSub, Nat.zero_add, Nat.sub_self, Nat.add_sub_cancel, kt_tt, wChain, sFor, sForR, forStep, gwLst, listD, wCut, wStar, oListM, oTupl, seqD, oLcm, wCallP3, p3rev, p3mid, wAppend, lk_top, lk_bot, w1, w2, numD_int, numD_ins, w_is_int, w_is_number, wi_Ratio, w_as_ratio, w_top, w_bottom, w1r, w2r, lk_ex, wMeth, w_excess, w_lt, w_le, w_gt, w_raised, w_is_int_within, wLc, wLcE, wLcZ, wLcZ3, wLcT, wLcR, wYes, wipeD, Nat.zero_add, w_common_bottom, w_whole_bases, w_scaled, w_whole_values, w_first_levels, w_next_levels]
      refine map_next (Nat.le_refl _) j .refl ?_ (small_line (by rw [List.length_map]; exact hl)) hn
      rw [Nat.zero_add, List.getElem?_map, hp]
      rfl
    · intro S' j
      rw [Nat.zero_add, show xs.length = (ps.map rt).length by rw [List.length_map, len]] at j
      exact h _ _ (mutD j).1 (mutD j).2
def w_bottom_at : WF := fun ds S Q => match ds with
  | [.mut b, .mut v, .int n] => ∃ (N M : Nat) (ps qs : List Pr), S[b]? = some (ps.map rt) ∧ S[v]? = some (qs.map rt) ∧ Small N ps ∧ Small M qs ∧ 0 ≤ n ∧ n ≤ 150 ∧ Q (.int (cb qs * cb ps ^ n.toNat)) S
  | _ => False
theorem sc_bottom_at : FnScope ["bases", "values", "place"] ["bases", "values", "place"] (defScope s_bottom_at) := ⟨rfl, rfl, rfl, by decide +kernel, rfl, by decide +kernel, by decide +kernel⟩
theorem ok_bottom_at (T : Tx K mg) : FnOk P w K mg base CX0 5 T.f_bottom_at T.fd_bottom_at ["bases", "values", "place"] (spW ⟨K, mg⟩ 3 w_bottom_at) := by
  refine fnD (k := 4) T.F_bottom_at sc_bottom_at (fun cdv A outer s H E hr => ⟨_, (dss_one (ds_ret (d_op op_mulW snd_iMul (d_call (ok_common_bottom T) (hr.mono (by decide)) T.m_common_bottom T.F_common_bottom.kp T.b_common_bottom (da_cons (dv 1) da_nil)) (d_call (ok_raised T) (hr.mono (by decide)) T.m_raised T.F_raised.kp T.b_raised (da_cons (d_call (ok_common_bottom T) (hr.mono (by decide)) T.m_common_bottom T.F_common_bottom.kp T.b_common_bottom (da_cons (dv 0) da_nil)) (da_cons (dv 2) da_nil))))))⟩) (fun ds S Q hl h => ?_)
  match ds, h with
  | [.mut b, .mut v, .int n], ⟨N, M, ps, qs, hB, hV, hp, hq, n0, n1, h⟩ =>
    obtain ⟨n, rfl⟩ := Int.eq_ofNat_of_zero_le n0
    have zn : n ≤ 150 := by omega
    simp only [true_and, and_true, oU2, oUn1, oL1, oS1, oR1, oJust, iAdd, iSub, iMul, iFdiv, iMod, iEq, iNe, iLt, iLe, iGt, iGe, iNeg, iAbs, DL.iStr, wFmt, wJs, wJoined, sNext, sSeq, sDrop, sRet, sRetN, sIf, sAsg, sPar, wOp, wVar, wC, wUn, wCons, wNil, wCB, wCall, wMake, wMakeSw, wCallSw, wProp, wFld, oI, oI0, oU, wTest, wAnd, wOr, wNot, wAndV, wOrV, wNotV, wIf, wTup, wLst, wLstM, gwName, gwNil, gwCons, gwTup, gwSub, oIx, oInt1, oAbsI, oLen, oGcd, oDivmod, oMax2, oMin2, oIsi, tyOf, clOf, kt_ii, kt_ib, kt_rr, kt_ir, kt_ri, kt_rb, kt_ni, kt_bi, kt_bb, kt_si, kt_ti, kt_li, kt_di, kt_nr, kt_br, kt_sr, kt_tr, kt_lr, kt_dr, oStrI, if_t1, if_f1, Bool.not_true, Bool.not_false, rt, startD, List.map_cons, List.map_nil, List.length_cons, List.length_nil, List.cons_append, List.nil_append, List.getElem?_cons_zero, List.getElem?_cons_succ, List.set_cons_zero, List.set_cons_succ, List.replicate, Nat.reduceAdd, Nat.reduceSub, Nat.zero_add, Nat.sub_self, Nat.add_sub_cancel, kt_tt, wChain, sFor, sForR, forStep, gwLst, listD, wCut, wStar, oListM, oTupl, seqD, oLcm, wCallP3, p3rev, p3mid, wAppend, lk_top, lk_bot, w1, w2, numD_int, numD_ins, w_is_int, w_is_number, wi_Ratio, w_as_ratio, w_top, w_bottom, w1r, w2r, lk_ex, wMeth, w_excess, w_lt, w_le, w_gt, w_raised, w_is_int_within, wLc, wLcE, wLcZ, wLcZ3, wLcT, wLcR, wYes, wipeD, Nat.zero_add, w_common_bottom, w_whole_bases, w_scaled, w_whole_values, w_first_levels, w_next_levels, w_whole_levels, w_ratios_of]
    refine ⟨M, qs, hV, hq.dv, hq.n0, hq.n64, N, ps, hB, hp.dv, hp.n0, hp.n64, 10, by omega, by omega, hp.cbz, by rw [Int.toNat_natCast]; omega, ?_⟩
    rw [Int.toNat_natCast] at h ⊢
    exact ⟨cm8 (nmono hq.cbz (by decide)) (nmono (npow hp.cbz n) (by omega)), h⟩
end
end K1
set_option Elab.async false
set_option linter.all false
set_option maxRecDepth 100000
set_option maxHeartbeats 0
namespace K1
open PySem PySem.Spec PyProof.Rows L2 DL
section
variable {P : Program} {w : World} {K : PySem.W.Frag} {mg : Str → Option Value} {base : Heap}
theorem dec_lt {P : Program} {w : World} {A : Around} {E : Value → Shared → Prop} {s : Shared} {i : Int} {t : Tok} {x : Addr} {ox : Obj} (Q' : Value → Shared → Prop) (h1 : s.heap.get? x = some ox) (h2 : ox.data = .plain) (q : Q' .notImplemented s) :
    wpAny (model P w) A (call (.builtin "int.__lt__") [.int i t, .ref x]) Q' E s := int_declines PySem.F.slot_int_lt PySem.F.entry_int_lt (PySem.F.args_int_lt_2 _ _) rfl h1 h2 q
theorem ifF {c : Prop} [Decidable c] {A B : Prop} (h : ¬ c) (b : B) : if decide c = true then A else B := by
  rw [decide_eq_false h]
  exact b
theorem ifT {c : Prop} [Decidable c] {A B : Prop} (h : c) (a : A) : if decide c = true then A else B := by
  rw [decide_eq_true h]
  exact a
/-- a base as it is asked for -/
structure Bok (p : Pr) : Prop where
  sz : Sz 2000 p
  pos : 0 < p.1
  t : p.1 ≤ 1000000000000
  b : p.2 ≤ 1000000000000

def w_is_base : WF := w1 fun p S Q => Bok p ∧ Q (.bl true) S
theorem sc_is_base : FnScope ["value", "base"] ["value"] (defScope s_is_base) := ⟨rfl, rfl, rfl, by decide +kernel, rfl, by decide +kernel, by decide +kernel⟩
theorem ok_is_base (T : Tx K mg) : FnOk P w K mg base CX0 10 T.f_is_base T.fd_is_base ["value"] (spW ⟨K, mg⟩ 1 w_is_base) := by
  refine fnD (k := 9) T.F_is_base sc_is_base (fun cdv A outer s H E hr => ⟨_, (dss_cons (ds_if (PDW.pt (dw_or (dt_not (dt_val (d_call (ok_is_number T) (hr.mono (by decide)) T.m_is_number T.F_is_number.kp T.b_is_number (da_cons (dv 0) da_nil)))) (dw_or1 (dt_cmp (OpR.or op_le (op_ownCmp (op := .LtE) (fun _ _ => rfl) T.own T.M_R_le (ok_R_le T) (hr.mono (by decide)) T.b_R_le pass0)) (snd_U1 snd_iLe T.g_Ratio) (dv 0) d_int (nomark _))))) (dss_one (ds_ret d_bl)) dss_nil)
  (dss_cons (ds_set (i := 1) sc_is_base.nd (d_call (ok_as_ratio T) (hr.mono (by decide)) T.m_as_ratio T.F_as_ratio.kp T.b_as_ratio (da_cons (dv 0) da_nil)))
  (dss_one (ds_ret (d_and (d_cmp op_le snd_iLe (d_prop (dv 1) T.g_Ratio T.cl T.p_top (ok_R_top T) (hr.mono (by decide)) T.b_R_top) (d_globI T.g_MOST_BASE) (nomark _)) (d_one (d_cmp op_le snd_iLe (d_prop (dv 1) T.g_Ratio T.cl T.p_bottom (ok_R_bottom T) (hr.mono (by decide)) T.b_R_bottom) (d_globI T.g_MOST_BASE) (nomark _))))))))⟩) (fun ds S Q hl h => ?_)
  obtain ⟨x, p, rfl, hp, bk, hQ⟩ := one_num h
  clear h
  have b0 := bk.sz.1
  have bp := bk.pos
  have bt := bk.t
  have bb := bk.b
  have s0 : Sz 2000 ((0 : Int), (1 : Int)) := Sz.one (by decide) (Nat.pow_pos (by decide))
  rcases num_in hp with ⟨i, rfl, rfl⟩ | ⟨t, b, rfl, rfl⟩
  · have bp : 0 < i := bp
    simp only [true_and, and_true, oU2, oUn1, oL1, oS1, oR1, oJust, iAdd, iSub, iMul, iFdiv, iMod, iEq, iNe, iLt, iLe, iGt, iGe, iNeg, iAbs, DL.iStr, wFmt, wJs, wJoined, sNext, sSeq, sDrop, sRet, sRetN, sIf, sAsg, sPar, wOp, wVar, wC, wUn, wCons, wNil, wCB, wCall, wMake, wMakeSw, wCallSw, wProp, wFld, oI, oI0, oU, wTest, wAnd, wOr, wNot, wAndV, wOrV, wNotV, wIf, wTup, wLst, wLstM, gwName, gwNil, gwCons, gwTup, gwSub, oIx, oInt1, oAbsI, oLen, oGcd, oDivmod, oMax2, oMin2, oIsi, tyOf, clOf, kt_ii, kt_ib, kt_rr, kt_ir, kt_ri, kt_rb, kt_ni, kt_bi, kt_bb, kt_si, kt_ti, kt_li, kt_di, kt_nr, kt_br, kt_sr, kt_tr, kt_lr, kt_dr, oStrI, if_t1, if_f1, Bool.not_true, Bool.not_false, rt, startD, List.map_cons, List.map_nil, List.length_cons, List.length_nil, List.cons_append, List.nil_append, List.getElem?_cons_zero, List.getElem?_cons_succ, List.set_cons_zero, List.set_cons_succ, List.replicate, Nat.reduceAdd, Nat.reduceSub, Nat.zero_add, Nat.sub_self, Nat.add_sub_cancel, kt_tt, wChain, sFor, sForR, forStep, gwLst, listD, wCut, wStar, oListM, oTupl, seqD, oLcm, wCallP3, p3rev, p3mid, wAppend, lk_top, lk_bot, w1, w2, numD_int, numD_ins, w_is_int, w_is_number, wi_Ratio, w_as_ratio, w_top, w_bottom, w1r, w2r, lk_ex, wMeth, w_excess, w_lt, w_le, w_gt, w_raised, w_is_int_within, wLc, wLcE, wLcZ, wLcZ3, wLcT, wLcR, wYes, wipeD, Nat.zero_add, w_common_bottom, w_whole_bases, w_scaled, w_whole_values, w_first_levels, w_next_levels, w_whole_levels, w_ratios_of, w_bottom_at, w_lt, w_le, w_gt, wTruth, sForET]
    refine ifF (by omega) ?_
    refine ifT bt ?_
    rw [show decide ((1 : Int) ≤ 1000000000000) = true by decide]
    exact hQ
  · have bp : 0 < t := bp
    have bb : b ≤ 1000000000000 := bb
    simp only [true_and, and_true, oU2, oUn1, oL1, oS1, oR1, oJust, iAdd, iSub, iMul, iFdiv, iMod, iEq, iNe, iLt, iLe, iGt, iGe, iNeg, iAbs, DL.iStr, wFmt, wJs, wJoined, sNext, sSeq, sDrop, sRet, sRetN, sIf, sAsg, sPar, wOp, wVar, wC, wUn, wCons, wNil, wCB, wCall, wMake, wMakeSw, wCallSw, wProp, wFld, oI, oI0, oU, wTest, wAnd, wOr, wNot, wAndV, wOrV, wNotV, wIf, wTup, wLst, wLstM, gwName, gwNil, gwCons, gwTup, gwSub, oIx, oInt1, oAbsI, oLen, oGcd, oDivmod, oMax2, oMin2, oIsi, tyOf, clOf, kt_ii, kt_ib, kt_rr, kt_ir, kt_ri, kt_rb, kt_ni, kt_bi, kt_bb, kt_si, kt_ti, kt_li, kt_di, kt_nr, kt_br, kt_sr, kt_tr, kt_lr, kt_dr, oStrI, if_t1, if_f1, Bool.not_true, Bool.not_false, rt, startD, List.map_cons, List.map_nil, List.length_cons, List.length_nil, List.cons_append, List.nil_append, List.getElem?_cons_zero, List.getElem?_cons_succ, List.set_cons_zero, List.set_cons_succ, List.replicate, Nat.reduceAdd, Nat.reduceSub, Nat.zero_add, Nat.sub_self, Nat.add_sub_cancel, kt_tt, wChain, sFor, sForR, forStep, gwLst, listD, wCut, wStar, oListM, oTupl, seqD, oLcm, wCallP3, p3rev, p3mid, wAppend, lk_top, lk_bot, w1, w2, numD_int, numD_ins, w_is_int, w_is_number, wi_Ratio, w_as_ratio, w_top, w_bottom, w1r, w2r, lk_ex, wMeth, w_excess, w_lt, w_le, w_gt, w_raised, w_is_int_within, wLc, wLcE, wLcZ, wLcZ3, wLcT, wLcR, wYes, wipeD, Nat.zero_add, w_common_bottom, w_whole_bases, w_scaled, w_whole_values, w_first_levels, w_next_levels, w_whole_levels, w_ratios_of, w_bottom_at, w_lt, w_le, w_gt, wTruth, sForET]
    refine ⟨⟨bk.sz, s0⟩, ifF (by omega) ?_⟩
    refine ifT bt ?_
    rw [decide_eq_true bb]
    exact hQ
def Asc (ps : List Pr) : Prop := ∀ (i : Nat) (p q : Pr), ps[i]? = some p → ps[i + 1]? = some q → p.1 * q.2 ≤ q.1 * p.2
theorem num_at {xs : List D} {ps : List Pr} (e : xs.map numD = ps.map some) {i : Nat} {x : D} (h : xs[i]? = some x) : ∃ p, ps[i]? = some p ∧ numD x = some p := by
  have g : (xs.map numD)[i]? = some (numD x) := by rw [List.getElem?_map, h]; rfl
  rw [e, List.getElem?_map, Option.map_eq_some_iff] at g
  obtain ⟨p, hp, hn⟩ := g
  exact ⟨p, hp, hn.symm⟩
theorem enum_id (xs : List D) : enumD 0 xs = xs.zipIdx.map fun p => D.tup [.int (p.2 : Nat), p.1] := by
  have h := enum_map id xs 0
  rw [List.map_id] at h
  exact h
theorem num_len {xs : List D} {ps : List Pr} (e : xs.map numD = ps.map some) : xs.length = ps.length := by have := congrArg List.length e; simpa using this

def w_check_bases : WF := fun ds S Q => match ds with
  | [.tup xs] => ∃ ps : List Pr, xs.map numD = ps.map some ∧ 1 ≤ ps.length ∧ ps.length ≤ 12 ∧ (∀ p ∈ ps, Bok p) ∧ Asc ps ∧ Q .non S
  | _ => False
theorem sc_check_bases : FnScope ["bases", "before", "index", "base"] ["bases"] (defScope s_check_bases) := ⟨rfl, rfl, rfl, by decide +kernel, rfl, by decide +kernel, by decide +kernel⟩
theorem ok_check_bases (T : Tx K mg) : FnOk P w K mg base CX0 11 T.f_check_bases T.fd_check_bases ["bases"] (spW ⟨K, mg⟩ 1 w_check_bases) := by
  refine fnD (k := 10) T.F_check_bases sc_check_bases (fun cdv A outer s H E hr => ⟨_, (dss_cons (ds_if (PDW.pt (dw_or (dt_not (dt_val (d_callB call_isi (snd_isi T.isi) T.z_isinstance (da_cons (dv 0) (da_cons (d_ty (n := "tuple") T.z_tuple (hv := bt_tuple)) da_nil)) (hv := bt_isinstance)))) (dw_or (dt_not (dt_truth (dv 0))) (dw_or1 (dt_cmp op_gt snd_iGt (d_callB call_len_seq snd_len T.z_len (da_cons (dv 0) da_nil) (hv := bt_len)) (d_globI T.g_BASES) (nomark _)))))) (dss_one ds_never) dss_nil)
  (dss_cons (ds_set (i := 1) sc_check_bases.nd d_int)
  (dss_one (ds_forET PassesOwn.never rfl T.z_enumerate (da_cons (dv 0) da_nil) (dg_tup (n := 2) rfl (dgs_cons (dg_name (i := 2) sc_check_bases.nd) (dgs_cons (dg_name (i := 3) sc_check_bases.nd) dgs_nil))) (dss_cons (ds_if (PDW.pt (dw_or (dt_not (dt_val (d_call (ok_is_base T) (hr.mono (by decide)) T.m_is_base T.F_is_base.kp T.b_is_base (da_cons (dv 3) da_nil)))) (dw_or1 (dt_cmp (OpR.or op_lt (OpR.or (op_ownCmp (op := .Lt) (fun _ _ => rfl) T.own T.M_R_lt (ok_R_lt T) (hr.mono (by decide)) T.b_R_lt pass0) (op_ownCmpI (op := .Lt) (fun _ _ => rfl) T.own T.M_R_gt PySem.F.slot_int_lt (fun Q' h1 h2 q => dec_lt Q' h1 h2 q) (ok_R_gt T) (hr.mono (by decide)) T.b_R_gt pass0))) (snd_U2 snd_iLt T.g_Ratio) (dv 3) (dv 1) (nomark _))))) (dss_one ds_never) dss_nil)
  (dss_one (ds_set (i := 1) sc_check_bases.nd (dv 3))))))))⟩) (fun ds S Q hl h => ?_)
  match ds, h with
  | [.tup xs], ⟨ps, e, l1, l2, hb, ha, h⟩ =>
    have len := num_len e
    have ne : xs.isEmpty = false := by cases xs with
      | nil => simp at len; omega
      | cons _ _ => rfl
    simp only [true_and, and_true, oU2, oUn1, oL1, oS1, oR1, oJust, iAdd, iSub, iMul, iFdiv, iMod, iEq, iNe, iLt, iLe, iGt, iGe, iNeg, iAbs, DL.iStr, wFmt, wJs, wJoined, sNext, sSeq, sDrop, sRet, sRetN, sIf, sAsg, sPar, wOp, wVar, wC, wUn, wCons, wNil, wCB, wCall, wMake, wMakeSw, wCallSw, wProp, wFld, oI, oI0, oU, wTest, wAnd, wOr, wNot, wAndV, wOrV, wNotV, wIf, wTup, wLst, wLstM, gwName, gwNil, gwCons, gwTup, gwSub, oIx, oInt1, oAbsI, oLen, oGcd, oDivmod, oMax2, oMin2, oIsi, tyOf, clOf, kt_ii, kt_ib, kt_rr, kt_ir, kt_ri, kt_rb, kt_ni, kt_bi, kt_bb, kt_si, kt_ti, kt_li, kt_di, kt_nr, kt_br, kt_sr, kt_tr, kt_lr, kt_dr, oStrI, if_t1, if_f1, Bool.not_true, Bool.not_false, rt, startD, List.map_cons, List.map_nil, List.length_cons, List.length_nil, List.cons_append, List.nil_append, List.getElem?_cons_zero, List.getElem?_cons_succ, List.set_cons_zero, List.set_cons_succ, List.replicate, Nat.reduceAdd, Nat.reduceSub, Nat.zero_add, Nat.sub_self, Nat.add_sub_cancel, kt_tt, wChain, sFor, sForR, forStep, gwLst, listD, wCut, wStar, oListM, oTupl, seqD, oLcm, wCallP3, p3rev, p3mid, wAppend, lk_top, lk_bot, w1, w2, numD_int, numD_ins, w_is_int, w_is_number, wi_Ratio, w_as_ratio, w_top, w_bottom, w1r, w2r, lk_ex, wMeth, w_excess, w_lt, w_le, w_gt, w_raised, w_is_int_within, wLc, wLcE, wLcZ, wLcZ3, wLcT, wLcR, wYes, wipeD, Nat.zero_add, w_common_bottom, w_whole_bases, w_scaled, w_whole_values, w_first_levels, w_next_levels, w_whole_levels, w_ratios_of, w_bottom_at, w_lt, w_le, w_gt, wTruth, sForET, w_is_base]
    rw [ne]
    simp only [true_and, and_true, oU2, oUn1, oL1, oS1, oR1, oJust, iAdd, iSub, iMul, iFdiv, iMod, iEq, iNe, iLt, iLe, iGt, iGe, iNeg, iAbs, DL.iStr, wFmt, wJs, wJoined, sNext, sSeq, sDrop, sRet, sRetN, sIf, sAsg, sPar, wOp, wVar, wC, wUn, wCons, wNil, wCB, wCall, wMake, wMakeSw, wCallSw, wProp, wFld, oI, oI0, oU, wTest, wAnd, wOr, wNot, wAndV, wOrV, wNotV, wIf, wTup, wLst, wLstM, gwName, gwNil, gwCons, gwTup, gwSub, oIx, oInt1, oAbsI, oLen, oGcd, oDivmod, oMax2, oMin2, oIsi, tyOf, clOf, kt_ii, kt_ib, kt_rr, kt_ir, kt_ri, kt_rb, kt_ni, kt_bi, kt_bb, kt_si, kt_ti, kt_li, kt_di, kt_nr, kt_br, kt_sr, kt_tr, kt_lr, kt_dr, oStrI, if_t1, if_f1, Bool.not_true, Bool.not_false, rt, startD, List.map_cons, List.map_nil, List.length_cons, List.length_nil, List.cons_append, List.nil_append, List.getElem?_cons_zero, List.getElem?_cons_succ, List.set_cons_zero, List.set_cons_succ, List.replicate, Nat.reduceAdd, Nat.reduceSub, Nat.zero_add, Nat.sub_self, Nat.add_sub_cancel, kt_tt, wChain, sFor, sForR, forStep, gwLst, listD, wCut, wStar, oListM, oTupl, seqD, oLcm, wCallP3, p3rev, p3mid, wAppend, lk_top, lk_bot, w1, w2, numD_int, numD_ins, w_is_int, w_is_number, wi_Ratio, w_as_ratio, w_top, w_bottom, w1r, w2r, lk_ex, wMeth, w_excess, w_lt, w_le, w_gt, w_raised, w_is_int_within, wLc, wLcE, wLcZ, wLcZ3, wLcT, wLcR, wYes, wipeD, Nat.zero_add, w_common_bottom, w_whole_bases, w_scaled, w_whole_values, w_first_levels, w_next_levels, w_whole_levels, w_ratios_of, w_bottom_at, w_lt, w_le, w_gt, wTruth, sForET, w_is_base]
    refine ifF (by omega) ?_
    rw [enum_id]
    refine forD_run (fun p : D × Nat => D.tup [.int (p.2 : Nat), p.1]) (fun i ρ S' => S' = S ∧ ∃ before o1 o2, ρ = [some (.tup xs), some before, o1, o2] ∧ ((i = 0 ∧ before = .int 0) ∨ ∃ j, i = j + 1 ∧ xs[j]? = some before)) xs.zipIdx 0 ?_ ?_ _ _ ⟨rfl, .int 0, none, none, rfl, .inl ⟨rfl, rfl⟩⟩
    · rintro i p ρ S' nx hx ⟨rfl, before, o1, o2, rfl, hbe⟩ hn
      rw [List.getElem?_zipIdx, Option.map_eq_some_iff] at hx
      obtain ⟨x, hx, rfl⟩ := hx
      obtain ⟨p, hp, np⟩ := num_at e hx
      have bk := hb p (get_mem hp)
      have key : ∃ q, numD before = some q ∧ Sz 2000 q ∧ q.1 * p.2 ≤ p.1 * q.2 := by
        rcases hbe with ⟨_, rfl⟩ | ⟨j, hj, hbj⟩
        · exact ⟨(0, 1), rfl, Sz.one (by decide) (Nat.pow_pos (by decide)), by have := bk.pos; simp only; omega⟩
        · obtain ⟨q, hq, nq⟩ := num_at e hbj
          rw [Nat.zero_add] at hj
          exact ⟨q, nq, (hb q (get_mem hq)).sz, ha j q p hq (by rw [← hj]; exact hp)⟩
      obtain ⟨q, nq, sq, le⟩ := key
      have fin : nx [some (.tup xs), some x, some (.int ((0 + i : Nat) : Int)), some x] S' := hn _ _ ⟨rfl, x, _, _, rfl, .inr ⟨i, by omega, hx⟩⟩
      have sp := bk.sz
      rcases num_in np with ⟨i', rfl, rfl⟩ | ⟨t, b, rfl, rfl⟩ <;> rcases num_in nq with ⟨j', rfl, rfl⟩ | ⟨u, d, rfl, rfl⟩
      · simp only at le
        simp only [true_and, and_true, oU2, oUn1, oL1, oS1, oR1, oJust, iAdd, iSub, iMul, iFdiv, iMod, iEq, iNe, iLt, iLe, iGt, iGe, iNeg, iAbs, DL.iStr, wFmt, wJs, wJoined, sNext, sSeq, sDrop, sRet, sRetN, sIf, sAsg, sPar, wOp, wVar, wC, wUn, wCons, wNil, wCB, wCall, wMake, wMakeSw, wCallSw, wProp, wFld, oI, oI0, oU, wTest, wAnd, wOr, wNot, wAndV, wOrV, wNotV, wIf, wTup, wLst, wLstM, gwName, gwNil, gwCons, gwTup, gwSub, oIx, oInt1, oAbsI, oLen, oGcd, oDivmod, oMax2, oMin2, oIsi, tyOf, clOf, kt_ii, kt_ib, kt_rr, kt_ir, kt_ri, kt_rb, kt_ni, kt_bi, kt_bb, kt_si, kt_ti, kt_li, kt_di, kt_nr, kt_br, kt_sr, kt_tr, kt_lr, kt_dr, oStrI, if_t1, if_f1, Bool.not_true, Bool.not_false, rt, startD, List.map_cons, List.map_nil, List.length_cons, List.length_nil, List.cons_append, List.nil_append, List.getElem?_cons_zero, List.getElem?_cons_succ, List.set_cons_zero, List.set_cons_succ, List.replicate, Nat.reduceAdd, Nat.reduceSub, Nat.zero_add, Nat.sub_self, Nat.add_sub_cancel, kt_tt, wChain, sFor, sForR, forStep, gwLst, listD, wCut, wStar, oListM, oTupl, seqD, oLcm, wCallP3, p3rev, p3mid, wAppend, lk_top, lk_bot, w1, w2, numD_int, numD_ins, w_is_int, w_is_number, wi_Ratio, w_as_ratio, w_top, w_bottom, w1r, w2r, lk_ex, wMeth, w_excess, w_lt, w_le, w_gt, w_raised, w_is_int_within, wLc, wLcE, wLcZ, wLcZ3, wLcT, wLcR, wYes, wipeD, Nat.zero_add, w_common_bottom, w_whole_bases, w_scaled, w_whole_values, w_first_levels, w_next_levels, w_whole_levels, w_ratios_of, w_bottom_at, w_lt, w_le, w_gt, wTruth, sForET, w_is_base]
        exact ⟨bk, ifF (by omega) (by simpa using fin)⟩
      · simp only at le
        simp only [true_and, and_true, oU2, oUn1, oL1, oS1, oR1, oJust, iAdd, iSub, iMul, iFdiv, iMod, iEq, iNe, iLt, iLe, iGt, iGe, iNeg, iAbs, DL.iStr, wFmt, wJs, wJoined, sNext, sSeq, sDrop, sRet, sRetN, sIf, sAsg, sPar, wOp, wVar, wC, wUn, wCons, wNil, wCB, wCall, wMake, wMakeSw, wCallSw, wProp, wFld, oI, oI0, oU, wTest, wAnd, wOr, wNot, wAndV, wOrV, wNotV, wIf, wTup, wLst, wLstM, gwName, gwNil, gwCons, gwTup, gwSub, oIx, oInt1, oAbsI, oLen, oGcd, oDivmod, oMax2, oMin2, oIsi, tyOf, clOf, kt_ii, kt_ib, kt_rr, kt_ir, kt_ri, kt_rb, kt_ni, kt_bi, kt_bb, kt_si, kt_ti, kt_li, kt_di, kt_nr, kt_br, kt_sr, kt_tr, kt_lr, kt_dr, oStrI, if_t1, if_f1, Bool.not_true, Bool.not_false, rt, startD, List.map_cons, List.map_nil, List.length_cons, List.length_nil, List.cons_append, List.nil_append, List.getElem?_cons_zero, List.getElem?_cons_succ, List.set_cons_zero, List.set_cons_succ, List.replicate, Nat.reduceAdd, Nat.reduceSub, Nat.zero_add, Nat.sub_self, Nat.add_sub_cancel, kt_tt, wChain, sFor, sForR, forStep, gwLst, listD, wCut, wStar, oListM, oTupl, seqD, oLcm, wCallP3, p3rev, p3mid, wAppend, lk_top, lk_bot, w1, w2, numD_int, numD_ins, w_is_int, w_is_number, wi_Ratio, w_as_ratio, w_top, w_bottom, w1r, w2r, lk_ex, wMeth, w_excess, w_lt, w_le, w_gt, w_raised, w_is_int_within, wLc, wLcE, wLcZ, wLcZ3, wLcT, wLcR, wYes, wipeD, Nat.zero_add, w_common_bottom, w_whole_bases, w_scaled, w_whole_values, w_first_levels, w_next_levels, w_whole_levels, w_ratios_of, w_bottom_at, w_lt, w_le, w_gt, wTruth, sForET, w_is_base]
        exact ⟨bk, ⟨sq, sp⟩, ifF (by omega) (by simpa using fin)⟩
      · simp only at le
        simp only [true_and, and_true, oU2, oUn1, oL1, oS1, oR1, oJust, iAdd, iSub, iMul, iFdiv, iMod, iEq, iNe, iLt, iLe, iGt, iGe, iNeg, iAbs, DL.iStr, wFmt, wJs, wJoined, sNext, sSeq, sDrop, sRet, sRetN, sIf, sAsg, sPar, wOp, wVar, wC, wUn, wCons, wNil, wCB, wCall, wMake, wMakeSw, wCallSw, wProp, wFld, oI, oI0, oU, wTest, wAnd, wOr, wNot, wAndV, wOrV, wNotV, wIf, wTup, wLst, wLstM, gwName, gwNil, gwCons, gwTup, gwSub, oIx, oInt1, oAbsI, oLen, oGcd, oDivmod, oMax2, oMin2, oIsi, tyOf, clOf, kt_ii, kt_ib, kt_rr, kt_ir, kt_ri, kt_rb, kt_ni, kt_bi, kt_bb, kt_si, kt_ti, kt_li, kt_di, kt_nr, kt_br, kt_sr, kt_tr, kt_lr, kt_dr, oStrI, if_t1, if_f1, Bool.not_true, Bool.not_false, rt, startD, List.map_cons, List.map_nil, List.length_cons, List.length_nil, List.cons_append, List.nil_append, List.getElem?_cons_zero, List.getElem?_cons_succ, List.set_cons_zero, List.set_cons_succ, List.replicate, Nat.reduceAdd, Nat.reduceSub, Nat.zero_add, Nat.sub_self, Nat.add_sub_cancel, kt_tt, wChain, sFor, sForR, forStep, gwLst, listD, wCut, wStar, oListM, oTupl, seqD, oLcm, wCallP3, p3rev, p3mid, wAppend, lk_top, lk_bot, w1, w2, numD_int, numD_ins, w_is_int, w_is_number, wi_Ratio, w_as_ratio, w_top, w_bottom, w1r, w2r, lk_ex, wMeth, w_excess, w_lt, w_le, w_gt, w_raised, w_is_int_within, wLc, wLcE, wLcZ, wLcZ3, wLcT, wLcR, wYes, wipeD, Nat.zero_add, w_common_bottom, w_whole_bases, w_scaled, w_whole_values, w_first_levels, w_next_levels, w_whole_levels, w_ratios_of, w_bottom_at, w_lt, w_le, w_gt, wTruth, sForET, w_is_base]
        exact ⟨bk, ⟨sp, sq⟩, ifF (by omega) (by simpa using fin)⟩
      · simp only at le
        simp only [true_and, and_true, oU2, oUn1, oL1, oS1, oR1, oJust, iAdd, iSub, iMul, iFdiv, iMod, iEq, iNe, iLt, iLe, iGt, iGe, iNeg, iAbs, DL.iStr, wFmt, wJs, wJoined, sNext, sSeq, sDrop, sRet, sRetN, sIf, sAsg, sPar, wOp, wVar, wC, wUn, wCons, wNil, wCB, wCall, wMake, wMakeSw, wCallSw, wProp, wFld, oI, oI0, oU, wTest, wAnd, wOr, wNot, wAndV, wOrV, wNotV, wIf, wTup, wLst, wLstM, gwName, gwNil, gwCons, gwTup, gwSub, oIx, oInt1, oAbsI, oLen, oGcd, oDivmod, oMax2, oMin2, oIsi, tyOf, clOf, kt_ii, kt_ib, kt_rr, kt_ir, kt_ri, kt_rb, kt_ni, kt_bi, kt_bb, kt_si, kt_ti, kt_li, kt_di, kt_nr, kt_br, kt_sr, kt_tr, kt_lr, kt_dr, oStrI, if_t1, if_f1, Bool.not_true, Bool.not_false, rt, startD, List.map_cons, List.map_nil, List.length_cons, List.length_nil, List.cons_append, List.nil_append, List.getElem?_cons_zero, List.getElem?_cons_succ, List.set_cons_zero, List.set_cons_succ, List.replicate, Nat.reduceAdd, Nat.reduceSub, Nat.zero_add, Nat.sub_self, Nat.add_sub_cancel, kt_tt, wChain, sFor, sForR, forStep, gwLst, listD, wCut, wStar, oListM, oTupl, seqD, oLcm, wCallP3, p3rev, p3mid, wAppend, lk_top, lk_bot, w1, w2, numD_int, numD_ins, w_is_int, w_is_number, wi_Ratio, w_as_ratio, w_top, w_bottom, w1r, w2r, lk_ex, wMeth, w_excess, w_lt, w_le, w_gt, w_raised, w_is_int_within, wLc, wLcE, wLcZ, wLcZ3, wLcT, wLcR, wYes, wipeD, Nat.zero_add, w_common_bottom, w_whole_bases, w_scaled, w_whole_values, w_first_levels, w_next_levels, w_whole_levels, w_ratios_of, w_bottom_at, w_lt, w_le, w_gt, wTruth, sForET, w_is_base]
        exact ⟨bk, ⟨sp, sq⟩, ifF (by omega) (by simpa using fin)⟩
    · rintro ρ S' ⟨rfl, _⟩
      exact h
def w_check_row : WF := fun ds S Q => match ds with
  | [.tup xs, .tup ys] => ∃ ps qs : List Pr, xs.map numD = ps.map some ∧ ys.map numD = qs.map some ∧ 1 ≤ ps.length ∧ ps.length ≤ 12 ∧ (∀ p ∈ ps, Bok p) ∧ Asc ps ∧ ps.length = qs.length ∧ Q .non S
  | _ => False
theorem sc_check_row : FnScope ["bases", "values", "index", "value"] ["bases", "values"] (defScope s_check_row) := ⟨rfl, rfl, rfl, by decide +kernel, rfl, by decide +kernel, by decide +kernel⟩
theorem ok_check_row (T : Tx K mg) : FnOk P w K mg base CX0 12 T.f_check_row T.fd_check_row ["bases", "values"] (spW ⟨K, mg⟩ 2 w_check_row) := by
  refine fnD (k := 11) T.F_check_row sc_check_row (fun cdv A outer s H E hr => ⟨_, (dss_cons (ds_expr (d_call (ok_check_bases T) (hr.mono (by decide)) T.m_check_bases T.F_check_bases.kp T.b_check_bases (da_cons (dv 0) da_nil)))
  (dss_cons (ds_if (PDW.pt (dw_or (dt_not (dt_val (d_callB call_isi (snd_isi T.isi) T.z_isinstance (da_cons (dv 1) (da_cons (d_ty (n := "tuple") T.z_tuple (hv := bt_tuple)) da_nil)) (hv := bt_isinstance)))) (dw_or1 (dt_cmp op_ne snd_iNe (d_callB call_len_seq snd_len T.z_len (da_cons (dv 1) da_nil) (hv := bt_len)) (d_callB call_len_seq snd_len T.z_len (da_cons (dv 0) da_nil) (hv := bt_len)) (nomark _))))) (dss_one ds_never) dss_nil)
  (dss_one (ds_forET PassesOwn.never rfl T.z_enumerate (da_cons (dv 1) da_nil) (dg_tup (n := 2) rfl (dgs_cons (dg_name (i := 2) sc_check_row.nd) (dgs_cons (dg_name (i := 3) sc_check_row.nd) dgs_nil))) (dss_one (ds_if (dt_not (dt_val (d_call (ok_is_number T) (hr.mono (by decide)) T.m_is_number T.F_is_number.kp T.b_is_number (da_cons (dv 3) da_nil)))) (dss_one ds_never) dss_nil))))))⟩) (fun ds S Q hl h => ?_)
  match ds, h with
  | [.tup xs, .tup ys], ⟨ps, qs, e, f, l1, l2, hb, ha, hl, hQ⟩ =>
    have len := num_len e
    have len2 := num_len f
    simp only [true_and, and_true, oU2, oUn1, oL1, oS1, oR1, oJust, iAdd, iSub, iMul, iFdiv, iMod, iEq, iNe, iLt, iLe, iGt, iGe, iNeg, iAbs, DL.iStr, wFmt, wJs, wJoined, sNext, sSeq, sDrop, sRet, sRetN, sIf, sAsg, sPar, wOp, wVar, wC, wUn, wCons, wNil, wCB, wCall, wMake, wMakeSw, wCallSw, wProp, wFld, oI, oI0, oU, wTest, wAnd, wOr, wNot, wAndV, wOrV, wNotV, wIf, wTup, wLst, wLstM, gwName, gwNil, gwCons, gwTup, gwSub, oIx, oInt1, oAbsI, oLen, oGcd, oDivmod, oMax2, oMin2, oIsi, tyOf, clOf, kt_ii, kt_ib, kt_rr, kt_ir, kt_ri, kt_rb, kt_ni, kt_bi, kt_bb, kt_si, kt_ti, kt_li, kt_di, kt_nr, kt_br, kt_sr, kt_tr, kt_lr, kt_dr, oStrI, if_t1, if_f1, Bool.not_true, Bool.not_false, rt, startD, List.map_cons, List.map_nil, List.length_cons, List.length_nil, List.cons_append, List.nil_append, List.getElem?_cons_zero, List.getElem?_cons_succ, List.set_cons_zero, List.set_cons_succ, List.replicate, Nat.reduceAdd, Nat.reduceSub, Nat.zero_add, Nat.sub_self, Nat.add_sub_cancel, kt_tt, wChain, sFor, sForR, forStep, gwLst, listD, wCut, wStar, oListM, oTupl, seqD, oLcm, wCallP3, p3rev, p3mid, wAppend, lk_top, lk_bot, w1, w2, numD_int, numD_ins, w_is_int, w_is_number, wi_Ratio, w_as_ratio, w_top, w_bottom, w1r, w2r, lk_ex, wMeth, w_excess, w_lt, w_le, w_gt, w_raised, w_is_int_within, wLc, wLcE, wLcZ, wLcZ3, wLcT, wLcR, wYes, wipeD, Nat.zero_add, w_common_bottom, w_whole_bases, w_scaled, w_whole_values, w_first_levels, w_next_levels, w_whole_levels, w_ratios_of, w_bottom_at, w_lt, w_le, w_gt, wTruth, sForET, w_is_base, w_check_bases]
    refine ⟨ps, e, l1, l2, hb, ha, ?_⟩
    rw [show (!decide ((ys.length : Int) = (xs.length : Int))) = false by rw [decide_eq_true (by omega)]; rfl]
    simp only [true_and, and_true, oU2, oUn1, oL1, oS1, oR1, oJust, iAdd, iSub, iMul, iFdiv, iMod, iEq, iNe, iLt, iLe, iGt, iGe, iNeg, iAbs, DL.iStr, wFmt, wJs, wJoined, sNext, sSeq, sDrop, sRet, sRetN, sIf, sAsg, sPar, wOp, wVar, wC, wUn, wCons, wNil, wCB, wCall, wMake, wMakeSw, wCallSw, wProp, wFld, oI, oI0, oU, wTest, wAnd, wOr, wNot, wAndV, wOrV, wNotV, wIf, wTup, wLst, wLstM, gwName, gwNil, gwCons, gwTup, gwSub, oIx, oInt1, oAbsI, oLen, oGcd, oDivmod, oMax2, oMin2, oIsi, tyOf, clOf, kt_ii, kt_ib, kt_rr, kt_ir, kt_ri, kt_rb, kt_ni, kt_bi, kt_bb, kt_si, kt_ti, kt_li, kt_di, kt_nr, kt_br, kt_sr, kt_tr, kt_lr, kt_dr, oStrI, if_t1, if_f1, Bool.not_true, Bool.not_false, rt, startD, List.map_cons, List.map_nil, List.length_cons, List.length_nil, List.cons_append, List.nil_append, List.getElem?_cons_zero, List.getElem?_cons_succ, List.set_cons_zero, List.set_cons_succ, List.replicate, Nat.reduceAdd, Nat.reduceSub, Nat.zero_add, Nat.sub_self, Nat.add_sub_cancel, kt_tt, wChain, sFor, sForR, forStep, gwLst, listD, wCut, wStar, oListM, oTupl, seqD, oLcm, wCallP3, p3rev, p3mid, wAppend, lk_top, lk_bot, w1, w2, numD_int, numD_ins, w_is_int, w_is_number, wi_Ratio, w_as_ratio, w_top, w_bottom, w1r, w2r, lk_ex, wMeth, w_excess, w_lt, w_le, w_gt, w_raised, w_is_int_within, wLc, wLcE, wLcZ, wLcZ3, wLcT, wLcR, wYes, wipeD, Nat.zero_add, w_common_bottom, w_whole_bases, w_scaled, w_whole_values, w_first_levels, w_next_levels, w_whole_levels, w_ratios_of, w_bottom_at, w_lt, w_le, w_gt, wTruth, sForET, w_is_base, w_check_bases]
    rw [enum_id]
    refine forD_run (fun p : D × Nat => D.tup [.int (p.2 : Nat), p.1]) (fun i ρ S' => S' = S ∧ ∃ o1 o2, ρ = [some (.tup xs), some (.tup ys), o1, o2]) ys.zipIdx 0 ?_ ?_ _ _ ⟨rfl, none, none, rfl⟩
    · rintro i p ρ S' nx hx ⟨rfl, o1, o2, rfl⟩ hn
      rw [List.getElem?_zipIdx, Option.map_eq_some_iff] at hx
      obtain ⟨x, hx, rfl⟩ := hx
      obtain ⟨p, hp, np⟩ := num_at f hx
      simp only [true_and, and_true, oU2, oUn1, oL1, oS1, oR1, oJust, iAdd, iSub, iMul, iFdiv, iMod, iEq, iNe, iLt, iLe, iGt, iGe, iNeg, iAbs, DL.iStr, wFmt, wJs, wJoined, sNext, sSeq, sDrop, sRet, sRetN, sIf, sAsg, sPar, wOp, wVar, wC, wUn, wCons, wNil, wCB, wCall, wMake, wMakeSw, wCallSw, wProp, wFld, oI, oI0, oU, wTest, wAnd, wOr, wNot, wAndV, wOrV, wNotV, wIf, wTup, wLst, wLstM, gwName, gwNil, gwCons, gwTup, gwSub, oIx, oInt1, oAbsI, oLen, oGcd, oDivmod, oMax2, oMin2, oIsi, tyOf, clOf, kt_ii, kt_ib, kt_rr, kt_ir, kt_ri, kt_rb, kt_ni, kt_bi, kt_bb, kt_si, kt_ti, kt_li, kt_di, kt_nr, kt_br, kt_sr, kt_tr, kt_lr, kt_dr, oStrI, if_t1, if_f1, Bool.not_true, Bool.not_false, rt, startD, List.map_cons, List.map_nil, List.length_cons, List.length_nil, List.cons_append, List.nil_append, List.getElem?_cons_zero, List.getElem?_cons_succ, List.set_cons_zero, List.set_cons_succ, List.replicate, Nat.reduceAdd, Nat.reduceSub, Nat.zero_add, Nat.sub_self, Nat.add_sub_cancel, kt_tt, wChain, sFor, sForR, forStep, gwLst, listD, wCut, wStar, oListM, oTupl, seqD, oLcm, wCallP3, p3rev, p3mid, wAppend, lk_top, lk_bot, w1, w2, numD_int, numD_ins, w_is_int, w_is_number, wi_Ratio, w_as_ratio, w_top, w_bottom, w1r, w2r, lk_ex, wMeth, w_excess, w_lt, w_le, w_gt, w_raised, w_is_int_within, wLc, wLcE, wLcZ, wLcZ3, wLcT, wLcR, wYes, wipeD, Nat.zero_add, w_common_bottom, w_whole_bases, w_scaled, w_whole_values, w_first_levels, w_next_levels, w_whole_levels, w_ratios_of, w_bottom_at, w_lt, w_le, w_gt, wTruth, sForET, w_is_base, w_check_bases]
      rw [np]
      simp only [true_and, and_true, oU2, oUn1, oL1, oS1, oR1, oJust, iAdd, iSub, iMul, iFdiv, iMod, iEq, iNe, iLt, iLe, iGt, iGe, iNeg, iAbs, DL.iStr, wFmt, wJs, wJoined, sNext, sSeq, sDrop, sRet, sRetN, sIf, sAsg, sPar, wOp, wVar, wC, wUn, wCons, wNil, wCB, wCall, wMake, wMakeSw, wCallSw, wProp, wFld, oI, oI0, oU, wTest, wAnd, wOr, wNot, wAndV, wOrV, wNotV, wIf, wTup, wLst, wLstM, gwName, gwNil, gwCons, gwTup, gwSub, oIx, oInt1, oAbsI, oLen, oGcd, oDivmod, oMax2, oMin2, oIsi, tyOf, clOf, kt_ii, kt_ib, kt_rr, kt_ir, kt_ri, kt_rb, kt_ni, kt_bi, kt_bb, kt_si, kt_ti, kt_li, kt_di, kt_nr, kt_br, kt_sr, kt_tr, kt_lr, kt_dr, oStrI, if_t1, if_f1, Bool.not_true, Bool.not_false, rt, startD, List.map_cons, List.map_nil, List.length_cons, List.length_nil, List.cons_append, List.nil_append, List.getElem?_cons_zero, List.getElem?_cons_succ, List.set_cons_zero, List.set_cons_succ, List.replicate, Nat.reduceAdd, Nat.reduceSub, Nat.zero_add, Nat.sub_self, Nat.add_sub_cancel, kt_tt, wChain, sFor, sForR, forStep, gwLst, listD, wCut, wStar, oListM, oTupl, seqD, oLcm, wCallP3, p3rev, p3mid, wAppend, lk_top, lk_bot, w1, w2, numD_int, numD_ins, w_is_int, w_is_number, wi_Ratio, w_as_ratio, w_top, w_bottom, w1r, w2r, lk_ex, wMeth, w_excess, w_lt, w_le, w_gt, w_raised, w_is_int_within, wLc, wLcE, wLcZ, wLcZ3, wLcT, wLcR, wYes, wipeD, Nat.zero_add, w_common_bottom, w_whole_bases, w_scaled, w_whole_values, w_first_levels, w_next_levels, w_whole_levels, w_ratios_of, w_bottom_at, w_lt, w_le, w_gt, wTruth, sForET, w_is_base, w_check_bases]
      exact hn _ _ ⟨rfl, _, _, rfl⟩
    · rintro ρ S' ⟨rfl, _⟩
      exact hQ
def w_check_place : WF := fun ds S Q => match ds with
  | [.int n] => 0 ≤ n ∧ n ≤ 1000 ∧ Q .non S
  | _ => False
theorem sc_check_place : FnScope ["place"] ["place"] (defScope s_check_place) := ⟨rfl, rfl, rfl, by decide +kernel, rfl, by decide +kernel, by decide +kernel⟩
theorem ok_check_place (T : Tx K mg) : FnOk P w K mg base CX0 4 T.f_check_place T.fd_check_place ["place"] (spW ⟨K, mg⟩ 1 w_check_place) := by
  refine fnD (k := 3) T.F_check_place sc_check_place (fun cdv A outer s H E hr => ⟨_, (dss_one (ds_if (dt_not (dt_val (d_call (ok_is_int_within T) (hr.mono (by decide)) T.m_is_int_within T.F_is_int_within.kp T.b_is_int_within (da_cons (dv 0) (da_cons d_int (da_cons (d_globI T.g_ROUNDS) da_nil)))))) (dss_one ds_never) dss_nil))⟩) (fun ds S Q hl h => ?_)
  match ds, h with
  | [.int n], ⟨n0, n1, h⟩ =>
    simp only [true_and, and_true, oU2, oUn1, oL1, oS1, oR1, oJust, iAdd, iSub, iMul, iFdiv, iMod, iEq, iNe, iLt, iLe, iGt, iGe, iNeg, iAbs, DL.iStr, wFmt, wJs, wJoined, sNext, sSeq, sDrop, sRet, sRetN, sIf, sAsg, sPar, wOp, wVar, wC, wUn, wCons, wNil, wCB, wCall, wMake, wMakeSw, wCallSw, wProp, wFld, oI, oI0, oU, wTest, wAnd, wOr, wNot, wAndV, wOrV, wNotV, wIf, wTup, wLst, wLstM, gwName, gwNil, gwCons, gwTup, gwSub, oIx, oInt1, oAbsI, oLen, oGcd, oDivmod, oMax2, oMin2, oIsi, tyOf, clOf, kt_ii, kt_ib, kt_rr, kt_ir, kt_ri, kt_rb, kt_ni, kt_bi, kt_bb, kt_si, kt_ti, kt_li, kt_di, kt_nr, kt_br, kt_sr, kt_tr, kt_lr, kt_dr, oStrI, if_t1, if_f1, Bool.not_true, Bool.not_false, rt, startD, List.map_cons, List.map_nil, List.length_cons, List.length_nil, List.cons_append, List.nil_append, List.getElem?_cons_zero, List.getElem?_cons_succ, List.set_cons_zero, List.set_cons_succ, List.replicate, Nat.reduceAdd, Nat.reduceSub, Nat.zero_add, Nat.sub_self, Nat.add_sub_cancel, kt_tt, wChain, sFor, sForR, forStep, gwLst, listD, wCut, wStar, oListM, oTupl, seqD, oLcm, wCallP3, p3rev, p3mid, wAppend, lk_top, lk_bot, w1, w2, numD_int, numD_ins, w_is_int, w_is_number, wi_Ratio, w_as_ratio, w_top, w_bottom, w1r, w2r, lk_ex, wMeth, w_excess, w_lt, w_le, w_gt, w_raised, w_is_int_within, wLc, wLcE, wLcZ, wLcZ3, wLcT, wLcR, wYes, wipeD, Nat.zero_add, w_common_bottom, w_whole_bases, w_scaled, w_whole_values, w_first_levels, w_next_levels, w_whole_levels, w_ratios_of, w_bottom_at, w_lt, w_le, w_gt, wTruth, sForET, w_is_base, w_check_bases]
    exact ⟨⟨n0, n1⟩, h⟩
/-- bases above 0, ascending -/
def Rising (ps : List Pr) : Prop := (∀ p ∈ ps, 0 < p.1) ∧ Asc ps
theorem Small.z2 {N : Nat} {ps : List Pr} (h : Small N ps) {p : Pr} (hp : p ∈ ps) : p.2.natAbs < 2 ^ 10 := by
  have := Nat.le_of_dvd h.n0 (h.all p hp).2.1
  have n1 := h.n1
  omega
theorem Small.bok {N : Nat} {ps : List Pr} (h : Small N ps) (r : Rising ps) : ∀ p ∈ ps, Bok p := fun p hp => by
  have a := h.all p hp
  have z := h.z2 hp
  have t := a.2.2
  exact ⟨⟨a.1.pos, nmono t (by decide), nmono z (by decide)⟩, r.1 p hp, by omega, by omega⟩
theorem wh_head {N M : Nat} {ps qs : List Pr} (hp : Small N ps) (hq : Small M qs) (hl : ps.length = qs.length) (n : Nat) : L2.atI ((wholeP ps qs n).map D.int) 0 = some (.int ((wholeP ps qs n).headD 0)) := map_head (d := 0) (by rw [whole_len hp hq hl]; exact hp.l1)
theorem fits {N M : Nat} {ps qs : List Pr} (hp : Small N ps) (hq : Small M qs) {n : Nat} (hn : n ≤ 150) : 0 < cb qs * cb ps ^ n ∧ (cb qs * cb ps ^ n).natAbs < 2 ^ 9000 := ⟨bot_pos hp hq n, nmono (bot_lt hp hq hn) (by decide)⟩

def w_value_at : WF := fun ds S Q => match ds with
  | [.tup xs, .tup ys, .int n] => ∃ (N M : Nat) (ps qs : List Pr), xs.map numD = ps.map some ∧ ys.map numD = qs.map some ∧ Small N ps ∧ Small M qs ∧ Rising ps ∧ ps.length = qs.length ∧ 0 ≤ n ∧ n ≤ 100 ∧ ∀ S', Ext S S' → Q (rt (h0 ps qs n.toNat)) S'
  | _ => False
theorem sc_value_at : FnScope ["bases", "values", "place", "row", "firsts"] ["bases", "values", "place"] (defScope s_value_at) := ⟨rfl, rfl, rfl, by decide +kernel, rfl, by decide +kernel, by decide +kernel⟩
theorem ok_value_at (T : Tx K mg) : FnOk P w K mg base CX0 13 T.f_value_at T.fd_value_at ["bases", "values", "place"] (spW ⟨K, mg⟩ 3 w_value_at) := by
  refine fnD (k := 12) T.F_value_at sc_value_at (fun cdv A outer s H E hr => ⟨_, (dss_cons (ds_expr (d_call (ok_check_row T) (hr.mono (by decide)) T.m_check_row T.F_check_row.kp T.b_check_row (da_cons (dv 0) (da_cons (dv 1) da_nil))))
  (dss_cons (ds_expr (d_call (ok_check_place T) (hr.mono (by decide)) T.m_check_place T.F_check_place.kp T.b_check_place (da_cons (dv 2) da_nil)))
  (dss_cons (ds_set (i := 3) sc_value_at.nd (d_call (ok_ratios_of T) (hr.mono (by decide)) T.m_ratios_of T.F_ratios_of.kp T.b_ratios_of (da_cons (dv 0) da_nil)))
  (dss_cons (ds_set (i := 4) sc_value_at.nd (d_call (ok_ratios_of T) (hr.mono (by decide)) T.m_ratios_of T.F_ratios_of.kp T.b_ratios_of (da_cons (dv 1) da_nil)))
  (dss_one (ds_ret (d_make T.mkk (ok_R_init T) (hr.mono (by decide)) T.g_Ratio T.b_R_init2 T.v_R_init2 (fun _ _ => .nil) (da_cons (d_ix (d_call (ok_whole_levels T) (hr.mono (by decide)) T.m_whole_levels T.F_whole_levels.kp T.b_whole_levels (da_cons (dv 3) (da_cons (dv 4) (da_cons (dv 2) da_nil)))) d_int) (da_cons (d_call (ok_bottom_at T) (hr.mono (by decide)) T.m_bottom_at T.F_bottom_at.kp T.b_bottom_at (da_cons (dv 3) (da_cons (dv 4) (da_cons (dv 2) da_nil)))) da_nil)))))))))⟩) (fun ds S Q hl h => ?_)
  match ds, h with
  | [.tup xs, .tup ys, .int n], ⟨N, M, ps, qs, e, f, hp, hq, hr, hl, n0, n1, hQ⟩ =>
    have l6 := hp.l6
    have l62 := hq.l6
    simp only [true_and, and_true, oU2, oUn1, oL1, oS1, oR1, oJust, iAdd, iSub, iMul, iFdiv, iMod, iEq, iNe, iLt, iLe, iGt, iGe, iNeg, iAbs, DL.iStr, wFmt, wJs, wJoined, sNext, sSeq, sDrop, sRet, sRetN, sIf, sAsg, sPar, wOp, wVar, wC, wUn, wCons, wNil, wCB, wCall, wMake, wMakeSw, wCallSw, wProp, wFld, oI, oI0, oU, wTest, wAnd, wOr, wNot, wAndV, wOrV, wNotV, wIf, wTup, wLst, wLstM, gwName, gwNil, gwCons, gwTup, gwSub, oIx, oInt1, oAbsI, oLen, oGcd, oDivmod, oMax2, oMin2, oIsi, tyOf, clOf, kt_ii, kt_ib, kt_rr, kt_ir, kt_ri, kt_rb, kt_ni, kt_bi, kt_bb, kt_si, kt_ti, kt_li, kt_di, kt_nr, kt_br, kt_sr, kt_tr, kt_lr, kt_dr, oStrI, if_t1, if_f1, Bool.not_true, Bool.not_false, rt, startD, List.map_cons, List.map_nil, List.length_cons, List.length_nil, List.cons_append, List.nil_append, List.getElem?_cons_zero, List.getElem?_cons_succ, List.set_cons_zero, List.set_cons_succ, List.replicate, Nat.reduceAdd, Nat.reduceSub, Nat.zero_add, Nat.sub_self, Nat.add_sub_cancel, kt_tt, wChain, sFor, sForR, forStep, gwLst, listD, wCut, wStar, oListM, oTupl, seqD, oLcm, wCallP3, p3rev, p3mid, wAppend, lk_top, lk_bot, w1, w2, numD_int, numD_ins, w_is_int, w_is_number, wi_Ratio, w_as_ratio, w_top, w_bottom, w1r, w2r, lk_ex, wMeth, w_excess, w_lt, w_le, w_gt, w_raised, w_is_int_within, wLc, wLcE, wLcZ, wLcZ3, wLcT, wLcR, wYes, wipeD, Nat.zero_add, w_common_bottom, w_whole_bases, w_scaled, w_whole_values, w_first_levels, w_next_levels, w_whole_levels, w_ratios_of, w_bottom_at, w_lt, w_le, w_gt, wTruth, sForET, w_is_base, w_check_bases, w_check_row, w_check_place]
    refine ⟨ps, qs, e, f, hp.l1, by omega, hp.bok hr, hr.2, hl, n0, by omega, ps, e, by omega, fun S1 b1 e1 h1 => ?_⟩
    refine ⟨qs, f, by omega, fun S2 v2 e2 h2 => ?_⟩
    have hb2 := e2 _ _ h1
    refine ⟨N, M, ps, qs, hb2, h2, hp, hq, hl, n0, by omega, fun S3 k3 e3 h3 => ?_⟩
    rw [h3]
    simp only [true_and, and_true, oU2, oUn1, oL1, oS1, oR1, oJust, iAdd, iSub, iMul, iFdiv, iMod, iEq, iNe, iLt, iLe, iGt, iGe, iNeg, iAbs, DL.iStr, wFmt, wJs, wJoined, sNext, sSeq, sDrop, sRet, sRetN, sIf, sAsg, sPar, wOp, wVar, wC, wUn, wCons, wNil, wCB, wCall, wMake, wMakeSw, wCallSw, wProp, wFld, oI, oI0, oU, wTest, wAnd, wOr, wNot, wAndV, wOrV, wNotV, wIf, wTup, wLst, wLstM, gwName, gwNil, gwCons, gwTup, gwSub, oIx, oInt1, oAbsI, oLen, oGcd, oDivmod, oMax2, oMin2, oIsi, tyOf, clOf, kt_ii, kt_ib, kt_rr, kt_ir, kt_ri, kt_rb, kt_ni, kt_bi, kt_bb, kt_si, kt_ti, kt_li, kt_di, kt_nr, kt_br, kt_sr, kt_tr, kt_lr, kt_dr, oStrI, if_t1, if_f1, Bool.not_true, Bool.not_false, rt, startD, List.map_cons, List.map_nil, List.length_cons, List.length_nil, List.cons_append, List.nil_append, List.getElem?_cons_zero, List.getElem?_cons_succ, List.set_cons_zero, List.set_cons_succ, List.replicate, Nat.reduceAdd, Nat.reduceSub, Nat.zero_add, Nat.sub_self, Nat.add_sub_cancel, kt_tt, wChain, sFor, sForR, forStep, gwLst, listD, wCut, wStar, oListM, oTupl, seqD, oLcm, wCallP3, p3rev, p3mid, wAppend, lk_top, lk_bot, w1, w2, numD_int, numD_ins, w_is_int, w_is_number, wi_Ratio, w_as_ratio, w_top, w_bottom, w1r, w2r, lk_ex, wMeth, w_excess, w_lt, w_le, w_gt, w_raised, w_is_int_within, wLc, wLcE, wLcZ, wLcZ3, wLcT, wLcR, wYes, wipeD, Nat.zero_add, w_common_bottom, w_whole_bases, w_scaled, w_whole_values, w_first_levels, w_next_levels, w_whole_levels, w_ratios_of, w_bottom_at, w_lt, w_le, w_gt, wTruth, sForET, w_is_base, w_check_bases, w_check_row, w_check_place]
    rw [wh_head hp hq hl]
    simp only [true_and, and_true, oU2, oUn1, oL1, oS1, oR1, oJust, iAdd, iSub, iMul, iFdiv, iMod, iEq, iNe, iLt, iLe, iGt, iGe, iNeg, iAbs, DL.iStr, wFmt, wJs, wJoined, sNext, sSeq, sDrop, sRet, sRetN, sIf, sAsg, sPar, wOp, wVar, wC, wUn, wCons, wNil, wCB, wCall, wMake, wMakeSw, wCallSw, wProp, wFld, oI, oI0, oU, wTest, wAnd, wOr, wNot, wAndV, wOrV, wNotV, wIf, wTup, wLst, wLstM, gwName, gwNil, gwCons, gwTup, gwSub, oIx, oInt1, oAbsI, oLen, oGcd, oDivmod, oMax2, oMin2, oIsi, tyOf, clOf, kt_ii, kt_ib, kt_rr, kt_ir, kt_ri, kt_rb, kt_ni, kt_bi, kt_bb, kt_si, kt_ti, kt_li, kt_di, kt_nr, kt_br, kt_sr, kt_tr, kt_lr, kt_dr, oStrI, if_t1, if_f1, Bool.not_true, Bool.not_false, rt, startD, List.map_cons, List.map_nil, List.length_cons, List.length_nil, List.cons_append, List.nil_append, List.getElem?_cons_zero, List.getElem?_cons_succ, List.set_cons_zero, List.set_cons_succ, List.replicate, Nat.reduceAdd, Nat.reduceSub, Nat.zero_add, Nat.sub_self, Nat.add_sub_cancel, kt_tt, wChain, sFor, sForR, forStep, gwLst, listD, wCut, wStar, oListM, oTupl, seqD, oLcm, wCallP3, p3rev, p3mid, wAppend, lk_top, lk_bot, w1, w2, numD_int, numD_ins, w_is_int, w_is_number, wi_Ratio, w_as_ratio, w_top, w_bottom, w1r, w2r, lk_ex, wMeth, w_excess, w_lt, w_le, w_gt, w_raised, w_is_int_within, wLc, wLcE, wLcZ, wLcZ3, wLcT, wLcR, wYes, wipeD, Nat.zero_add, w_common_bottom, w_whole_bases, w_scaled, w_whole_values, w_first_levels, w_next_levels, w_whole_levels, w_ratios_of, w_bottom_at, w_lt, w_le, w_gt, wTruth, sForET, w_is_base, w_check_bases, w_check_row, w_check_place]
    refine ⟨N, M, ps, qs, e3 _ _ hb2, e3 _ _ h2, hp, hq, n0, by omega, fits hp hq (by omega), ?_⟩
    rw [← val_eq hp hq hl] at hQ
    exact hQ S3 ((e1.trans e2).trans e3)
def w_levels_at : WF := fun ds S Q => match ds with
  | [.tup xs, .tup ys, .int n] => ∃ (N M : Nat) (ps qs : List Pr), xs.map numD = ps.map some ∧ ys.map numD = qs.map some ∧ Small N ps ∧ Small M qs ∧ Rising ps ∧ ps.length = qs.length ∧ 0 ≤ n ∧ n ≤ 100 ∧ ∀ S', Ext S S' → Q (.tup ((lev ps qs n.toNat).map rt)) S'
  | _ => False
theorem sc_levels_at : FnScope ["bases", "values", "place", "row", "firsts", "tops", "j", "top"] ["bases", "values", "place"] (defScope s_levels_at) := ⟨rfl, rfl, rfl, by decide +kernel, rfl, by decide +kernel, by decide +kernel⟩
theorem ok_levels_at (T : Tx K mg) : FnOk P w K mg base CX0 13 T.f_levels_at T.fd_levels_at ["bases", "values", "place"] (spW ⟨K, mg⟩ 3 w_levels_at) := by
  refine fnD (k := 12) T.F_levels_at sc_levels_at (fun cdv A outer s H E hr => ⟨_, (dss_cons (ds_expr (d_call (ok_check_row T) (hr.mono (by decide)) T.m_check_row T.F_check_row.kp T.b_check_row (da_cons (dv 0) (da_cons (dv 1) da_nil))))
  (dss_cons (ds_expr (d_call (ok_check_place T) (hr.mono (by decide)) T.m_check_place T.F_check_place.kp T.b_check_place (da_cons (dv 2) da_nil)))
  (dss_cons (ds_set (i := 3) sc_levels_at.nd (d_call (ok_ratios_of T) (hr.mono (by decide)) T.m_ratios_of T.F_ratios_of.kp T.b_ratios_of (da_cons (dv 0) da_nil)))
  (dss_cons (ds_set (i := 4) sc_levels_at.nd (d_call (ok_ratios_of T) (hr.mono (by decide)) T.m_ratios_of T.F_ratios_of.kp T.b_ratios_of (da_cons (dv 1) da_nil)))
  (dss_cons (ds_set (i := 5) sc_levels_at.nd (d_call (ok_whole_levels T) (hr.mono (by decide)) T.m_whole_levels T.F_whole_levels.kp T.b_whole_levels (da_cons (dv 3) (da_cons (dv 4) (da_cons (dv 2) da_nil)))))
  (dss_one (ds_ret (d_callTy call_tuple_of snd_tupl T.z_tuple (da_cons (d_lcE (own := [("j", 6), ("top", 7)]) rfl sc_levels_at.nd T.z_enumerate (da_cons (dv 5) da_nil) (blkOk_by (own := [("j", 6), ("top", 7)]) (N := ["bases", "values", "place", "row", "firsts", "tops", "j", "top"]) (sc := defScope s_levels_at) (by decide +kernel)) (gown_two (by decide) (by decide)) (fun _ _ _ _ _ => (dg_tup (n := 2) rfl (dgs_cons (dg_name (i := 6) sc_levels_at.nd) (dgs_cons (dg_name (i := 7) sc_levels_at.nd) dgs_nil)))) (fun _ _ _ _ _ => dts_nil) (fun _ _ _ _ _ => (d_makeC T.mkk (ok_R_init T) (hr.mono (by decide)) T.g_Ratio T.b_R_init2 T.v_R_init2 (fun _ _ => .nil) (da_cons (dv 7) (da_cons (d_callC (ok_bottom_at T) (hr.mono (by decide)) T.m_bottom_at T.F_bottom_at.kp T.b_bottom_at (da_cons (dv 3) (da_cons (dv 4) (da_cons (d_op op_add snd_iAdd (dv 2) (dv 6)) da_nil)))) da_nil))))) da_nil) (hv := bt_tuple)))))))))⟩) (fun ds S Q hl h => ?_)
  match ds, h with
  | [.tup xs, .tup ys, .int n], ⟨N, M, ps, qs, e, f, hp, hq, hr, hl, n0, n1, hQ⟩ =>
    have l6 := hp.l6
    have l62 := hq.l6
    simp only [true_and, and_true, oU2, oUn1, oL1, oS1, oR1, oJust, iAdd, iSub, iMul, iFdiv, iMod, iEq, iNe, iLt, iLe, iGt, iGe, iNeg, iAbs, DL.iStr, wFmt, wJs, wJoined, sNext, sSeq, sDrop, sRet, sRetN, sIf, sAsg, sPar, wOp, wVar, wC, wUn, wCons, wNil, wCB, wCall, wMake, wMakeSw, wCallSw, wProp, wFld, oI, oI0, oU, wTest, wAnd, wOr, wNot, wAndV, wOrV, wNotV, wIf, wTup, wLst, wLstM, gwName, gwNil, gwCons, gwTup, gwSub, oIx, oInt1, oAbsI, oLen, oGcd, oDivmod, oMax2, oMin2, oIsi, tyOf, clOf, kt_ii, kt_ib, kt_rr, kt_ir, kt_ri, kt_rb, kt_ni, kt_bi, kt_bb, kt_si, kt_ti, kt_li, kt_di, kt_nr, kt_br, kt_sr, kt_tr, kt_lr, kt_dr, oStrI, if_t1, if_f1, Bool.not_true, Bool.not_false, rt, startD, List.map_cons, List.map_nil, List.length_cons, List.length_nil, List.cons_append, List.nil_append, List.getElem?_cons_zero, List.getElem?_cons_succ, List.set_cons_zero, List.set_cons_succ, List.replicate, Nat.reduceAdd, Nat.reduceSub, Nat.zero_add, Nat.sub_self, Nat.add_sub_cancel, kt_tt, wChain, sFor, sForR, forStep, gwLst, listD, wCut, wStar, oListM, oTupl, seqD, oLcm, wCallP3, p3rev, p3mid, wAppend, lk_top, lk_bot, w1, w2, numD_int, numD_ins, w_is_int, w_is_number, wi_Ratio, w_as_ratio, w_top, w_bottom, w1r, w2r, lk_ex, wMeth, w_excess, w_lt, w_le, w_gt, w_raised, w_is_int_within, wLc, wLcE, wLcZ, wLcZ3, wLcT, wLcR, wYes, wipeD, Nat.zero_add, w_common_bottom, w_whole_bases, w_scaled, w_whole_values, w_first_levels, w_next_levels, w_whole_levels, w_ratios_of, w_bottom_at, w_lt, w_le, w_gt, wTruth, sForET, w_is_base, w_check_bases, w_check_row, w_check_place]
    refine ⟨ps, qs, e, f, hp.l1, by omega, hp.bok hr, hr.2, hl, n0, by omega, ps, e, by omega, fun S1 b1 e1 h1 => ?_⟩
    refine ⟨qs, f, by omega, fun S2 v2 e2 h2 => ?_⟩
    have hb2 := e2 _ _ h1
    refine ⟨N, M, ps, qs, hb2, h2, hp, hq, hl, n0, by omega, fun S3 k3 e3 h3 => ?_⟩
    have hb3 := e3 _ _ hb2
    have hv3 := e3 _ _ h2
    have wl := whole_len hp hq hl n.toNat
    obtain ⟨n, rfl⟩ := Int.eq_ofNat_of_zero_le n0
    rw [Int.toNat_natCast] at h3 wl hQ
    refine ⟨_, _, stay_mut h3, ?_⟩
    rw [enum_map]
    refine lcO_run (fun p : Int × Nat => D.tup [.int (p.2 : Nat), .int p.1]) (MapJ S3 S3.length ((levP ps qs n).map rt)) (wholeP ps qs n).zipIdx 0 (fun i S' j => j.1 _ _ h3) ?_ ?_ _ MapJ.start
    · intro i p S' nx hx j hn
      rw [List.getElem?_zipIdx, Option.map_eq_some_iff] at hx
      obtain ⟨L, hL, rfl⟩ := hx
      have li := (List.getElem?_eq_some_iff.mp hL).1
      simp only [true_and, and_true, oU2, oUn1, oL1, oS1, oR1, oJust, iAdd, iSub, iMul, iFdiv, iMod, iEq, iNe, iLt, iLe, iGt, iGe, iNeg, iAbs, DL.iStr, wFmt, wJs, wJoined, sNext, sSeq, sDrop, sRet, sRetN, sIf, sAsg, sPar, wOp, wVar, wC, wUn, wCons, wNil, wCB, wCall, wMake, wMakeSw, wCallSw, wProp, wFld, oI, oI0, oU, wTest, wAnd, wOr, wNot, wAndV, wOrV, wNotV, wIf, wTup, wLst, wLstM, gwName, gwNil, gwCons, gwTup, gwSub, oIx, oInt1, oAbsI, oLen, oGcd, oDivmod, oMax2, oMin2, oIsi, tyOf, clOf, kt_ii, kt_ib, kt_rr, kt_ir, kt_ri, kt_rb, kt_ni, kt_bi, kt_bb, kt_si, kt_ti, kt_li, kt_di, kt_nr, kt_br, kt_sr, kt_tr, kt_lr, kt_dr, oStrI, if_t1, if_f1, Bool.not_true, Bool.not_false, rt, startD, List.map_cons, List.map_nil, List.length_cons, List.length_nil, List.cons_append, List.nil_append, List.getElem?_cons_zero, List.getElem?_cons_succ, List.set_cons_zero, List.set_cons_succ, List.replicate, Nat.reduceAdd, Nat.reduceSub, Nat.zero_add, Nat.sub_self, Nat.add_sub_cancel, kt_tt, wChain, sFor, sForR, forStep, gwLst, listD, wCut, wStar, oListM, oTupl, seqD, oLcm, wCallP3, p3rev, p3mid, wAppend, lk_top, lk_bot, w1, w2, numD_int, numD_ins, w_is_int, w_is_number, wi_Ratio, w_as_ratio, w_top, w_bottom, w1r, w2r, lk_ex, wMeth, w_excess, w_lt, w_le, w_gt, w_raised, w_is_int_within, wLc, wLcE, wLcZ, wLcZ3, wLcT, wLcR, wYes, wipeD, Nat.zero_add, w_common_bottom, w_whole_bases, w_scaled, w_whole_values, w_first_levels, w_next_levels, w_whole_levels, w_ratios_of, w_bottom_at, w_lt, w_le, w_gt, wTruth, sForET, w_is_base, w_check_bases, w_check_row, w_check_place, lcStep]
      refine ⟨N, M, ps, qs, j.1 _ _ hb3, j.1 _ _ hv3, hp, hq, by omega, by omega, ?_⟩
      rw [show ((n : Int) + ((i : Nat) : Int)).toNat = n + i by omega]
      refine ⟨fits hp hq (by omega), ?_⟩
      refine map_next (Nat.le_refl _) j .refl ?_ (small_line (by unfold levP; simp; omega)) hn
      unfold levP
      rw [Nat.zero_add, List.getElem?_map, List.getElem?_map, List.getElem?_zipIdx, hL]
      simp only [Option.map_some, Nat.zero_add]
      rfl
    · intro S' j
      rw [Nat.zero_add, show (wholeP ps qs n).zipIdx.length = ((levP ps qs n).map rt).length by unfold levP; simp] at j
      refine ⟨_, (mutD j).2, ?_⟩
      rw [← lev_eq hp hq hl] at hQ
      exact hQ S' (((e1.trans e2).trans e3).trans (mutD j).1)
end
end K1
set_option Elab.async false
set_option linter.all false
set_option maxRecDepth 100000
set_option maxHeartbeats 0
namespace K1
open PySem PySem.Spec PyProof.Rows L2 DL
section
variable {P : Program} {w : World} {K : PySem.W.Frag} {mg : Str → Option Value} {base : Heap}
/-- a product by a number of one word -/
def CMulS (_ j : Int) : Prop := j.natAbs < 2 ^ 62
theorem op_mulS {X : Cx} : OpR X (binaryOp .Mult) (rI CMulS fun i j => .int (i * j)) := opI fun _ _ _ _ _ _ _ hc q => mul_int q (IntMulOk.of_right (by
  have h := lt_log2 (k := 62) (by decide) hc
  unfold Builtin.Int.intBits
  split <;> omega))
def iMulS : OInt := fun i j S Q => CMulS i j ∧ Q (.int (i * j)) S
theorem snd_iMulS {mg : MG} : SndR mg (rI CMulS fun i j => .int (i * j)) (oJust iMulS) := snd_justC fun _ _ _ _ => .int _

theorem fmod_pos {a b : Int} (h : 0 < b) : a.fmod b = a % b := Int.fmod_eq_emod_of_nonneg a (by omega)

theorem at1 {α : Type} {a b : α} {l : List α} : L2.atI (a :: b :: l) 1 = some b := by
  show (ixN (l.length + 1 + 1) 1).bind _ = _
  unfold ixN
  rw [if_pos (by decide), if_pos (by omega)]
  rfl
theorem at2 {α : Type} {a b c : α} {l : List α} : L2.atI (a :: b :: c :: l) 2 = some c := by
  show (ixN (l.length + 1 + 1 + 1) 2).bind _ = _
  unfold ixN
  rw [if_pos (by decide), if_pos (by omega)]
  rfl
theorem at0' {α : Type} {a : α} {l : List α} : L2.atI (a :: l) 0 = some a := by
  show (ixN (l.length + 1) 0).bind _ = _
  unfold ixN
  rw [if_pos (by decide), if_pos (by omega)]
  rfl

def AllI (xs : List D) : Prop := ∀ d ∈ xs, ∃ i : Int, d = .int i
theorem AllI.cut {xs : List D} (h : AllI xs) (lo hi : Option Int) : AllI (cutD xs lo hi) := fun d hd => h d (List.mem_of_mem_drop (List.mem_of_mem_take hd))
theorem AllI.at {xs : List D} (h : AllI xs) {k : Int} (h0 : 0 ≤ k) (h1 : k < xs.length) : ∃ i, L2.atI xs k = some (.int i) := by
  have hk : k.toNat < xs.length := by omega
  obtain ⟨i, hi⟩ := h xs[k.toNat] (List.getElem_mem _)
  refine ⟨i, ?_⟩
  have e : (k.toNat : Int) = k := by omega
  rw [← e]
  refine atI_nat ?_
  rw [List.getElem?_eq_getElem hk, hi]

abbrev MQ : Int := 2147483549
/-- the draws: the d-th list that may change -/
def Pu (S : MS) (d : Nat) (c : Int) : Prop := ∃ f s : Int, S[d]? = some [.int f, .int s, .int c] ∧ 0 ≤ f ∧ 0 ≤ s ∧ s < 2147483549
theorem modq (x : Int) : 0 ≤ x.fmod 2147483549 ∧ x.fmod 2147483549 < 2147483549 := by
  rw [fmod_pos (by decide)]
  omega
def oPow : OD := oI CPow fun i j => .int (i ^ j.toNat)

def w_purse : WF := fun ds S Q => match ds with
  | [.scr xs, .int k] => AllI xs ∧ (0 ≤ k ∧ k ≤ 100) ∧ ∀ d S', Pu S' d 0 → Ext S S' → Q (.mut d) S'
  | _ => False
theorem sc__law_purse : FnScope ["cells", "at", "cell", "seed", "other"] ["cells", "at"] (defScope s__law_purse) := ⟨rfl, rfl, rfl, by decide +kernel, rfl, by decide +kernel, by decide +kernel⟩
theorem ok__law_purse (T : Tx K mg) : FnOk P w K mg base CX0 1 T.f__law_purse T.fd__law_purse ["cells", "at"] (spW ⟨K, mg⟩ 2 w_purse) := by
  refine fnD (k := 0) T.F__law_purse sc__law_purse (fun cdv A outer s H E hr => ⟨_, (dss_cons (ds_set (i := 2) sc__law_purse.nd (d_if (dt_cmp op_lt snd_iLt (dv 1) (d_callB call_len_seq snd_len T.z_len (da_cons (dv 0) da_nil) (hv := bt_len)) (nomark _)) (d_ix (dv 0) (dv 1)) d_int))
  (dss_cons (ds_set (i := 3) sc__law_purse.nd (d_op op_modN snd_iMod (d_callTy call_int1 snd_int1 T.z_int (da_cons (d_op op_add snd_iAdd (d_op op_add snd_iAdd (d_op op_mulS snd_iMulS (dv 2) d_int) (d_op op_mulS snd_iMulS (dv 1) d_int)) d_int) da_nil) (hv := bt_int)) d_int))
  (dss_cons (ds_for PassesOwn.never rfl (d_if (dt_cmp op_ge snd_iGe (dv 1) (d_callB call_len_seq snd_len T.z_len (da_cons (dv 0) da_nil) (hv := bt_len)) (nomark _)) (d_cutTo (dv 0)) (d_lst da_nil)) (dg_name (i := 4) sc__law_purse.nd) (dss_one (ds_set (i := 3) sc__law_purse.nd (d_op op_modN snd_iMod (d_callTy call_int1 snd_int1 T.z_int (da_cons (d_op op_add snd_iAdd (d_op op_mulS snd_iMulS (dv 3) d_int) (dv 4)) da_nil) (hv := bt_int)) d_int))))
  (dss_one (ds_ret (d_lstM (da_cons (d_if (dt_cmp op_ge snd_iGe (d_callB call_abs snd_absI T.z_abs (da_cons (dv 2) da_nil) (hv := bt_abs)) (d_op op_pow (snd_rI fun _ _ _ _ => .int _) d_int d_int) (nomark _)) (d_callB call_abs snd_absI T.z_abs (da_cons (dv 2) da_nil) (hv := bt_abs)) d_int) (da_cons (dv 3) (da_cons d_int da_nil)))))))))⟩) (fun ds S Q hl h => ?_)
  match ds, h with
  | [.scr xs, .int k], ⟨hx, hk, h⟩ =>
    have pw : CPow 10 18 := ⟨by decide, by decide, by decide⟩
    have l3 : 3 ≤ sizeLine := by decide
    have fin : ∀ g s, 0 ≤ g → 0 ≤ s ∧ s < 2147483549 → Q (.mut S.length) (S ++ [[.int g, .int s, .int 0]]) := fun g s hg hs => h _ _ ⟨g, s, new_at, hg, hs.1, hs.2⟩ Ext.app
    have key : ∀ (cell : Int) (ys : List D), AllI ys → ∀ (s : Int) (o : Option D), 0 ≤ s ∧ s < 2147483549 → ∀ (step : D → DEnv → MS → (DEnv → MS → Prop) → Prop) (fn : DEnv → MS → Prop),
        (∀ (i s : Int) (o : Option D) (nx : DEnv → MS → Prop), 0 ≤ s ∧ s < 2147483549 → (∀ s', 0 ≤ s' ∧ s' < 2147483549 → nx [some (.scr xs), some (.int k), some (.int cell), some (.int s'), some (.int i)] S) → step (.int i) [some (.scr xs), some (.int k), some (.int cell), some (.int s), o] S nx) →
        (∀ s o, 0 ≤ s ∧ s < 2147483549 → fn [some (.scr xs), some (.int k), some (.int cell), some (.int s), o] S) → forD ys step fn [some (.scr xs), some (.int k), some (.int cell), some (.int s), o] S := by
      intro cell ys
      induction ys with
      | nil => intro _ s o hs step fn _ hf; exact hf s o hs
      | cons y ys ih =>
        intro hy s o hs step fn hst hf
        obtain ⟨i, rfl⟩ := hy y List.mem_cons_self
        exact hst i s o _ hs fun s' hs' => ih (fun d hd => hy d (List.mem_cons_of_mem _ hd)) s' (some (.int i)) hs' step fn hst hf
    have m1 : ∀ x : Int, CMulS x 69621 := fun _ => by show _ < _; decide
    have m2 : ∀ x : Int, CMulS x 40692 := fun _ => by show _ < _; decide
    have m3 : ∀ x : Int, CMulS x 45991 := fun _ => by show _ < _; decide
    have p18 : (10 : Int) ^ (18 : Int).toNat = 1000000000000000000 := by decide +kernel
    have done : ∀ (cell s : Int), 0 ≤ s ∧ s < 2147483549 → CPow 10 18 ∧ (if decide ((10 : Int) ^ (18 : Int).toNat ≤ if cell < 0 then -cell else cell) = true then 3 ≤ sizeLine ∧ Q (.mut S.length) (S ++ [[.int (if cell < 0 then -cell else cell), .int s, .int 0]]) else 3 ≤ sizeLine ∧ Q (.mut S.length) (S ++ [[.int 0, .int s, .int 0]])) := fun cell s hs => by
      refine ⟨pw, ?_⟩
      by_cases c : (10 : Int) ^ (18 : Int).toNat ≤ if cell < 0 then -cell else cell
      · exact ifT c ⟨l3, fin _ _ (by split <;> omega) hs⟩
      · exact ifF c ⟨l3, fin _ _ (by decide) hs⟩
    refine seqG fun R hR => ?_
    have rest : ∀ cell : Int, R ({ nx := fun _ S' => Q .non S', rt := Q } : DEnds) [some (.scr xs), some (.int k), some (.int cell), none, none] S := fun cell => by
      subst hR
      refine seqG fun R hR => ?_
      simp only [true_and, and_true, oU2, oUn1, oL1, oS1, oR1, oJust, iAdd, iSub, iMul, iFdiv, iMod, iEq, iNe, iLt, iLe, iGt, iGe, iNeg, iAbs, DL.iStr, wFmt, wJs, wJoined, sNext, sSeq, sDrop, sRet, sRetN, sIf, sAsg, sPar, wOp, wVar, wC, wUn, wCons, wNil, wCB, wCall, wMake, wMakeSw, wCallSw, wProp, wFld, oI, oI0, oU, wTest, wAnd, wOr, wNot, wAndV, wOrV, wNotV, wIf, wTup, wLst, wLstM, gwName, gwNil, gwCons, gwTup, gwSub, oIx, oInt1, oAbsI, oLen, oGcd, oDivmod, oMax2, oMin2, oIsi, tyOf, clOf, kt_ii, kt_ib, kt_rr, kt_ir, kt_ri, kt_rb, kt_ni, kt_bi, kt_bb, kt_si, kt_ti, kt_li, kt_di, kt_nr, kt_br, kt_sr, kt_tr, kt_lr, kt_dr, oStrI, if_t1, if_f1, Bool.not_true, Bool.not_false, rt, startD, List.map_cons, List.map_nil, List.length_cons, List.length_nil, List.cons_append, List.nil_append, List.getElem?_cons_zero, List.getElem?_cons_succ, List.set_cons_zero, List.set_cons_succ, List.replicate, Nat.reduceAdd, Nat.reduceSub, Nat.zero_add, Nat.sub_self, Nat.add_sub_cancel, kt_tt, wChain, sFor, sForR, forStep, gwLst, listD, wCut, wStar, oListM, oTupl, seqD, oLcm, wCallP3, p3rev, p3mid, wAppend, lk_top, lk_bot, w1, w2, numD_int, numD_ins, w_is_int, w_is_number, wi_Ratio, w_as_ratio, w_top, w_bottom, w1r, w2r, lk_ex, wMeth, w_excess, w_lt, w_le, w_gt, w_raised, w_is_int_within, wLc, wLcE, wLcZ, wLcZ3, wLcT, wLcR, wYes, wipeD, Nat.zero_add, w_common_bottom, w_whole_bases, w_scaled, w_whole_values, w_first_levels, w_next_levels, w_whole_levels, w_ratios_of, w_bottom_at, w_lt, w_le, w_gt, wTruth, sForET, w_is_base, w_check_bases, w_check_row, w_check_place, w_value_at, w_levels_at, iMulS, wCutTo, at0', at1, at2, oPow]
      refine ⟨m1 _, m2 _, by decide, ?_⟩
      have hs := modq (cell * 69621 + k * 40692 + 10007)
      generalize (cell * 69621 + k * 40692 + 10007).fmod 2147483549 = s at hs ⊢
      subst hR
      have fn : ∀ (s : Int) (o : Option D), 0 ≤ s ∧ s < 2147483549 → sRet (wLstM (wCons (wIf (wTest (wOp (oJust iGe) (wCB oAbsI (wCons (wVar 2) wNil)) (wOp oPow (wC (D.int 10)) (wC (D.int 18))))) (wCB oAbsI (wCons (wVar 2) wNil)) (wC (D.int 0))) (wCons (wVar 3) (wCons (wC (D.int 0)) wNil)))) ({ nx := fun _ S' => Q .non S', rt := Q } : DEnds) [some (.scr xs), some (.int k), some (.int cell), some (.int s), o] S := fun s o hs => by
        simp only [true_and, and_true, oU2, oUn1, oL1, oS1, oR1, oJust, iAdd, iSub, iMul, iFdiv, iMod, iEq, iNe, iLt, iLe, iGt, iGe, iNeg, iAbs, DL.iStr, wFmt, wJs, wJoined, sNext, sSeq, sDrop, sRet, sRetN, sIf, sAsg, sPar, wOp, wVar, wC, wUn, wCons, wNil, wCB, wCall, wMake, wMakeSw, wCallSw, wProp, wFld, oI, oI0, oU, wTest, wAnd, wOr, wNot, wAndV, wOrV, wNotV, wIf, wTup, wLst, wLstM, gwName, gwNil, gwCons, gwTup, gwSub, oIx, oInt1, oAbsI, oLen, oGcd, oDivmod, oMax2, oMin2, oIsi, tyOf, clOf, kt_ii, kt_ib, kt_rr, kt_ir, kt_ri, kt_rb, kt_ni, kt_bi, kt_bb, kt_si, kt_ti, kt_li, kt_di, kt_nr, kt_br, kt_sr, kt_tr, kt_lr, kt_dr, oStrI, if_t1, if_f1, Bool.not_true, Bool.not_false, rt, startD, List.map_cons, List.map_nil, List.length_cons, List.length_nil, List.cons_append, List.nil_append, List.getElem?_cons_zero, List.getElem?_cons_succ, List.set_cons_zero, List.set_cons_succ, List.replicate, Nat.reduceAdd, Nat.reduceSub, Nat.zero_add, Nat.sub_self, Nat.add_sub_cancel, kt_tt, wChain, sFor, sForR, forStep, gwLst, listD, wCut, wStar, oListM, oTupl, seqD, oLcm, wCallP3, p3rev, p3mid, wAppend, lk_top, lk_bot, w1, w2, numD_int, numD_ins, w_is_int, w_is_number, wi_Ratio, w_as_ratio, w_top, w_bottom, w1r, w2r, lk_ex, wMeth, w_excess, w_lt, w_le, w_gt, w_raised, w_is_int_within, wLc, wLcE, wLcZ, wLcZ3, wLcT, wLcR, wYes, wipeD, Nat.zero_add, w_common_bottom, w_whole_bases, w_scaled, w_whole_values, w_first_levels, w_next_levels, w_whole_levels, w_ratios_of, w_bottom_at, w_lt, w_le, w_gt, wTruth, sForET, w_is_base, w_check_bases, w_check_row, w_check_place, w_value_at, w_levels_at, iMulS, wCutTo, at0', at1, at2, oPow]
        exact done cell s hs
      refine seqG fun R hR => ?_
      by_cases hl : k < (xs.length : Int)
      · simp only [true_and, and_true, oU2, oUn1, oL1, oS1, oR1, oJust, iAdd, iSub, iMul, iFdiv, iMod, iEq, iNe, iLt, iLe, iGt, iGe, iNeg, iAbs, DL.iStr, wFmt, wJs, wJoined, sNext, sSeq, sDrop, sRet, sRetN, sIf, sAsg, sPar, wOp, wVar, wC, wUn, wCons, wNil, wCB, wCall, wMake, wMakeSw, wCallSw, wProp, wFld, oI, oI0, oU, wTest, wAnd, wOr, wNot, wAndV, wOrV, wNotV, wIf, wTup, wLst, wLstM, gwName, gwNil, gwCons, gwTup, gwSub, oIx, oInt1, oAbsI, oLen, oGcd, oDivmod, oMax2, oMin2, oIsi, tyOf, clOf, kt_ii, kt_ib, kt_rr, kt_ir, kt_ri, kt_rb, kt_ni, kt_bi, kt_bb, kt_si, kt_ti, kt_li, kt_di, kt_nr, kt_br, kt_sr, kt_tr, kt_lr, kt_dr, oStrI, if_t1, if_f1, Bool.not_true, Bool.not_false, rt, startD, List.map_cons, List.map_nil, List.length_cons, List.length_nil, List.cons_append, List.nil_append, List.getElem?_cons_zero, List.getElem?_cons_succ, List.set_cons_zero, List.set_cons_succ, List.replicate, Nat.reduceAdd, Nat.reduceSub, Nat.zero_add, Nat.sub_self, Nat.add_sub_cancel, kt_tt, wChain, sFor, sForR, forStep, gwLst, listD, wCut, wStar, oListM, oTupl, seqD, oLcm, wCallP3, p3rev, p3mid, wAppend, lk_top, lk_bot, w1, w2, numD_int, numD_ins, w_is_int, w_is_number, wi_Ratio, w_as_ratio, w_top, w_bottom, w1r, w2r, lk_ex, wMeth, w_excess, w_lt, w_le, w_gt, w_raised, w_is_int_within, wLc, wLcE, wLcZ, wLcZ3, wLcT, wLcR, wYes, wipeD, Nat.zero_add, w_common_bottom, w_whole_bases, w_scaled, w_whole_values, w_first_levels, w_next_levels, w_whole_levels, w_ratios_of, w_bottom_at, w_lt, w_le, w_gt, wTruth, sForET, w_is_base, w_check_bases, w_check_row, w_check_place, w_value_at, w_levels_at, iMulS, wCutTo, at0', at1, at2, oPow]
        refine ifF (by omega) ⟨Nat.zero_le _, ?_⟩
        subst hR
        exact fn s none hs
      · simp only [true_and, and_true, oU2, oUn1, oL1, oS1, oR1, oJust, iAdd, iSub, iMul, iFdiv, iMod, iEq, iNe, iLt, iLe, iGt, iGe, iNeg, iAbs, DL.iStr, wFmt, wJs, wJoined, sNext, sSeq, sDrop, sRet, sRetN, sIf, sAsg, sPar, wOp, wVar, wC, wUn, wCons, wNil, wCB, wCall, wMake, wMakeSw, wCallSw, wProp, wFld, oI, oI0, oU, wTest, wAnd, wOr, wNot, wAndV, wOrV, wNotV, wIf, wTup, wLst, wLstM, gwName, gwNil, gwCons, gwTup, gwSub, oIx, oInt1, oAbsI, oLen, oGcd, oDivmod, oMax2, oMin2, oIsi, tyOf, clOf, kt_ii, kt_ib, kt_rr, kt_ir, kt_ri, kt_rb, kt_ni, kt_bi, kt_bb, kt_si, kt_ti, kt_li, kt_di, kt_nr, kt_br, kt_sr, kt_tr, kt_lr, kt_dr, oStrI, if_t1, if_f1, Bool.not_true, Bool.not_false, rt, startD, List.map_cons, List.map_nil, List.length_cons, List.length_nil, List.cons_append, List.nil_append, List.getElem?_cons_zero, List.getElem?_cons_succ, List.set_cons_zero, List.set_cons_succ, List.replicate, Nat.reduceAdd, Nat.reduceSub, Nat.zero_add, Nat.sub_self, Nat.add_sub_cancel, kt_tt, wChain, sFor, sForR, forStep, gwLst, listD, wCut, wStar, oListM, oTupl, seqD, oLcm, wCallP3, p3rev, p3mid, wAppend, lk_top, lk_bot, w1, w2, numD_int, numD_ins, w_is_int, w_is_number, wi_Ratio, w_as_ratio, w_top, w_bottom, w1r, w2r, lk_ex, wMeth, w_excess, w_lt, w_le, w_gt, w_raised, w_is_int_within, wLc, wLcE, wLcZ, wLcZ3, wLcT, wLcR, wYes, wipeD, Nat.zero_add, w_common_bottom, w_whole_bases, w_scaled, w_whole_values, w_first_levels, w_next_levels, w_whole_levels, w_ratios_of, w_bottom_at, w_lt, w_le, w_gt, wTruth, sForET, w_is_base, w_check_bases, w_check_row, w_check_place, w_value_at, w_levels_at, iMulS, wCutTo, at0', at1, at2, oPow]
        refine ifT (by omega) ?_
        refine key cell _ (hx.cut _ _) _ _ hs _ _ (fun i s o nx hs hn => ?_) (fun s o hs => ?_)
        · simp only [true_and, and_true, oU2, oUn1, oL1, oS1, oR1, oJust, iAdd, iSub, iMul, iFdiv, iMod, iEq, iNe, iLt, iLe, iGt, iGe, iNeg, iAbs, DL.iStr, wFmt, wJs, wJoined, sNext, sSeq, sDrop, sRet, sRetN, sIf, sAsg, sPar, wOp, wVar, wC, wUn, wCons, wNil, wCB, wCall, wMake, wMakeSw, wCallSw, wProp, wFld, oI, oI0, oU, wTest, wAnd, wOr, wNot, wAndV, wOrV, wNotV, wIf, wTup, wLst, wLstM, gwName, gwNil, gwCons, gwTup, gwSub, oIx, oInt1, oAbsI, oLen, oGcd, oDivmod, oMax2, oMin2, oIsi, tyOf, clOf, kt_ii, kt_ib, kt_rr, kt_ir, kt_ri, kt_rb, kt_ni, kt_bi, kt_bb, kt_si, kt_ti, kt_li, kt_di, kt_nr, kt_br, kt_sr, kt_tr, kt_lr, kt_dr, oStrI, if_t1, if_f1, Bool.not_true, Bool.not_false, rt, startD, List.map_cons, List.map_nil, List.length_cons, List.length_nil, List.cons_append, List.nil_append, List.getElem?_cons_zero, List.getElem?_cons_succ, List.set_cons_zero, List.set_cons_succ, List.replicate, Nat.reduceAdd, Nat.reduceSub, Nat.zero_add, Nat.sub_self, Nat.add_sub_cancel, kt_tt, wChain, sFor, sForR, forStep, gwLst, listD, wCut, wStar, oListM, oTupl, seqD, oLcm, wCallP3, p3rev, p3mid, wAppend, lk_top, lk_bot, w1, w2, numD_int, numD_ins, w_is_int, w_is_number, wi_Ratio, w_as_ratio, w_top, w_bottom, w1r, w2r, lk_ex, wMeth, w_excess, w_lt, w_le, w_gt, w_raised, w_is_int_within, wLc, wLcE, wLcZ, wLcZ3, wLcT, wLcR, wYes, wipeD, Nat.zero_add, w_common_bottom, w_whole_bases, w_scaled, w_whole_values, w_first_levels, w_next_levels, w_whole_levels, w_ratios_of, w_bottom_at, w_lt, w_le, w_gt, wTruth, sForET, w_is_base, w_check_bases, w_check_row, w_check_place, w_value_at, w_levels_at, iMulS, wCutTo, at0', at1, at2, oPow]
          exact ⟨m3 _, by decide, hn _ (modq _)⟩
        · subst hR
          exact fn s o hs
    simp only [true_and, and_true, oU2, oUn1, oL1, oS1, oR1, oJust, iAdd, iSub, iMul, iFdiv, iMod, iEq, iNe, iLt, iLe, iGt, iGe, iNeg, iAbs, DL.iStr, wFmt, wJs, wJoined, sNext, sSeq, sDrop, sRet, sRetN, sIf, sAsg, sPar, wOp, wVar, wC, wUn, wCons, wNil, wCB, wCall, wMake, wMakeSw, wCallSw, wProp, wFld, oI, oI0, oU, wTest, wAnd, wOr, wNot, wAndV, wOrV, wNotV, wIf, wTup, wLst, wLstM, gwName, gwNil, gwCons, gwTup, gwSub, oIx, oInt1, oAbsI, oLen, oGcd, oDivmod, oMax2, oMin2, oIsi, tyOf, clOf, kt_ii, kt_ib, kt_rr, kt_ir, kt_ri, kt_rb, kt_ni, kt_bi, kt_bb, kt_si, kt_ti, kt_li, kt_di, kt_nr, kt_br, kt_sr, kt_tr, kt_lr, kt_dr, oStrI, if_t1, if_f1, Bool.not_true, Bool.not_false, rt, startD, List.map_cons, List.map_nil, List.length_cons, List.length_nil, List.cons_append, List.nil_append, List.getElem?_cons_zero, List.getElem?_cons_succ, List.set_cons_zero, List.set_cons_succ, List.replicate, Nat.reduceAdd, Nat.reduceSub, Nat.zero_add, Nat.sub_self, Nat.add_sub_cancel, kt_tt, wChain, sFor, sForR, forStep, gwLst, listD, wCut, wStar, oListM, oTupl, seqD, oLcm, wCallP3, p3rev, p3mid, wAppend, lk_top, lk_bot, w1, w2, numD_int, numD_ins, w_is_int, w_is_number, wi_Ratio, w_as_ratio, w_top, w_bottom, w1r, w2r, lk_ex, wMeth, w_excess, w_lt, w_le, w_gt, w_raised, w_is_int_within, wLc, wLcE, wLcZ, wLcZ3, wLcT, wLcR, wYes, wipeD, Nat.zero_add, w_common_bottom, w_whole_bases, w_scaled, w_whole_values, w_first_levels, w_next_levels, w_whole_levels, w_ratios_of, w_bottom_at, w_lt, w_le, w_gt, wTruth, sForET, w_is_base, w_check_bases, w_check_row, w_check_place, w_value_at, w_levels_at, iMulS, wCutTo, at0', at1, at2, oPow]
    by_cases hl : k < (xs.length : Int)
    · rw [decide_eq_true hl]
      simp only [true_and, and_true, oU2, oUn1, oL1, oS1, oR1, oJust, iAdd, iSub, iMul, iFdiv, iMod, iEq, iNe, iLt, iLe, iGt, iGe, iNeg, iAbs, DL.iStr, wFmt, wJs, wJoined, sNext, sSeq, sDrop, sRet, sRetN, sIf, sAsg, sPar, wOp, wVar, wC, wUn, wCons, wNil, wCB, wCall, wMake, wMakeSw, wCallSw, wProp, wFld, oI, oI0, oU, wTest, wAnd, wOr, wNot, wAndV, wOrV, wNotV, wIf, wTup, wLst, wLstM, gwName, gwNil, gwCons, gwTup, gwSub, oIx, oInt1, oAbsI, oLen, oGcd, oDivmod, oMax2, oMin2, oIsi, tyOf, clOf, kt_ii, kt_ib, kt_rr, kt_ir, kt_ri, kt_rb, kt_ni, kt_bi, kt_bb, kt_si, kt_ti, kt_li, kt_di, kt_nr, kt_br, kt_sr, kt_tr, kt_lr, kt_dr, oStrI, if_t1, if_f1, Bool.not_true, Bool.not_false, rt, startD, List.map_cons, List.map_nil, List.length_cons, List.length_nil, List.cons_append, List.nil_append, List.getElem?_cons_zero, List.getElem?_cons_succ, List.set_cons_zero, List.set_cons_succ, List.replicate, Nat.reduceAdd, Nat.reduceSub, Nat.zero_add, Nat.sub_self, Nat.add_sub_cancel, kt_tt, wChain, sFor, sForR, forStep, gwLst, listD, wCut, wStar, oListM, oTupl, seqD, oLcm, wCallP3, p3rev, p3mid, wAppend, lk_top, lk_bot, w1, w2, numD_int, numD_ins, w_is_int, w_is_number, wi_Ratio, w_as_ratio, w_top, w_bottom, w1r, w2r, lk_ex, wMeth, w_excess, w_lt, w_le, w_gt, w_raised, w_is_int_within, wLc, wLcE, wLcZ, wLcZ3, wLcT, wLcR, wYes, wipeD, Nat.zero_add, w_common_bottom, w_whole_bases, w_scaled, w_whole_values, w_first_levels, w_next_levels, w_whole_levels, w_ratios_of, w_bottom_at, w_lt, w_le, w_gt, wTruth, sForET, w_is_base, w_check_bases, w_check_row, w_check_place, w_value_at, w_levels_at, iMulS, wCutTo, at0', at1, at2, oPow]
      obtain ⟨i, hi⟩ := hx.at hk.1 hl
      rw [hi]
      exact rest i
    · rw [decide_eq_false hl]
      simp only [true_and, and_true, oU2, oUn1, oL1, oS1, oR1, oJust, iAdd, iSub, iMul, iFdiv, iMod, iEq, iNe, iLt, iLe, iGt, iGe, iNeg, iAbs, DL.iStr, wFmt, wJs, wJoined, sNext, sSeq, sDrop, sRet, sRetN, sIf, sAsg, sPar, wOp, wVar, wC, wUn, wCons, wNil, wCB, wCall, wMake, wMakeSw, wCallSw, wProp, wFld, oI, oI0, oU, wTest, wAnd, wOr, wNot, wAndV, wOrV, wNotV, wIf, wTup, wLst, wLstM, gwName, gwNil, gwCons, gwTup, gwSub, oIx, oInt1, oAbsI, oLen, oGcd, oDivmod, oMax2, oMin2, oIsi, tyOf, clOf, kt_ii, kt_ib, kt_rr, kt_ir, kt_ri, kt_rb, kt_ni, kt_bi, kt_bb, kt_si, kt_ti, kt_li, kt_di, kt_nr, kt_br, kt_sr, kt_tr, kt_lr, kt_dr, oStrI, if_t1, if_f1, Bool.not_true, Bool.not_false, rt, startD, List.map_cons, List.map_nil, List.length_cons, List.length_nil, List.cons_append, List.nil_append, List.getElem?_cons_zero, List.getElem?_cons_succ, List.set_cons_zero, List.set_cons_succ, List.replicate, Nat.reduceAdd, Nat.reduceSub, Nat.zero_add, Nat.sub_self, Nat.add_sub_cancel, kt_tt, wChain, sFor, sForR, forStep, gwLst, listD, wCut, wStar, oListM, oTupl, seqD, oLcm, wCallP3, p3rev, p3mid, wAppend, lk_top, lk_bot, w1, w2, numD_int, numD_ins, w_is_int, w_is_number, wi_Ratio, w_as_ratio, w_top, w_bottom, w1r, w2r, lk_ex, wMeth, w_excess, w_lt, w_le, w_gt, w_raised, w_is_int_within, wLc, wLcE, wLcZ, wLcZ3, wLcT, wLcR, wYes, wipeD, Nat.zero_add, w_common_bottom, w_whole_bases, w_scaled, w_whole_values, w_first_levels, w_next_levels, w_whole_levels, w_ratios_of, w_bottom_at, w_lt, w_le, w_gt, wTruth, sForET, w_is_base, w_check_bases, w_check_row, w_check_place, w_value_at, w_levels_at, iMulS, wCutTo, at0', at1, at2, oPow]
      exact rest 0
def w_take : WF := fun ds S Q => match ds with
  | [.mut d, .int many] => ∃ c, Pu S d c ∧ (0 ≤ c ∧ c ≤ 100000) ∧ (0 < many ∧ many.natAbs < 2 ^ 1000) ∧ ∀ k S', 0 ≤ k → k < many → Pu S' d (c + 1) → ExtB d S S' → Q (.int k) S'
  | _ => False
theorem sc__law_take : FnScope ["draws", "many", "figures", "seed", "turn"] ["draws", "many"] (defScope s__law_take) := ⟨rfl, rfl, rfl, by decide +kernel, rfl, by decide +kernel, by decide +kernel⟩
theorem ok__law_take (T : Tx K mg) : FnOk P w K mg base CX0 1 T.f__law_take T.fd__law_take ["draws", "many"] (spW ⟨K, mg⟩ 2 w_take) := by
  refine fnD (k := 0) T.F__law_take sc__law_take (fun cdv A outer s H E hr => ⟨_, (dss_cons (ds_asg (dv 0) (dg_lst (n := 3) rfl (dgs_cons (dg_name (i := 2) sc__law_take.nd) (dgs_cons (dg_name (i := 3) sc__law_take.nd) (dgs_cons (dg_name (i := 4) sc__law_take.nd) dgs_nil)))))
  (dss_cons (ds_asg (d_op op_modN snd_iMod (d_callTy call_int1 snd_int1 T.z_int (da_cons (d_op op_add snd_iAdd (d_op op_add snd_iAdd (d_op op_mulS snd_iMulS (dv 3) (d_op op_add snd_iAdd d_int (d_op op_mulS snd_iMulS d_int (dv 4)))) (d_op op_mulS snd_iMulS d_int (dv 4))) d_int) da_nil) (hv := bt_int)) d_int) (dg_sub (dv 0) d_int))
  (dss_cons (ds_asg (d_op op_add snd_iAdd (dv 4) d_int) (dg_sub (dv 0) d_int))
  (dss_cons (ds_if (dt_cmp op_gt snd_iGt (dv 2) d_int (nomark _)) (dss_cons (ds_asg (d_op op_fdivWN snd_iFdiv (d_callTy call_int1 snd_int1 T.z_int (da_cons (dv 2) da_nil) (hv := bt_int)) (dv 1)) (dg_sub (dv 0) d_int))
  (dss_one (ds_ret (d_op op_modN snd_iMod (d_callTy call_int1 snd_int1 T.z_int (da_cons (dv 2) da_nil) (hv := bt_int)) (dv 1))))) dss_nil)
  (dss_one (ds_ret (d_op op_modN snd_iMod (d_callTy call_int1 snd_int1 T.z_int (da_cons (d_op op_fdivWN snd_iFdiv (d_ix (dv 0) d_int) d_int) da_nil) (hv := bt_int)) (dv 1))))))))⟩) (fun ds S Q hl h => ?_)
  match ds, h with
  | [.mut d, .int many], ⟨c, ⟨g, s, hS, hg, hs0, hs1⟩, hc, ⟨hm0, hm1⟩, h⟩ =>
    have mm : ∀ (x y : Int), y.natAbs < 2 ^ 62 → CMulS x y := fun _ _ h => h
    simp only [true_and, and_true, oU2, oUn1, oL1, oS1, oR1, oJust, iAdd, iSub, iMul, iFdiv, iMod, iEq, iNe, iLt, iLe, iGt, iGe, iNeg, iAbs, DL.iStr, wFmt, wJs, wJoined, sNext, sSeq, sDrop, sRet, sRetN, sIf, sAsg, sPar, wOp, wVar, wC, wUn, wCons, wNil, wCB, wCall, wMake, wMakeSw, wCallSw, wProp, wFld, oI, oI0, oU, wTest, wAnd, wOr, wNot, wAndV, wOrV, wNotV, wIf, wTup, wLst, wLstM, gwName, gwNil, gwCons, gwTup, gwSub, oIx, oInt1, oAbsI, oLen, oGcd, oDivmod, oMax2, oMin2, oIsi, tyOf, clOf, kt_ii, kt_ib, kt_rr, kt_ir, kt_ri, kt_rb, kt_ni, kt_bi, kt_bb, kt_si, kt_ti, kt_li, kt_di, kt_nr, kt_br, kt_sr, kt_tr, kt_lr, kt_dr, oStrI, if_t1, if_f1, Bool.not_true, Bool.not_false, rt, startD, List.map_cons, List.map_nil, List.length_cons, List.length_nil, List.cons_append, List.nil_append, List.getElem?_cons_zero, List.getElem?_cons_succ, List.set_cons_zero, List.set_cons_succ, List.replicate, Nat.reduceAdd, Nat.reduceSub, Nat.zero_add, Nat.sub_self, Nat.add_sub_cancel, kt_tt, wChain, sFor, sForR, forStep, gwLst, listD, wCut, wStar, oListM, oTupl, seqD, oLcm, wCallP3, p3rev, p3mid, wAppend, lk_top, lk_bot, w1, w2, numD_int, numD_ins, w_is_int, w_is_number, wi_Ratio, w_as_ratio, w_top, w_bottom, w1r, w2r, lk_ex, wMeth, w_excess, w_lt, w_le, w_gt, w_raised, w_is_int_within, wLc, wLcE, wLcZ, wLcZ3, wLcT, wLcR, wYes, wipeD, Nat.zero_add, w_common_bottom, w_whole_bases, w_scaled, w_whole_values, w_first_levels, w_next_levels, w_whole_levels, w_ratios_of, w_bottom_at, w_lt, w_le, w_gt, wTruth, sForET, w_is_base, w_check_bases, w_check_row, w_check_place, w_value_at, w_levels_at, iMulS, wCutTo, at0', at1, at2, oPow]
    refine ⟨_, hS, rfl, ?_⟩
    simp only [true_and, and_true, oU2, oUn1, oL1, oS1, oR1, oJust, iAdd, iSub, iMul, iFdiv, iMod, iEq, iNe, iLt, iLe, iGt, iGe, iNeg, iAbs, DL.iStr, wFmt, wJs, wJoined, sNext, sSeq, sDrop, sRet, sRetN, sIf, sAsg, sPar, wOp, wVar, wC, wUn, wCons, wNil, wCB, wCall, wMake, wMakeSw, wCallSw, wProp, wFld, oI, oI0, oU, wTest, wAnd, wOr, wNot, wAndV, wOrV, wNotV, wIf, wTup, wLst, wLstM, gwName, gwNil, gwCons, gwTup, gwSub, oIx, oInt1, oAbsI, oLen, oGcd, oDivmod, oMax2, oMin2, oIsi, tyOf, clOf, kt_ii, kt_ib, kt_rr, kt_ir, kt_ri, kt_rb, kt_ni, kt_bi, kt_bb, kt_si, kt_ti, kt_li, kt_di, kt_nr, kt_br, kt_sr, kt_tr, kt_lr, kt_dr, oStrI, if_t1, if_f1, Bool.not_true, Bool.not_false, rt, startD, List.map_cons, List.map_nil, List.length_cons, List.length_nil, List.cons_append, List.nil_append, List.getElem?_cons_zero, List.getElem?_cons_succ, List.set_cons_zero, List.set_cons_succ, List.replicate, Nat.reduceAdd, Nat.reduceSub, Nat.zero_add, Nat.sub_self, Nat.add_sub_cancel, kt_tt, wChain, sFor, sForR, forStep, gwLst, listD, wCut, wStar, oListM, oTupl, seqD, oLcm, wCallP3, p3rev, p3mid, wAppend, lk_top, lk_bot, w1, w2, numD_int, numD_ins, w_is_int, w_is_number, wi_Ratio, w_as_ratio, w_top, w_bottom, w1r, w2r, lk_ex, wMeth, w_excess, w_lt, w_le, w_gt, w_raised, w_is_int_within, wLc, wLcE, wLcZ, wLcZ3, wLcT, wLcR, wYes, wipeD, Nat.zero_add, w_common_bottom, w_whole_bases, w_scaled, w_whole_values, w_first_levels, w_next_levels, w_whole_levels, w_ratios_of, w_bottom_at, w_lt, w_le, w_gt, wTruth, sForET, w_is_base, w_check_bases, w_check_row, w_check_place, w_value_at, w_levels_at, iMulS, wCutTo, at0', at1, at2, oPow]
    refine ⟨mm _ _ (by omega), mm _ _ (by omega), mm _ _ (by omega), by decide, ?_⟩
    rw [hS]
    refine ⟨_, 1, rfl, rfl, ?_⟩
    simp only [true_and, and_true, oU2, oUn1, oL1, oS1, oR1, oJust, iAdd, iSub, iMul, iFdiv, iMod, iEq, iNe, iLt, iLe, iGt, iGe, iNeg, iAbs, DL.iStr, wFmt, wJs, wJoined, sNext, sSeq, sDrop, sRet, sRetN, sIf, sAsg, sPar, wOp, wVar, wC, wUn, wCons, wNil, wCB, wCall, wMake, wMakeSw, wCallSw, wProp, wFld, oI, oI0, oU, wTest, wAnd, wOr, wNot, wAndV, wOrV, wNotV, wIf, wTup, wLst, wLstM, gwName, gwNil, gwCons, gwTup, gwSub, oIx, oInt1, oAbsI, oLen, oGcd, oDivmod, oMax2, oMin2, oIsi, tyOf, clOf, kt_ii, kt_ib, kt_rr, kt_ir, kt_ri, kt_rb, kt_ni, kt_bi, kt_bb, kt_si, kt_ti, kt_li, kt_di, kt_nr, kt_br, kt_sr, kt_tr, kt_lr, kt_dr, oStrI, if_t1, if_f1, Bool.not_true, Bool.not_false, rt, startD, List.map_cons, List.map_nil, List.length_cons, List.length_nil, List.cons_append, List.nil_append, List.getElem?_cons_zero, List.getElem?_cons_succ, List.set_cons_zero, List.set_cons_succ, List.replicate, Nat.reduceAdd, Nat.reduceSub, Nat.zero_add, Nat.sub_self, Nat.add_sub_cancel, kt_tt, wChain, sFor, sForR, forStep, gwLst, listD, wCut, wStar, oListM, oTupl, seqD, oLcm, wCallP3, p3rev, p3mid, wAppend, lk_top, lk_bot, w1, w2, numD_int, numD_ins, w_is_int, w_is_number, wi_Ratio, w_as_ratio, w_top, w_bottom, w1r, w2r, lk_ex, wMeth, w_excess, w_lt, w_le, w_gt, w_raised, w_is_int_within, wLc, wLcE, wLcZ, wLcZ3, wLcT, wLcR, wYes, wipeD, Nat.zero_add, w_common_bottom, w_whole_bases, w_scaled, w_whole_values, w_first_levels, w_next_levels, w_whole_levels, w_ratios_of, w_bottom_at, w_lt, w_le, w_gt, wTruth, sForET, w_is_base, w_check_bases, w_check_row, w_check_place, w_value_at, w_levels_at, iMulS, wCutTo, at0', at1, at2, oPow]
    generalize hs2 : (s * (50027 + 6 * c) + 12347 * c + 12358).fmod 2147483549 = s2
    have s21 : 0 ≤ s2 ∧ s2 < 2147483549 := by rw [← hs2]; exact modq _
    have hA := set_at (x := [D.int g, .int s2, .int c]) hS
    have oA : ExtB d S (S.set d [D.int g, .int s2, .int c]) := ExtB.refl.setD
    generalize S.set d [D.int g, .int s2, .int c] = S1 at hA oA ⊢
    refine ⟨_, 2, hA, rfl, ?_⟩
    simp only [true_and, and_true, oU2, oUn1, oL1, oS1, oR1, oJust, iAdd, iSub, iMul, iFdiv, iMod, iEq, iNe, iLt, iLe, iGt, iGe, iNeg, iAbs, DL.iStr, wFmt, wJs, wJoined, sNext, sSeq, sDrop, sRet, sRetN, sIf, sAsg, sPar, wOp, wVar, wC, wUn, wCons, wNil, wCB, wCall, wMake, wMakeSw, wCallSw, wProp, wFld, oI, oI0, oU, wTest, wAnd, wOr, wNot, wAndV, wOrV, wNotV, wIf, wTup, wLst, wLstM, gwName, gwNil, gwCons, gwTup, gwSub, oIx, oInt1, oAbsI, oLen, oGcd, oDivmod, oMax2, oMin2, oIsi, tyOf, clOf, kt_ii, kt_ib, kt_rr, kt_ir, kt_ri, kt_rb, kt_ni, kt_bi, kt_bb, kt_si, kt_ti, kt_li, kt_di, kt_nr, kt_br, kt_sr, kt_tr, kt_lr, kt_dr, oStrI, if_t1, if_f1, Bool.not_true, Bool.not_false, rt, startD, List.map_cons, List.map_nil, List.length_cons, List.length_nil, List.cons_append, List.nil_append, List.getElem?_cons_zero, List.getElem?_cons_succ, List.set_cons_zero, List.set_cons_succ, List.replicate, Nat.reduceAdd, Nat.reduceSub, Nat.zero_add, Nat.sub_self, Nat.add_sub_cancel, kt_tt, wChain, sFor, sForR, forStep, gwLst, listD, wCut, wStar, oListM, oTupl, seqD, oLcm, wCallP3, p3rev, p3mid, wAppend, lk_top, lk_bot, w1, w2, numD_int, numD_ins, w_is_int, w_is_number, wi_Ratio, w_as_ratio, w_top, w_bottom, w1r, w2r, lk_ex, wMeth, w_excess, w_lt, w_le, w_gt, w_raised, w_is_int_within, wLc, wLcE, wLcZ, wLcZ3, wLcT, wLcR, wYes, wipeD, Nat.zero_add, w_common_bottom, w_whole_bases, w_scaled, w_whole_values, w_first_levels, w_next_levels, w_whole_levels, w_ratios_of, w_bottom_at, w_lt, w_le, w_gt, wTruth, sForET, w_is_base, w_check_bases, w_check_row, w_check_place, w_value_at, w_levels_at, iMulS, wCutTo, at0', at1, at2, oPow]
    have hB := set_at (x := [D.int g, .int s2, .int (c + 1)]) hA
    have oB : ExtB d S (S1.set d [D.int g, .int s2, .int (c + 1)]) := oA.setD
    generalize S1.set d [D.int g, .int s2, .int (c + 1)] = S2 at hB oB ⊢
    by_cases g0 : 0 < g
    · refine ifT g0 ?_
      refine ⟨⟨by omega, Nat.lt_trans (lt_log2 (k := 1000) (by decide) hm1) (by decide)⟩, _, 0, hB, rfl, ?_⟩
      simp only [true_and, and_true, oU2, oUn1, oL1, oS1, oR1, oJust, iAdd, iSub, iMul, iFdiv, iMod, iEq, iNe, iLt, iLe, iGt, iGe, iNeg, iAbs, DL.iStr, wFmt, wJs, wJoined, sNext, sSeq, sDrop, sRet, sRetN, sIf, sAsg, sPar, wOp, wVar, wC, wUn, wCons, wNil, wCB, wCall, wMake, wMakeSw, wCallSw, wProp, wFld, oI, oI0, oU, wTest, wAnd, wOr, wNot, wAndV, wOrV, wNotV, wIf, wTup, wLst, wLstM, gwName, gwNil, gwCons, gwTup, gwSub, oIx, oInt1, oAbsI, oLen, oGcd, oDivmod, oMax2, oMin2, oIsi, tyOf, clOf, kt_ii, kt_ib, kt_rr, kt_ir, kt_ri, kt_rb, kt_ni, kt_bi, kt_bb, kt_si, kt_ti, kt_li, kt_di, kt_nr, kt_br, kt_sr, kt_tr, kt_lr, kt_dr, oStrI, if_t1, if_f1, Bool.not_true, Bool.not_false, rt, startD, List.map_cons, List.map_nil, List.length_cons, List.length_nil, List.cons_append, List.nil_append, List.getElem?_cons_zero, List.getElem?_cons_succ, List.set_cons_zero, List.set_cons_succ, List.replicate, Nat.reduceAdd, Nat.reduceSub, Nat.zero_add, Nat.sub_self, Nat.add_sub_cancel, kt_tt, wChain, sFor, sForR, forStep, gwLst, listD, wCut, wStar, oListM, oTupl, seqD, oLcm, wCallP3, p3rev, p3mid, wAppend, lk_top, lk_bot, w1, w2, numD_int, numD_ins, w_is_int, w_is_number, wi_Ratio, w_as_ratio, w_top, w_bottom, w1r, w2r, lk_ex, wMeth, w_excess, w_lt, w_le, w_gt, w_raised, w_is_int_within, wLc, wLcE, wLcZ, wLcZ3, wLcT, wLcR, wYes, wipeD, Nat.zero_add, w_common_bottom, w_whole_bases, w_scaled, w_whole_values, w_first_levels, w_next_levels, w_whole_levels, w_ratios_of, w_bottom_at, w_lt, w_le, w_gt, wTruth, sForET, w_is_base, w_check_bases, w_check_row, w_check_place, w_value_at, w_levels_at, iMulS, wCutTo, at0', at1, at2, oPow]
      have hC := set_at (x := [D.int (g.fdiv many), .int s2, .int (c + 1)]) hB
      have oC : ExtB d S (S2.set d [D.int (g.fdiv many), .int s2, .int (c + 1)]) := oB.setD
      generalize S2.set d [D.int (g.fdiv many), .int s2, .int (c + 1)] = S3 at hC oC ⊢
      refine ⟨by omega, h _ _ ?_ ?_ ⟨_, _, hC, ?_, s21.1, s21.2⟩ oC⟩
      · rw [fmod_pos hm0]; exact Int.emod_nonneg _ (by omega)
      · rw [fmod_pos hm0]; exact Int.emod_lt_of_pos _ hm0
      · rw [Int.fdiv_eq_ediv_of_nonneg _ (by omega)]; exact Int.ediv_nonneg hg (by omega)
    · refine ifF g0 ?_
      rw [hB]
      simp only [true_and, and_true, oU2, oUn1, oL1, oS1, oR1, oJust, iAdd, iSub, iMul, iFdiv, iMod, iEq, iNe, iLt, iLe, iGt, iGe, iNeg, iAbs, DL.iStr, wFmt, wJs, wJoined, sNext, sSeq, sDrop, sRet, sRetN, sIf, sAsg, sPar, wOp, wVar, wC, wUn, wCons, wNil, wCB, wCall, wMake, wMakeSw, wCallSw, wProp, wFld, oI, oI0, oU, wTest, wAnd, wOr, wNot, wAndV, wOrV, wNotV, wIf, wTup, wLst, wLstM, gwName, gwNil, gwCons, gwTup, gwSub, oIx, oInt1, oAbsI, oLen, oGcd, oDivmod, oMax2, oMin2, oIsi, tyOf, clOf, kt_ii, kt_ib, kt_rr, kt_ir, kt_ri, kt_rb, kt_ni, kt_bi, kt_bb, kt_si, kt_ti, kt_li, kt_di, kt_nr, kt_br, kt_sr, kt_tr, kt_lr, kt_dr, oStrI, if_t1, if_f1, Bool.not_true, Bool.not_false, rt, startD, List.map_cons, List.map_nil, List.length_cons, List.length_nil, List.cons_append, List.nil_append, List.getElem?_cons_zero, List.getElem?_cons_succ, List.set_cons_zero, List.set_cons_succ, List.replicate, Nat.reduceAdd, Nat.reduceSub, Nat.zero_add, Nat.sub_self, Nat.add_sub_cancel, kt_tt, wChain, sFor, sForR, forStep, gwLst, listD, wCut, wStar, oListM, oTupl, seqD, oLcm, wCallP3, p3rev, p3mid, wAppend, lk_top, lk_bot, w1, w2, numD_int, numD_ins, w_is_int, w_is_number, wi_Ratio, w_as_ratio, w_top, w_bottom, w1r, w2r, lk_ex, wMeth, w_excess, w_lt, w_le, w_gt, w_raised, w_is_int_within, wLc, wLcE, wLcZ, wLcZ3, wLcT, wLcR, wYes, wipeD, Nat.zero_add, w_common_bottom, w_whole_bases, w_scaled, w_whole_values, w_first_levels, w_next_levels, w_whole_levels, w_ratios_of, w_bottom_at, w_lt, w_le, w_gt, wTruth, sForET, w_is_base, w_check_bases, w_check_row, w_check_place, w_value_at, w_levels_at, iMulS, wCutTo, at0', at1, at2, oPow]
      refine ⟨⟨by decide, by decide⟩, by omega, h _ _ ?_ ?_ ⟨_, _, hB, hg, s21.1, s21.2⟩ oB⟩
      · rw [fmod_pos hm0]; exact Int.emod_nonneg _ (by omega)
      · rw [fmod_pos hm0]; exact Int.emod_lt_of_pos _ hm0
theorem gc_step {l r : Int} (h0 : 0 ≤ l) (h : 0 < r) : gc r (l.fmod r) = gc l r := by
  rw [fmod_pos h]
  unfold gc
  have e : (l % r).natAbs = l.natAbs % r.natAbs := by
    obtain ⟨a, rfl⟩ := Int.eq_ofNat_of_zero_le h0
    obtain ⟨b, rfl⟩ := Int.eq_ofNat_of_zero_le (Int.le_of_lt h)
    rfl
  rw [e, Nat.gcd_comm r.natAbs, ← Nat.gcd_rec, Nat.gcd_comm]
theorem gc_zero {l : Int} (h : 0 ≤ l) : gc l 0 = l := by
  unfold gc
  simp
  omega
theorem gc_abs1 (o u : Int) : gc (if o < 0 then -o else o) u = gc o u := by
  unfold gc
  have a : ∀ x : Int, (if x < 0 then -x else x).natAbs = x.natAbs := fun x => by split <;> omega
  rw [a]
def L9 (x : Int) : Prop := x.natAbs < 2 ^ 4400
theorem cml {a b : Int} (ha : L9 a) (hb : L9 b) : CMulW a b := wide_mul ha hb (by decide) (by decide) (by decide)

def w_made : WF := fun ds S Q => match ds with
  | [.int o, .int u] => 0 < u ∧ u.natAbs < 2 ^ 9000 ∧ Q (prD (mkR o u)) S
  | _ => False
theorem sc__law_made : FnScope ["top", "bottom", "high", "low"] ["top", "bottom"] (defScope s__law_made) := ⟨rfl, rfl, rfl, by decide +kernel, rfl, by decide +kernel, by decide +kernel⟩
theorem ok__law_made (T : Tx K mg) : FnOk P w K mg base CX0 1 T.f__law_made T.fd__law_made ["top", "bottom"] (spW ⟨K, mg⟩ 2 w_made) := by
  refine fnD (k := 0) T.F__law_made sc__law_made (fun cdv A outer s H E hr => ⟨_, (dss_cons (ds_par (i := 2) (j := 3) rfl sc__law_made.nd (da_cons (d_callB call_abs snd_absI T.z_abs (da_cons (dv 0) da_nil) (hv := bt_abs)) (da_cons (dv 1) da_nil)))
  (dss_cons (ds_while PassesOwn.never (dt_cmp op_gt snd_iGt (dv 3) d_int (nomark _)) (dss_one (ds_par (i := 2) (j := 3) rfl sc__law_made.nd (da_cons (dv 3) (da_cons (d_op op_modN snd_iMod (d_callTy call_int1 snd_int1 T.z_int (da_cons (dv 2) da_nil) (hv := bt_int)) (dv 3)) da_nil)))))
  (dss_one (ds_ret (d_tup (da_cons (d_op op_fdivWN snd_iFdiv (dv 0) (dv 2)) (da_cons (d_op op_fdivWN snd_iFdiv (dv 1) (dv 2)) da_nil)))))))⟩) (fun ds S Q hl h => ?_)
  match ds, h with
  | [.int o, .int u], ⟨hu, hu2, h⟩ =>
    have gp : 0 < gc o u := gc_pos hu
    have dv : ∀ x, CDivWN x (gc o u) := fun x => ⟨by omega, lt_log2 (by decide) (Nat.lt_of_le_of_lt (gc_le hu) hu2)⟩
    have l2 : 2 ≤ sizeLine := by decide
    have h : Q (.tup [.int (o.fdiv (gc o u)), .int (u.fdiv (gc o u))]) S := h
    simp only [true_and, and_true, oU2, oUn1, oL1, oS1, oR1, oJust, iAdd, iSub, iMul, iFdiv, iMod, iEq, iNe, iLt, iLe, iGt, iGe, iNeg, iAbs, DL.iStr, wFmt, wJs, wJoined, sNext, sSeq, sDrop, sRet, sRetN, sIf, sAsg, sPar, wOp, wVar, wC, wUn, wCons, wNil, wCB, wCall, wMake, wMakeSw, wCallSw, wProp, wFld, oI, oI0, oU, wTest, wAnd, wOr, wNot, wAndV, wOrV, wNotV, wIf, wTup, wLst, wLstM, gwName, gwNil, gwCons, gwTup, gwSub, oIx, oInt1, oAbsI, oLen, oGcd, oDivmod, oMax2, oMin2, oIsi, tyOf, clOf, kt_ii, kt_ib, kt_rr, kt_ir, kt_ri, kt_rb, kt_ni, kt_bi, kt_bb, kt_si, kt_ti, kt_li, kt_di, kt_nr, kt_br, kt_sr, kt_tr, kt_lr, kt_dr, oStrI, if_t1, if_f1, Bool.not_true, Bool.not_false, rt, startD, List.map_cons, List.map_nil, List.length_cons, List.length_nil, List.cons_append, List.nil_append, List.getElem?_cons_zero, List.getElem?_cons_succ, List.set_cons_zero, List.set_cons_succ, List.replicate, Nat.reduceAdd, Nat.reduceSub, Nat.zero_add, Nat.sub_self, Nat.add_sub_cancel, kt_tt, wChain, sFor, sForR, forStep, gwLst, listD, wCut, wStar, oListM, oTupl, seqD, oLcm, wCallP3, p3rev, p3mid, wAppend, lk_top, lk_bot, w1, w2, numD_int, numD_ins, w_is_int, w_is_number, wi_Ratio, w_as_ratio, w_top, w_bottom, w1r, w2r, lk_ex, wMeth, w_excess, w_lt, w_le, w_gt, w_raised, w_is_int_within, wLc, wLcE, wLcZ, wLcZ3, wLcT, wLcR, wYes, wipeD, Nat.zero_add, w_common_bottom, w_whole_bases, w_scaled, w_whole_values, w_first_levels, w_next_levels, w_whole_levels, w_ratios_of, w_bottom_at, w_lt, w_le, w_gt, wTruth, sForET, w_is_base, w_check_bases, w_check_row, w_check_place, w_value_at, w_levels_at, iMulS, wCutTo, at0', at1, at2, oPow, w_purse, w_take, sWhile]
    refine ⟨fun m ρ S' => S' = S ∧ ∃ l r : Int, ρ = [some (.int o), some (.int u), some (.int l), some (.int r)] ∧ 0 ≤ l ∧ 0 ≤ r ∧ gc l r = gc o u ∧ m = r.natAbs, ⟨_, rfl, _, _, rfl, by split <;> omega, by omega, gc_abs1 o u, rfl⟩, ?_⟩
    rintro m ρ S' ⟨rfl, l, r, rfl, l0, r0, hg, rfl⟩
    simp only [true_and, and_true, oU2, oUn1, oL1, oS1, oR1, oJust, iAdd, iSub, iMul, iFdiv, iMod, iEq, iNe, iLt, iLe, iGt, iGe, iNeg, iAbs, DL.iStr, wFmt, wJs, wJoined, sNext, sSeq, sDrop, sRet, sRetN, sIf, sAsg, sPar, wOp, wVar, wC, wUn, wCons, wNil, wCB, wCall, wMake, wMakeSw, wCallSw, wProp, wFld, oI, oI0, oU, wTest, wAnd, wOr, wNot, wAndV, wOrV, wNotV, wIf, wTup, wLst, wLstM, gwName, gwNil, gwCons, gwTup, gwSub, oIx, oInt1, oAbsI, oLen, oGcd, oDivmod, oMax2, oMin2, oIsi, tyOf, clOf, kt_ii, kt_ib, kt_rr, kt_ir, kt_ri, kt_rb, kt_ni, kt_bi, kt_bb, kt_si, kt_ti, kt_li, kt_di, kt_nr, kt_br, kt_sr, kt_tr, kt_lr, kt_dr, oStrI, if_t1, if_f1, Bool.not_true, Bool.not_false, rt, startD, List.map_cons, List.map_nil, List.length_cons, List.length_nil, List.cons_append, List.nil_append, List.getElem?_cons_zero, List.getElem?_cons_succ, List.set_cons_zero, List.set_cons_succ, List.replicate, Nat.reduceAdd, Nat.reduceSub, Nat.zero_add, Nat.sub_self, Nat.add_sub_cancel, kt_tt, wChain, sFor, sForR, forStep, gwLst, listD, wCut, wStar, oListM, oTupl, seqD, oLcm, wCallP3, p3rev, p3mid, wAppend, lk_top, lk_bot, w1, w2, numD_int, numD_ins, w_is_int, w_is_number, wi_Ratio, w_as_ratio, w_top, w_bottom, w1r, w2r, lk_ex, wMeth, w_excess, w_lt, w_le, w_gt, w_raised, w_is_int_within, wLc, wLcE, wLcZ, wLcZ3, wLcT, wLcR, wYes, wipeD, Nat.zero_add, w_common_bottom, w_whole_bases, w_scaled, w_whole_values, w_first_levels, w_next_levels, w_whole_levels, w_ratios_of, w_bottom_at, w_lt, w_le, w_gt, wTruth, sForET, w_is_base, w_check_bases, w_check_row, w_check_place, w_value_at, w_levels_at, iMulS, wCutTo, at0', at1, at2, oPow, w_purse, w_take, sWhile]
    by_cases rz : 0 < r
    · refine ifT rz ?_
      have fm : 0 ≤ l.fmod r ∧ l.fmod r < r := by
        rw [fmod_pos rz]
        exact ⟨Int.emod_nonneg _ (by omega), Int.emod_lt_of_pos _ rz⟩
      exact ⟨by omega, (l.fmod r).natAbs, by omega, r, l.fmod r, rfl, r0, fm.1, (gc_step l0 rz).trans hg, rfl⟩
    · refine ifF rz ?_
      have e : r = 0 := by omega
      subst e
      rw [gc_zero l0] at hg
      subst hg
      exact ⟨dv _, dv _, l2, h⟩
def w_ladd : WF := fun ds S Q => match ds with
  | [.tup [.int a, .int b], .tup [.int c, .int d]] => (L9 a ∧ L9 b ∧ L9 c ∧ L9 d) ∧ 0 < b ∧ 0 < d ∧ Q (prD (addR (a, b) (c, d))) S
  | _ => False
theorem sc__law_add : FnScope ["a", "b"] ["a", "b"] (defScope s__law_add) := ⟨rfl, rfl, rfl, by decide +kernel, rfl, by decide +kernel, by decide +kernel⟩
theorem ok__law_add (T : Tx K mg) : FnOk P w K mg base CX0 2 T.f__law_add T.fd__law_add ["a", "b"] (spW ⟨K, mg⟩ 2 w_ladd) := by
  refine fnD (k := 1) T.F__law_add sc__law_add (fun cdv A outer s H E hr => ⟨_, (dss_one (ds_ret (d_call (ok__law_made T) (hr.mono (by decide)) T.m__law_made T.F__law_made.kp T.b__law_made (da_cons (d_op op_add snd_iAdd (d_op op_mulW snd_iMul (d_ix (dv 0) d_int) (d_ix (dv 1) d_int)) (d_op op_mulW snd_iMul (d_ix (dv 1) d_int) (d_ix (dv 0) d_int))) (da_cons (d_op op_mulW snd_iMul (d_ix (dv 0) d_int) (d_ix (dv 1) d_int)) da_nil)))))⟩) (fun ds S Q hl h => ?_)
  match ds, h with
  | [.tup [.int a, .int b], .tup [.int c, .int d]], ⟨⟨ha, hb, hc, hd⟩, b0, d0, h⟩ =>
    simp only [true_and, and_true, oU2, oUn1, oL1, oS1, oR1, oJust, iAdd, iSub, iMul, iFdiv, iMod, iEq, iNe, iLt, iLe, iGt, iGe, iNeg, iAbs, DL.iStr, wFmt, wJs, wJoined, sNext, sSeq, sDrop, sRet, sRetN, sIf, sAsg, sPar, wOp, wVar, wC, wUn, wCons, wNil, wCB, wCall, wMake, wMakeSw, wCallSw, wProp, wFld, oI, oI0, oU, wTest, wAnd, wOr, wNot, wAndV, wOrV, wNotV, wIf, wTup, wLst, wLstM, gwName, gwNil, gwCons, gwTup, gwSub, oIx, oInt1, oAbsI, oLen, oGcd, oDivmod, oMax2, oMin2, oIsi, tyOf, clOf, kt_ii, kt_ib, kt_rr, kt_ir, kt_ri, kt_rb, kt_ni, kt_bi, kt_bb, kt_si, kt_ti, kt_li, kt_di, kt_nr, kt_br, kt_sr, kt_tr, kt_lr, kt_dr, oStrI, if_t1, if_f1, Bool.not_true, Bool.not_false, rt, startD, List.map_cons, List.map_nil, List.length_cons, List.length_nil, List.cons_append, List.nil_append, List.getElem?_cons_zero, List.getElem?_cons_succ, List.set_cons_zero, List.set_cons_succ, List.replicate, Nat.reduceAdd, Nat.reduceSub, Nat.zero_add, Nat.sub_self, Nat.add_sub_cancel, kt_tt, wChain, sFor, sForR, forStep, gwLst, listD, wCut, wStar, oListM, oTupl, seqD, oLcm, wCallP3, p3rev, p3mid, wAppend, lk_top, lk_bot, w1, w2, numD_int, numD_ins, w_is_int, w_is_number, wi_Ratio, w_as_ratio, w_top, w_bottom, w1r, w2r, lk_ex, wMeth, w_excess, w_lt, w_le, w_gt, w_raised, w_is_int_within, wLc, wLcE, wLcZ, wLcZ3, wLcT, wLcR, wYes, wipeD, Nat.zero_add, w_common_bottom, w_whole_bases, w_scaled, w_whole_values, w_first_levels, w_next_levels, w_whole_levels, w_ratios_of, w_bottom_at, w_lt, w_le, w_gt, wTruth, sForET, w_is_base, w_check_bases, w_check_row, w_check_place, w_value_at, w_levels_at, iMulS, wCutTo, at0', at1, at2, oPow, w_purse, w_take, w_made, prD]
    exact ⟨cml ha hd, cml hc hb, cml hb hd, Int.mul_pos b0 d0, nmono (nmul hb hd) (by decide), h⟩
def w_lsub : WF := fun ds S Q => match ds with
  | [.tup [.int a, .int b], .tup [.int c, .int d]] => (L9 a ∧ L9 b ∧ L9 c ∧ L9 d) ∧ 0 < b ∧ 0 < d ∧ Q (prD (sbR (a, b) (c, d))) S
  | _ => False
theorem sc__law_sub : FnScope ["a", "b"] ["a", "b"] (defScope s__law_sub) := ⟨rfl, rfl, rfl, by decide +kernel, rfl, by decide +kernel, by decide +kernel⟩
theorem ok__law_sub (T : Tx K mg) : FnOk P w K mg base CX0 2 T.f__law_sub T.fd__law_sub ["a", "b"] (spW ⟨K, mg⟩ 2 w_lsub) := by
  refine fnD (k := 1) T.F__law_sub sc__law_sub (fun cdv A outer s H E hr => ⟨_, (dss_one (ds_ret (d_call (ok__law_made T) (hr.mono (by decide)) T.m__law_made T.F__law_made.kp T.b__law_made (da_cons (d_op op_sub snd_iSub (d_op op_mulW snd_iMul (d_ix (dv 0) d_int) (d_ix (dv 1) d_int)) (d_op op_mulW snd_iMul (d_ix (dv 1) d_int) (d_ix (dv 0) d_int))) (da_cons (d_op op_mulW snd_iMul (d_ix (dv 0) d_int) (d_ix (dv 1) d_int)) da_nil)))))⟩) (fun ds S Q hl h => ?_)
  match ds, h with
  | [.tup [.int a, .int b], .tup [.int c, .int d]], ⟨⟨ha, hb, hc, hd⟩, b0, d0, h⟩ =>
    simp only [true_and, and_true, oU2, oUn1, oL1, oS1, oR1, oJust, iAdd, iSub, iMul, iFdiv, iMod, iEq, iNe, iLt, iLe, iGt, iGe, iNeg, iAbs, DL.iStr, wFmt, wJs, wJoined, sNext, sSeq, sDrop, sRet, sRetN, sIf, sAsg, sPar, wOp, wVar, wC, wUn, wCons, wNil, wCB, wCall, wMake, wMakeSw, wCallSw, wProp, wFld, oI, oI0, oU, wTest, wAnd, wOr, wNot, wAndV, wOrV, wNotV, wIf, wTup, wLst, wLstM, gwName, gwNil, gwCons, gwTup, gwSub, oIx, oInt1, oAbsI, oLen, oGcd, oDivmod, oMax2, oMin2, oIsi, tyOf, clOf, kt_ii, kt_ib, kt_rr, kt_ir, kt_ri, kt_rb, kt_ni, kt_bi, kt_bb, kt_si, kt_ti, kt_li, kt_di, kt_nr, kt_br, kt_sr, kt_tr, kt_lr, kt_dr, oStrI, if_t1, if_f1, Bool.not_true, Bool.not_false, rt, startD, List.map_cons, List.map_nil, List.length_cons, List.length_nil, List.cons_append, List.nil_append, List.getElem?_cons_zero, List.getElem?_cons_succ, List.set_cons_zero, List.set_cons_succ, List.replicate, Nat.reduceAdd, Nat.reduceSub, Nat.zero_add, Nat.sub_self, Nat.add_sub_cancel, kt_tt, wChain, sFor, sForR, forStep, gwLst, listD, wCut, wStar, oListM, oTupl, seqD, oLcm, wCallP3, p3rev, p3mid, wAppend, lk_top, lk_bot, w1, w2, numD_int, numD_ins, w_is_int, w_is_number, wi_Ratio, w_as_ratio, w_top, w_bottom, w1r, w2r, lk_ex, wMeth, w_excess, w_lt, w_le, w_gt, w_raised, w_is_int_within, wLc, wLcE, wLcZ, wLcZ3, wLcT, wLcR, wYes, wipeD, Nat.zero_add, w_common_bottom, w_whole_bases, w_scaled, w_whole_values, w_first_levels, w_next_levels, w_whole_levels, w_ratios_of, w_bottom_at, w_lt, w_le, w_gt, wTruth, sForET, w_is_base, w_check_bases, w_check_row, w_check_place, w_value_at, w_levels_at, iMulS, wCutTo, at0', at1, at2, oPow, w_purse, w_take, w_made, prD]
    exact ⟨cml ha hd, cml hc hb, cml hb hd, Int.mul_pos b0 d0, nmono (nmul hb hd) (by decide), h⟩
def w_lmul : WF := fun ds S Q => match ds with
  | [.tup [.int a, .int b], .tup [.int c, .int d]] => (L9 a ∧ L9 b ∧ L9 c ∧ L9 d) ∧ 0 < b ∧ 0 < d ∧ Q (prD (mulR (a, b) (c, d))) S
  | _ => False
theorem sc__law_mul : FnScope ["a", "b"] ["a", "b"] (defScope s__law_mul) := ⟨rfl, rfl, rfl, by decide +kernel, rfl, by decide +kernel, by decide +kernel⟩
theorem ok__law_mul (T : Tx K mg) : FnOk P w K mg base CX0 2 T.f__law_mul T.fd__law_mul ["a", "b"] (spW ⟨K, mg⟩ 2 w_lmul) := by
  refine fnD (k := 1) T.F__law_mul sc__law_mul (fun cdv A outer s H E hr => ⟨_, (dss_one (ds_ret (d_call (ok__law_made T) (hr.mono (by decide)) T.m__law_made T.F__law_made.kp T.b__law_made (da_cons (d_op op_mulW snd_iMul (d_ix (dv 0) d_int) (d_ix (dv 1) d_int)) (da_cons (d_op op_mulW snd_iMul (d_ix (dv 0) d_int) (d_ix (dv 1) d_int)) da_nil)))))⟩) (fun ds S Q hl h => ?_)
  match ds, h with
  | [.tup [.int a, .int b], .tup [.int c, .int d]], ⟨⟨ha, hb, hc, hd⟩, b0, d0, h⟩ =>
    simp only [true_and, and_true, oU2, oUn1, oL1, oS1, oR1, oJust, iAdd, iSub, iMul, iFdiv, iMod, iEq, iNe, iLt, iLe, iGt, iGe, iNeg, iAbs, DL.iStr, wFmt, wJs, wJoined, sNext, sSeq, sDrop, sRet, sRetN, sIf, sAsg, sPar, wOp, wVar, wC, wUn, wCons, wNil, wCB, wCall, wMake, wMakeSw, wCallSw, wProp, wFld, oI, oI0, oU, wTest, wAnd, wOr, wNot, wAndV, wOrV, wNotV, wIf, wTup, wLst, wLstM, gwName, gwNil, gwCons, gwTup, gwSub, oIx, oInt1, oAbsI, oLen, oGcd, oDivmod, oMax2, oMin2, oIsi, tyOf, clOf, kt_ii, kt_ib, kt_rr, kt_ir, kt_ri, kt_rb, kt_ni, kt_bi, kt_bb, kt_si, kt_ti, kt_li, kt_di, kt_nr, kt_br, kt_sr, kt_tr, kt_lr, kt_dr, oStrI, if_t1, if_f1, Bool.not_true, Bool.not_false, rt, startD, List.map_cons, List.map_nil, List.length_cons, List.length_nil, List.cons_append, List.nil_append, List.getElem?_cons_zero, List.getElem?_cons_succ, List.set_cons_zero, List.set_cons_succ, List.replicate, Nat.reduceAdd, Nat.reduceSub, Nat.zero_add, Nat.sub_self, Nat.add_sub_cancel, kt_tt, wChain, sFor, sForR, forStep, gwLst, listD, wCut, wStar, oListM, oTupl, seqD, oLcm, wCallP3, p3rev, p3mid, wAppend, lk_top, lk_bot, w1, w2, numD_int, numD_ins, w_is_int, w_is_number, wi_Ratio, w_as_ratio, w_top, w_bottom, w1r, w2r, lk_ex, wMeth, w_excess, w_lt, w_le, w_gt, w_raised, w_is_int_within, wLc, wLcE, wLcZ, wLcZ3, wLcT, wLcR, wYes, wipeD, Nat.zero_add, w_common_bottom, w_whole_bases, w_scaled, w_whole_values, w_first_levels, w_next_levels, w_whole_levels, w_ratios_of, w_bottom_at, w_lt, w_le, w_gt, wTruth, sForET, w_is_base, w_check_bases, w_check_row, w_check_place, w_value_at, w_levels_at, iMulS, wCutTo, at0', at1, at2, oPow, w_purse, w_take, w_made, prD]
    exact ⟨cml ha hc, cml hb hd, Int.mul_pos b0 d0, nmono (nmul hb hd) (by decide), h⟩
def w_number : WF := fun ds S Q => match ds with
  | [.tup [.int t, .int b], .mut d] => ∃ c, Pu S d c ∧ 0 ≤ c ∧ c ≤ 100000 ∧ Nrm (t, b) ∧ b.natAbs < 2 ^ 9000 ∧ ∀ x S', numD x = some (t, b) → (Pu S' d c ∨ Pu S' d (c + 1)) → ExtB d S S' → Q x S'
  | _ => False
theorem sc__law_number : FnScope ["pair", "draws"] ["pair", "draws"] (defScope s__law_number) := ⟨rfl, rfl, rfl, by decide +kernel, rfl, by decide +kernel, by decide +kernel⟩
theorem ok__law_number (T : Tx K mg) : FnOk P w K mg base CX0 5 T.f__law_number T.fd__law_number ["pair", "draws"] (spW ⟨K, mg⟩ 2 w_number) := by
  refine fnD (k := 4) T.F__law_number sc__law_number (fun cdv A outer s H E hr => ⟨_, (dss_cons (ds_if (PDW.pt (dw_and (dt_cmp op_eq snd_iEq (d_ix (dv 0) d_int) d_int (nomark _)) (dw_and1 (dt_cmp op_eq snd_iEq (d_call (ok__law_take T) (hr.mono (by decide)) T.m__law_take T.F__law_take.kp T.b__law_take (da_cons (dv 1) (da_cons d_int da_nil))) d_int (nomark _))))) (dss_one (ds_ret (d_ix (dv 0) d_int))) dss_nil)
  (dss_one (ds_ret (d_make T.mkk (ok_R_init T) (hr.mono (by decide)) T.g_Ratio T.b_R_init2 T.v_R_init2 (fun _ _ => .nil) (da_cons (d_ix (dv 0) d_int) (da_cons (d_ix (dv 0) d_int) da_nil))))))⟩) (fun ds S Q hl h => ?_)
  match ds, h with
  | [.tup [.int t, .int b], .mut d], ⟨c, pu, h1, h2, n, z, h⟩ =>
    have b0 : 0 < b := n.pos
    have fin : ∀ S', (Pu S' d c ∨ Pu S' d (c + 1)) → ExtB d S S' → (0 < b ∧ b.natAbs < 2 ^ 9000) ∧ Q (.ins "Ratio" [("_top", .int (mkR t b).1), ("_bottom", .int (mkR t b).2)]) S' := fun S' p e => by
      refine ⟨⟨b0, z⟩, ?_⟩
      have : mkR t b = (t, b) := n.mk'
      rw [this]
      exact h _ S' (numD_ins t b) p e
    simp only [true_and, and_true, oU2, oUn1, oL1, oS1, oR1, oJust, iAdd, iSub, iMul, iFdiv, iMod, iEq, iNe, iLt, iLe, iGt, iGe, iNeg, iAbs, DL.iStr, wFmt, wJs, wJoined, sNext, sSeq, sDrop, sRet, sRetN, sIf, sAsg, sPar, wOp, wVar, wC, wUn, wCons, wNil, wCB, wCall, wMake, wMakeSw, wCallSw, wProp, wFld, oI, oI0, oU, wTest, wAnd, wOr, wNot, wAndV, wOrV, wNotV, wIf, wTup, wLst, wLstM, gwName, gwNil, gwCons, gwTup, gwSub, oIx, oInt1, oAbsI, oLen, oGcd, oDivmod, oMax2, oMin2, oIsi, tyOf, clOf, kt_ii, kt_ib, kt_rr, kt_ir, kt_ri, kt_rb, kt_ni, kt_bi, kt_bb, kt_si, kt_ti, kt_li, kt_di, kt_nr, kt_br, kt_sr, kt_tr, kt_lr, kt_dr, oStrI, if_t1, if_f1, Bool.not_true, Bool.not_false, rt, startD, List.map_cons, List.map_nil, List.length_cons, List.length_nil, List.cons_append, List.nil_append, List.getElem?_cons_zero, List.getElem?_cons_succ, List.set_cons_zero, List.set_cons_succ, List.replicate, Nat.reduceAdd, Nat.reduceSub, Nat.zero_add, Nat.sub_self, Nat.add_sub_cancel, kt_tt, wChain, sFor, sForR, forStep, gwLst, listD, wCut, wStar, oListM, oTupl, seqD, oLcm, wCallP3, p3rev, p3mid, wAppend, lk_top, lk_bot, w1, w2, numD_int, numD_ins, w_is_int, w_is_number, wi_Ratio, w_as_ratio, w_top, w_bottom, w1r, w2r, lk_ex, wMeth, w_excess, w_lt, w_le, w_gt, w_raised, w_is_int_within, wLc, wLcE, wLcZ, wLcZ3, wLcT, wLcR, wYes, wipeD, Nat.zero_add, w_common_bottom, w_whole_bases, w_scaled, w_whole_values, w_first_levels, w_next_levels, w_whole_levels, w_ratios_of, w_bottom_at, w_lt, w_le, w_gt, wTruth, sForET, w_is_base, w_check_bases, w_check_row, w_check_place, w_value_at, w_levels_at, iMulS, wCutTo, at0', at1, at2, oPow, w_purse, w_take, w_made, prD, w_ladd, w_lsub, w_lmul]
    by_cases b1 : b = 1
    · refine ifT b1 ⟨c, pu, ⟨h1, h2⟩, by decide, fun k S' k0 k1 p' e' => ?_⟩
      by_cases kz : k = 0
      · refine ifT kz (h _ S' ?_ (.inr p') e')
        rw [b1]
        rfl
      · exact ifF kz (fin S' (.inr p') e')
    · exact ifF b1 (fin S (.inl pu) .refl)
def w_pair : WF := w1r fun p S Q => Q (prD p) S
theorem sc__law_pair : FnScope ["ratio"] ["ratio"] (defScope s__law_pair) := ⟨rfl, rfl, rfl, by decide +kernel, rfl, by decide +kernel, by decide +kernel⟩
theorem ok__law_pair (T : Tx K mg) : FnOk P w K mg base CX0 3 T.f__law_pair T.fd__law_pair ["ratio"] (spW ⟨K, mg⟩ 1 w_pair) := by
  refine fnD (k := 2) T.F__law_pair sc__law_pair (fun cdv A outer s H E hr => ⟨_, (dss_cons (ds_if (dt_not (dt_val (d_callB call_isi (snd_isi T.isi) T.z_isinstance (da_cons (dv 0) (da_cons (d_cls T.g_Ratio) da_nil)) (hv := bt_isinstance)))) dss_never dss_nil)
  (dss_one (ds_ret (d_tup (da_cons (d_prop (dv 0) T.g_Ratio T.cl T.p_top (ok_R_top T) (hr.mono (by decide)) T.b_R_top) (da_cons (d_prop (dv 0) T.g_Ratio T.cl T.p_bottom (ok_R_bottom T) (hr.mono (by decide)) T.b_R_bottom) da_nil))))))⟩) (fun ds S Q hl h => ?_)
  obtain ⟨t, b, rfl, hQ⟩ := one_rat h
  simp only [true_and, and_true, oU2, oUn1, oL1, oS1, oR1, oJust, iAdd, iSub, iMul, iFdiv, iMod, iEq, iNe, iLt, iLe, iGt, iGe, iNeg, iAbs, DL.iStr, wFmt, wJs, wJoined, sNext, sSeq, sDrop, sRet, sRetN, sIf, sAsg, sPar, wOp, wVar, wC, wUn, wCons, wNil, wCB, wCall, wMake, wMakeSw, wCallSw, wProp, wFld, oI, oI0, oU, wTest, wAnd, wOr, wNot, wAndV, wOrV, wNotV, wIf, wTup, wLst, wLstM, gwName, gwNil, gwCons, gwTup, gwSub, oIx, oInt1, oAbsI, oLen, oGcd, oDivmod, oMax2, oMin2, oIsi, tyOf, clOf, kt_ii, kt_ib, kt_rr, kt_ir, kt_ri, kt_rb, kt_ni, kt_bi, kt_bb, kt_si, kt_ti, kt_li, kt_di, kt_nr, kt_br, kt_sr, kt_tr, kt_lr, kt_dr, oStrI, if_t1, if_f1, Bool.not_true, Bool.not_false, rt, startD, List.map_cons, List.map_nil, List.length_cons, List.length_nil, List.cons_append, List.nil_append, List.getElem?_cons_zero, List.getElem?_cons_succ, List.set_cons_zero, List.set_cons_succ, List.replicate, Nat.reduceAdd, Nat.reduceSub, Nat.zero_add, Nat.sub_self, Nat.add_sub_cancel, kt_tt, wChain, sFor, sForR, forStep, gwLst, listD, wCut, wStar, oListM, oTupl, seqD, oLcm, wCallP3, p3rev, p3mid, wAppend, lk_top, lk_bot, w1, w2, numD_int, numD_ins, w_is_int, w_is_number, wi_Ratio, w_as_ratio, w_top, w_bottom, w1r, w2r, lk_ex, wMeth, w_excess, w_lt, w_le, w_gt, w_raised, w_is_int_within, wLc, wLcE, wLcZ, wLcZ3, wLcT, wLcR, wYes, wipeD, Nat.zero_add, w_common_bottom, w_whole_bases, w_scaled, w_whole_values, w_first_levels, w_next_levels, w_whole_levels, w_ratios_of, w_bottom_at, w_lt, w_le, w_gt, wTruth, sForET, w_is_base, w_check_bases, w_check_row, w_check_place, w_value_at, w_levels_at, iMulS, wCutTo, at0', at1, at2, oPow, w_purse, w_take, w_made, prD, w_ladd, w_lsub, w_lmul]
  exact ⟨by decide, hQ⟩
end
end K1
set_option Elab.async false
set_option linter.all false
set_option maxRecDepth 100000
set_option maxHeartbeats 0
namespace K1
open PySem PySem.Spec PyProof.Rows L2 DL
section
variable {P : Program} {w : World} {K : PySem.W.Frag} {mg : Str → Option Value} {base : Heap}
theorem le_line {n : Nat} (h : n ≤ 1000) : (n ≤ sizeLine) = True := by simp [small_line h]
theorem ln0 : (0 ≤ sizeLine) = True := le_line (by decide)
theorem ln2 : (2 ≤ sizeLine) = True := le_line (by decide)
theorem ln3 : (3 ≤ sizeLine) = True := le_line (by decide)
theorem ln5 : (5 ≤ sizeLine) = True := le_line (by decide)
theorem ln11 : (11 ≤ sizeLine) = True := le_line (by decide)
theorem at_map {l : List Pr} {k : Nat} {j : Int} {x : Pr} (h : l[k]? = some x) (e : j = (k : Int)) : L2.atI (l.map prD) j = some (prD x) := by
  subst e
  exact atI_nat (by rw [List.getElem?_map, h]; rfl)
theorem Okp.l9 {p : Pr} (h : Okp p) : L9 p.1 ∧ L9 p.2 := ⟨nmono h.z1 (by decide), nmono h.z2 (by decide)⟩
theorem mul_l9 {p q : Pr} (hp : Okp p) (hq : Okp q) : L9 (mulR p q).1 ∧ L9 (mulR p q).2 ∧ 0 < (mulR p q).2 := by
  have z := mkR_sz (t := p.1 * q.1) (b := p.2 * q.2) (n := 4000) (Int.mul_pos hp.nrm.pos hq.nrm.pos) (nmul hp.z1 hq.z1) (nmul hp.z2 hq.z2)
  exact ⟨nmono z.2.1 (by decide), nmono z.2.2 (by decide), z.1⟩
theorem len_line {n : Nat} (h : n ≤ 500) : n < sizeLine := Nat.lt_of_lt_of_le (show n < 1000 by omega) (small_line (Nat.le_refl _))
def frontL (bs ls : List Pr) : List Pr := ((bs.dropLast.zip (ls.dropLast)).zip ls.tail).map fun p => addR (mulR p.1.1 p.1.2) p.2
def prodL (bs ls : List Pr) : List Pr := (bs.zip ls).map fun p => mulR p.1 p.2
theorem nextL_eq (bs ls : List Pr) : nextL bs ls = frontL bs ls ++ (prodL bs ls).drop (bs.length - 1) := rfl
theorem prodL_get {bs ls : List Pr} {i : Nat} {b x : Pr} (h1 : bs[i]? = some b) (h2 : ls[i]? = some x) : (prodL bs ls)[i]? = some (mulR b x) := by
  unfold prodL
  rw [List.getElem?_map, List.getElem?_zip_eq_some.mpr (show bs[i]? = some (b, x).1 ∧ _ from ⟨h1, h2⟩)]
  rfl
theorem frontL_get {bs ls : List Pr} {i : Nat} {b x y : Pr} (hl : bs.length = ls.length) (h1 : bs[i]? = some b) (h2 : ls[i]? = some x) (h3 : ls[i + 1]? = some y) : (frontL bs ls)[i]? = some (addR (mulR b x) y) := by
  have l3 := (List.getElem?_eq_some_iff.mp h3).1
  have e := nextL_get1 hl h1 h2 h3
  rw [nextL_eq, List.getElem?_append_left (by unfold frontL; simp; omega)] at e
  exact e
theorem cut_last {l : List D} (h : 0 < l.length) : DL.cutD l (some (-1)) none = l.drop (l.length - 1) := by
  unfold DL.cutD HT.sIx
  have e1 : ((-1 : Int) < 0) := by decide
  simp [e1]
  have e2 : (-1 + (l.length : Int)).toNat = l.length - 1 := by omega
  rw [e2, List.take_of_length_le (by rw [List.length_drop]; omega)]

def w_llevels : WF := fun ds S Q => match ds with
  | [.mut a, .mut b] => ∃ rs ws : List Pr, S[a]? = some (rs.map prD) ∧ S[b]? = some (ws.map prD) ∧ rs.length = ws.length ∧ rs.length ≤ 6 ∧ (∀ r ∈ rs, Okp r) ∧ (∀ i, i ≤ rs.length → ∀ p ∈ rowL rs ws i, Okp p) ∧ ∀ S' k, Ext S S' → S.length ≤ k → S'[k]? = some ((firstL rs ws).map prD) → Q (.mut k) S'
  | _ => False
theorem sc__law_levels : FnScope ["roots", "worths", "found", "row", "base", "k"] ["roots", "worths"] (defScope s__law_levels) := ⟨rfl, rfl, rfl, by decide +kernel, rfl, by decide +kernel, by decide +kernel⟩
theorem ok__law_levels (T : Tx K mg) : FnOk P w K mg base CX0 3 T.f__law_levels T.fd__law_levels ["roots", "worths"] (spW ⟨K, mg⟩ 2 w_llevels) := by
  refine fnD (k := 2) T.F__law_levels sc__law_levels (fun cdv A outer s H E hr => ⟨_, (dss_cons (ds_asg (d_tup (da_cons (d_lstM da_nil) (da_cons (d_callTy call_list_of snd_listM T.z_list (da_cons (dv 1) da_nil) (hv := bt_list)) da_nil))) (dg_tup (n := 2) rfl (dgs_cons (dg_name (i := 2) sc__law_levels.nd) (dgs_cons (dg_name (i := 3) sc__law_levels.nd) dgs_nil))))
  (dss_cons (ds_for PassesOwn.never rfl (dv 0) (dg_name (i := 4) sc__law_levels.nd) (dss_cons (ds_expr (d_append (dv 2) (da_cons (d_ix (dv 3) d_int) da_nil)))
  (dss_one (ds_set (i := 3) sc__law_levels.nd (d_lcR (own := [("k", 5)]) rfl sc__law_levels.nd T.z_range (da_cons (d_op op_sub snd_iSub (d_callB call_len_seq snd_len T.z_len (da_cons (dv 3) da_nil) (hv := bt_len)) d_int) da_nil) (blkOk_by (own := [("k", 5)]) (N := ["roots", "worths", "found", "row", "base", "k"]) (sc := defScope s__law_levels) (by decide +kernel)) (gown_name (by decide)) (fun _ _ _ _ _ => (dg_name (i := 5) sc__law_levels.nd)) (fun _ _ _ _ _ => dts_nil) (fun _ _ _ _ _ => (d_callC (ok__law_sub T) (hr.mono (by decide)) T.m__law_sub T.F__law_sub.kp T.b__law_sub (da_cons (d_ixC (G' := ⟨K, mg⟩) (dv 3) (d_op op_add snd_iAdd (dv 5) d_int)) (da_cons (d_callC (ok__law_mul T) (hr.mono (by decide)) T.m__law_mul T.F__law_mul.kp T.b__law_mul (da_cons (dv 4) (da_cons (d_ixC (G' := ⟨K, mg⟩) (dv 3) (dv 5)) da_nil))) da_nil)))))))))
  (dss_one (ds_ret (dv 2)))))⟩) (fun ds S Q hl h => ?_)
  match ds, h with
  | [.mut a, .mut b], ⟨rs, ws, hA, hB, hl, h6, okr, okw, h⟩ =>
    simp only [true_and, and_true, oU2, oUn1, oL1, oS1, oR1, oJust, iAdd, iSub, iMul, iFdiv, iMod, iEq, iNe, iLt, iLe, iGt, iGe, iNeg, iAbs, DL.iStr, wFmt, wJs, wJoined, sNext, sSeq, sDrop, sRet, sRetN, sIf, sAsg, sPar, wOp, wVar, wC, wUn, wCons, wNil, wCB, wCall, wMake, wMakeSw, wCallSw, wProp, wFld, oI, oI0, oU, wTest, wAnd, wOr, wNot, wAndV, wOrV, wNotV, wIf, wTup, wLst, wLstM, gwName, gwNil, gwCons, gwTup, gwSub, oIx, oInt1, oAbsI, oLen, oGcd, oDivmod, oMax2, oMin2, oIsi, tyOf, clOf, kt_ii, kt_ib, kt_rr, kt_ir, kt_ri, kt_rb, kt_ni, kt_bi, kt_bb, kt_si, kt_ti, kt_li, kt_di, kt_nr, kt_br, kt_sr, kt_tr, kt_lr, kt_dr, oStrI, if_t1, if_f1, Bool.not_true, Bool.not_false, rt, startD, List.map_cons, List.map_nil, List.length_cons, List.length_nil, List.cons_append, List.nil_append, List.getElem?_cons_zero, List.getElem?_cons_succ, List.set_cons_zero, List.set_cons_succ, List.replicate, Nat.reduceAdd, Nat.reduceSub, Nat.zero_add, Nat.sub_self, Nat.add_sub_cancel, kt_tt, wChain, sFor, sForR, forStep, gwLst, listD, wCut, wStar, oListM, oTupl, seqD, oLcm, wCallP3, p3rev, p3mid, wAppend, lk_top, lk_bot, w1, w2, numD_int, numD_ins, w_is_int, w_is_number, wi_Ratio, w_as_ratio, w_top, w_bottom, w1r, w2r, lk_ex, wMeth, w_excess, w_lt, w_le, w_gt, w_raised, w_is_int_within, wLc, wLcE, wLcZ, wLcZ3, wLcT, wLcR, wYes, wipeD, Nat.zero_add, w_common_bottom, w_whole_bases, w_scaled, w_whole_values, w_first_levels, w_next_levels, w_whole_levels, w_ratios_of, w_bottom_at, w_lt, w_le, w_gt, wTruth, sForET, w_is_base, w_check_bases, w_check_row, w_check_place, w_value_at, w_levels_at, iMulS, wCutTo, at0', at1, at2, oPow, w_purse, w_take, w_made, prD, w_ladd, w_lsub, w_lmul, ln0, ln2, ln3, ln5, ln11, sPar3]
    refine ⟨_, Ext.app _ _ hB, ?_⟩
    have e2 : Ext S ((S ++ [[]]) ++ [ws.map prD]) := Ext.app.trans Ext.app
    have r1 : ((S ++ [[]]) ++ [ws.map prD])[(S ++ [[]]).length]? = some (ws.map prD) := new_at
    have l1 : ((S ++ [[]]) ++ [ws.map prD])[S.length]? = some [] := Ext.app _ _ new_at
    have n1 : (S ++ [[]]).length ≠ S.length := by simp
    have g1 : S.length ≤ (S ++ [[]]).length := by simp
    generalize (S ++ [[]]).length = r0 at r1 n1 g1 ⊢
    generalize (S ++ [[]]) ++ [ws.map prD] = S2 at e2 r1 l1 ⊢
    refine ⟨_, e2 _ _ hA, ?_⟩
    refine forM_run (m0 := a) prD (fun i ρ S' => Ext S S' ∧ S'[S.length]? = some (((firstL rs ws).take i).map prD) ∧ ∃ r o1 o2, r ≠ S.length ∧ S.length ≤ r ∧ S'[r]? = some ((rowL rs ws i).map prD) ∧ ρ = [some (.mut a), some (.mut b), some (.mut S.length), some (.mut r), o1, o2]) rs 0 (fun i ρ S' j => j.1 _ _ hA) ?_ ?_ _ _ ⟨e2, by rw [List.take_zero]; exact l1, r0, none, none, n1, g1, by rw [rowL_zero]; exact r1, rfl⟩
    · rintro i B ρ S' nx hp ⟨eS, hL, r, o1, o2, nr, gr, hr, rfl⟩ hn
      simp only [Nat.zero_add] at hL hr hn
      have li := (List.getElem?_eq_some_iff.mp hp).1
      have rl : (rowL rs ws i).length = ws.length - i := rowL_len i (by omega)
      have rpos : 0 < (rowL rs ws i).length := by omega
      have okB := okr _ (get_mem hp)
      have okW := okw i (by omega)
      simp only [true_and, and_true, oU2, oUn1, oL1, oS1, oR1, oJust, iAdd, iSub, iMul, iFdiv, iMod, iEq, iNe, iLt, iLe, iGt, iGe, iNeg, iAbs, DL.iStr, wFmt, wJs, wJoined, sNext, sSeq, sDrop, sRet, sRetN, sIf, sAsg, sPar, wOp, wVar, wC, wUn, wCons, wNil, wCB, wCall, wMake, wMakeSw, wCallSw, wProp, wFld, oI, oI0, oU, wTest, wAnd, wOr, wNot, wAndV, wOrV, wNotV, wIf, wTup, wLst, wLstM, gwName, gwNil, gwCons, gwTup, gwSub, oIx, oInt1, oAbsI, oLen, oGcd, oDivmod, oMax2, oMin2, oIsi, tyOf, clOf, kt_ii, kt_ib, kt_rr, kt_ir, kt_ri, kt_rb, kt_ni, kt_bi, kt_bb, kt_si, kt_ti, kt_li, kt_di, kt_nr, kt_br, kt_sr, kt_tr, kt_lr, kt_dr, oStrI, if_t1, if_f1, Bool.not_true, Bool.not_false, rt, startD, List.map_cons, List.map_nil, List.length_cons, List.length_nil, List.cons_append, List.nil_append, List.getElem?_cons_zero, List.getElem?_cons_succ, List.set_cons_zero, List.set_cons_succ, List.replicate, Nat.reduceAdd, Nat.reduceSub, Nat.zero_add, Nat.sub_self, Nat.add_sub_cancel, kt_tt, wChain, sFor, sForR, forStep, gwLst, listD, wCut, wStar, oListM, oTupl, seqD, oLcm, wCallP3, p3rev, p3mid, wAppend, lk_top, lk_bot, w1, w2, numD_int, numD_ins, w_is_int, w_is_number, wi_Ratio, w_as_ratio, w_top, w_bottom, w1r, w2r, lk_ex, wMeth, w_excess, w_lt, w_le, w_gt, w_raised, w_is_int_within, wLc, wLcE, wLcZ, wLcZ3, wLcT, wLcR, wYes, wipeD, Nat.zero_add, w_common_bottom, w_whole_bases, w_scaled, w_whole_values, w_first_levels, w_next_levels, w_whole_levels, w_ratios_of, w_bottom_at, w_lt, w_le, w_gt, wTruth, sForET, w_is_base, w_check_bases, w_check_row, w_check_place, w_value_at, w_levels_at, iMulS, wCutTo, at0', at1, at2, oPow, w_purse, w_take, w_made, prD, w_ladd, w_lsub, w_lmul, ln0, ln2, ln3, ln5, ln11, sPar3]
      rw [hr]
      simp only [true_and, and_true, oU2, oUn1, oL1, oS1, oR1, oJust, iAdd, iSub, iMul, iFdiv, iMod, iEq, iNe, iLt, iLe, iGt, iGe, iNeg, iAbs, DL.iStr, wFmt, wJs, wJoined, sNext, sSeq, sDrop, sRet, sRetN, sIf, sAsg, sPar, wOp, wVar, wC, wUn, wCons, wNil, wCB, wCall, wMake, wMakeSw, wCallSw, wProp, wFld, oI, oI0, oU, wTest, wAnd, wOr, wNot, wAndV, wOrV, wNotV, wIf, wTup, wLst, wLstM, gwName, gwNil, gwCons, gwTup, gwSub, oIx, oInt1, oAbsI, oLen, oGcd, oDivmod, oMax2, oMin2, oIsi, tyOf, clOf, kt_ii, kt_ib, kt_rr, kt_ir, kt_ri, kt_rb, kt_ni, kt_bi, kt_bb, kt_si, kt_ti, kt_li, kt_di, kt_nr, kt_br, kt_sr, kt_tr, kt_lr, kt_dr, oStrI, if_t1, if_f1, Bool.not_true, Bool.not_false, rt, startD, List.map_cons, List.map_nil, List.length_cons, List.length_nil, List.cons_append, List.nil_append, List.getElem?_cons_zero, List.getElem?_cons_succ, List.set_cons_zero, List.set_cons_succ, List.replicate, Nat.reduceAdd, Nat.reduceSub, Nat.zero_add, Nat.sub_self, Nat.add_sub_cancel, kt_tt, wChain, sFor, sForR, forStep, gwLst, listD, wCut, wStar, oListM, oTupl, seqD, oLcm, wCallP3, p3rev, p3mid, wAppend, lk_top, lk_bot, w1, w2, numD_int, numD_ins, w_is_int, w_is_number, wi_Ratio, w_as_ratio, w_top, w_bottom, w1r, w2r, lk_ex, wMeth, w_excess, w_lt, w_le, w_gt, w_raised, w_is_int_within, wLc, wLcE, wLcZ, wLcZ3, wLcT, wLcR, wYes, wipeD, Nat.zero_add, w_common_bottom, w_whole_bases, w_scaled, w_whole_values, w_first_levels, w_next_levels, w_whole_levels, w_ratios_of, w_bottom_at, w_lt, w_le, w_gt, wTruth, sForET, w_is_base, w_check_bases, w_check_row, w_check_place, w_value_at, w_levels_at, iMulS, wCutTo, at0', at1, at2, oPow, w_purse, w_take, w_made, prD, w_ladd, w_lsub, w_lmul, ln0, ln2, ln3, ln5, ln11, sPar3]
      rw [map_head (d := ((0, 1) : Pr)) rpos]
      simp only [true_and, and_true, oU2, oUn1, oL1, oS1, oR1, oJust, iAdd, iSub, iMul, iFdiv, iMod, iEq, iNe, iLt, iLe, iGt, iGe, iNeg, iAbs, DL.iStr, wFmt, wJs, wJoined, sNext, sSeq, sDrop, sRet, sRetN, sIf, sAsg, sPar, wOp, wVar, wC, wUn, wCons, wNil, wCB, wCall, wMake, wMakeSw, wCallSw, wProp, wFld, oI, oI0, oU, wTest, wAnd, wOr, wNot, wAndV, wOrV, wNotV, wIf, wTup, wLst, wLstM, gwName, gwNil, gwCons, gwTup, gwSub, oIx, oInt1, oAbsI, oLen, oGcd, oDivmod, oMax2, oMin2, oIsi, tyOf, clOf, kt_ii, kt_ib, kt_rr, kt_ir, kt_ri, kt_rb, kt_ni, kt_bi, kt_bb, kt_si, kt_ti, kt_li, kt_di, kt_nr, kt_br, kt_sr, kt_tr, kt_lr, kt_dr, oStrI, if_t1, if_f1, Bool.not_true, Bool.not_false, rt, startD, List.map_cons, List.map_nil, List.length_cons, List.length_nil, List.cons_append, List.nil_append, List.getElem?_cons_zero, List.getElem?_cons_succ, List.set_cons_zero, List.set_cons_succ, List.replicate, Nat.reduceAdd, Nat.reduceSub, Nat.zero_add, Nat.sub_self, Nat.add_sub_cancel, kt_tt, wChain, sFor, sForR, forStep, gwLst, listD, wCut, wStar, oListM, oTupl, seqD, oLcm, wCallP3, p3rev, p3mid, wAppend, lk_top, lk_bot, w1, w2, numD_int, numD_ins, w_is_int, w_is_number, wi_Ratio, w_as_ratio, w_top, w_bottom, w1r, w2r, lk_ex, wMeth, w_excess, w_lt, w_le, w_gt, w_raised, w_is_int_within, wLc, wLcE, wLcZ, wLcZ3, wLcT, wLcR, wYes, wipeD, Nat.zero_add, w_common_bottom, w_whole_bases, w_scaled, w_whole_values, w_first_levels, w_next_levels, w_whole_levels, w_ratios_of, w_bottom_at, w_lt, w_le, w_gt, wTruth, sForET, w_is_base, w_check_bases, w_check_row, w_check_place, w_value_at, w_levels_at, iMulS, wCutTo, at0', at1, at2, oPow, w_purse, w_take, w_made, prD, w_ladd, w_lsub, w_lmul, ln0, ln2, ln3, ln5, ln11, sPar3]
      refine ⟨_, hL, Nat.lt_of_le_of_lt (by simp; exact Nat.min_le_left _ _) (len_line (by omega : i ≤ 500)), ?_⟩
      have tm : ((firstL rs ws).take i).map prD ++ [D.tup [.int ((rowL rs ws i).headD (0, 1)).1, .int ((rowL rs ws i).headD (0, 1)).2]] = ((firstL rs ws).take (i + 1)).map prD := take_map (f := prD) (firstL_get (ws := ws) li)
      rw [tm]
      have hr2 := ne_get (x := ((firstL rs ws).take (i + 1)).map prD) hr nr
      have hL2 := set_at (x := ((firstL rs ws).take (i + 1)).map prD) hL
      have eS2 : Ext S (S'.set S.length (((firstL rs ws).take (i + 1)).map prD)) := eS.set (Nat.le_refl _)
      generalize S'.set S.length (((firstL rs ws).take (i + 1)).map prD) = S3 at hr2 hL2 eS2 ⊢
      refine ⟨_, hr2, ⟨by simp <;> omega, by simp <;> omega⟩, ?_⟩
      rw [show (((rowL rs ws i).map prD).length - 1 : Int).toNat = (rowL rs ws i).length - 1 by rw [List.length_map]; omega, rangeD_map]
      refine lcD_run (fun i : Nat => D.int (0 + i)) (MapJ S3 S3.length ((stepL B (rowL rs ws i)).map prD)) (List.range ((rowL rs ws i).length - 1)) 0 ?_ ?_ _ MapJ.start
      · intro k x S4 nx4 hk j4 hn4
        have kl := (List.getElem?_eq_some_iff.mp hk).1
        rw [List.length_range] at kl
        rw [List.getElem?_range kl] at hk
        cases hk
        obtain ⟨x, gx⟩ : ∃ x, (rowL rs ws i)[k]? = some x := ⟨_, List.getElem?_eq_getElem (by omega)⟩
        obtain ⟨y, gy⟩ : ∃ x, (rowL rs ws i)[k + 1]? = some x := ⟨_, List.getElem?_eq_getElem (by omega)⟩
        have ox := okW _ (get_mem gx)
        have oy := okW _ (get_mem gy)
        have lm := mul_l9 okB ox
        simp only [true_and, and_true, oU2, oUn1, oL1, oS1, oR1, oJust, iAdd, iSub, iMul, iFdiv, iMod, iEq, iNe, iLt, iLe, iGt, iGe, iNeg, iAbs, DL.iStr, wFmt, wJs, wJoined, sNext, sSeq, sDrop, sRet, sRetN, sIf, sAsg, sPar, wOp, wVar, wC, wUn, wCons, wNil, wCB, wCall, wMake, wMakeSw, wCallSw, wProp, wFld, oI, oI0, oU, wTest, wAnd, wOr, wNot, wAndV, wOrV, wNotV, wIf, wTup, wLst, wLstM, gwName, gwNil, gwCons, gwTup, gwSub, oIx, oInt1, oAbsI, oLen, oGcd, oDivmod, oMax2, oMin2, oIsi, tyOf, clOf, kt_ii, kt_ib, kt_rr, kt_ir, kt_ri, kt_rb, kt_ni, kt_bi, kt_bb, kt_si, kt_ti, kt_li, kt_di, kt_nr, kt_br, kt_sr, kt_tr, kt_lr, kt_dr, oStrI, if_t1, if_f1, Bool.not_true, Bool.not_false, rt, startD, List.map_cons, List.map_nil, List.length_cons, List.length_nil, List.cons_append, List.nil_append, List.getElem?_cons_zero, List.getElem?_cons_succ, List.set_cons_zero, List.set_cons_succ, List.replicate, Nat.reduceAdd, Nat.reduceSub, Nat.zero_add, Nat.sub_self, Nat.add_sub_cancel, kt_tt, wChain, sFor, sForR, forStep, gwLst, listD, wCut, wStar, oListM, oTupl, seqD, oLcm, wCallP3, p3rev, p3mid, wAppend, lk_top, lk_bot, w1, w2, numD_int, numD_ins, w_is_int, w_is_number, wi_Ratio, w_as_ratio, w_top, w_bottom, w1r, w2r, lk_ex, wMeth, w_excess, w_lt, w_le, w_gt, w_raised, w_is_int_within, wLc, wLcE, wLcZ, wLcZ3, wLcT, wLcR, wYes, wipeD, Nat.zero_add, w_common_bottom, w_whole_bases, w_scaled, w_whole_values, w_first_levels, w_next_levels, w_whole_levels, w_ratios_of, w_bottom_at, w_lt, w_le, w_gt, wTruth, sForET, w_is_base, w_check_bases, w_check_row, w_check_place, w_value_at, w_levels_at, iMulS, wCutTo, at0', at1, at2, oPow, w_purse, w_take, w_made, prD, w_ladd, w_lsub, w_lmul, ln0, ln2, ln3, ln5, ln11, sPar3, lcStep]
        rw [j4.1 _ _ hr2]
        simp only [true_and, and_true, oU2, oUn1, oL1, oS1, oR1, oJust, iAdd, iSub, iMul, iFdiv, iMod, iEq, iNe, iLt, iLe, iGt, iGe, iNeg, iAbs, DL.iStr, wFmt, wJs, wJoined, sNext, sSeq, sDrop, sRet, sRetN, sIf, sAsg, sPar, wOp, wVar, wC, wUn, wCons, wNil, wCB, wCall, wMake, wMakeSw, wCallSw, wProp, wFld, oI, oI0, oU, wTest, wAnd, wOr, wNot, wAndV, wOrV, wNotV, wIf, wTup, wLst, wLstM, gwName, gwNil, gwCons, gwTup, gwSub, oIx, oInt1, oAbsI, oLen, oGcd, oDivmod, oMax2, oMin2, oIsi, tyOf, clOf, kt_ii, kt_ib, kt_rr, kt_ir, kt_ri, kt_rb, kt_ni, kt_bi, kt_bb, kt_si, kt_ti, kt_li, kt_di, kt_nr, kt_br, kt_sr, kt_tr, kt_lr, kt_dr, oStrI, if_t1, if_f1, Bool.not_true, Bool.not_false, rt, startD, List.map_cons, List.map_nil, List.length_cons, List.length_nil, List.cons_append, List.nil_append, List.getElem?_cons_zero, List.getElem?_cons_succ, List.set_cons_zero, List.set_cons_succ, List.replicate, Nat.reduceAdd, Nat.reduceSub, Nat.zero_add, Nat.sub_self, Nat.add_sub_cancel, kt_tt, wChain, sFor, sForR, forStep, gwLst, listD, wCut, wStar, oListM, oTupl, seqD, oLcm, wCallP3, p3rev, p3mid, wAppend, lk_top, lk_bot, w1, w2, numD_int, numD_ins, w_is_int, w_is_number, wi_Ratio, w_as_ratio, w_top, w_bottom, w1r, w2r, lk_ex, wMeth, w_excess, w_lt, w_le, w_gt, w_raised, w_is_int_within, wLc, wLcE, wLcZ, wLcZ3, wLcT, wLcR, wYes, wipeD, Nat.zero_add, w_common_bottom, w_whole_bases, w_scaled, w_whole_values, w_first_levels, w_next_levels, w_whole_levels, w_ratios_of, w_bottom_at, w_lt, w_le, w_gt, wTruth, sForET, w_is_base, w_check_bases, w_check_row, w_check_place, w_value_at, w_levels_at, iMulS, wCutTo, at0', at1, at2, oPow, w_purse, w_take, w_made, prD, w_ladd, w_lsub, w_lmul, ln0, ln2, ln3, ln5, ln11, sPar3]
        rw [at_map (j := 0 + (k : Int) + 1) gy (by omega), at_map (j := 0 + (k : Int)) gx (by omega)]
        simp only [true_and, and_true, oU2, oUn1, oL1, oS1, oR1, oJust, iAdd, iSub, iMul, iFdiv, iMod, iEq, iNe, iLt, iLe, iGt, iGe, iNeg, iAbs, DL.iStr, wFmt, wJs, wJoined, sNext, sSeq, sDrop, sRet, sRetN, sIf, sAsg, sPar, wOp, wVar, wC, wUn, wCons, wNil, wCB, wCall, wMake, wMakeSw, wCallSw, wProp, wFld, oI, oI0, oU, wTest, wAnd, wOr, wNot, wAndV, wOrV, wNotV, wIf, wTup, wLst, wLstM, gwName, gwNil, gwCons, gwTup, gwSub, oIx, oInt1, oAbsI, oLen, oGcd, oDivmod, oMax2, oMin2, oIsi, tyOf, clOf, kt_ii, kt_ib, kt_rr, kt_ir, kt_ri, kt_rb, kt_ni, kt_bi, kt_bb, kt_si, kt_ti, kt_li, kt_di, kt_nr, kt_br, kt_sr, kt_tr, kt_lr, kt_dr, oStrI, if_t1, if_f1, Bool.not_true, Bool.not_false, rt, startD, List.map_cons, List.map_nil, List.length_cons, List.length_nil, List.cons_append, List.nil_append, List.getElem?_cons_zero, List.getElem?_cons_succ, List.set_cons_zero, List.set_cons_succ, List.replicate, Nat.reduceAdd, Nat.reduceSub, Nat.zero_add, Nat.sub_self, Nat.add_sub_cancel, kt_tt, wChain, sFor, sForR, forStep, gwLst, listD, wCut, wStar, oListM, oTupl, seqD, oLcm, wCallP3, p3rev, p3mid, wAppend, lk_top, lk_bot, w1, w2, numD_int, numD_ins, w_is_int, w_is_number, wi_Ratio, w_as_ratio, w_top, w_bottom, w1r, w2r, lk_ex, wMeth, w_excess, w_lt, w_le, w_gt, w_raised, w_is_int_within, wLc, wLcE, wLcZ, wLcZ3, wLcT, wLcR, wYes, wipeD, Nat.zero_add, w_common_bottom, w_whole_bases, w_scaled, w_whole_values, w_first_levels, w_next_levels, w_whole_levels, w_ratios_of, w_bottom_at, w_lt, w_le, w_gt, wTruth, sForET, w_is_base, w_check_bases, w_check_row, w_check_place, w_value_at, w_levels_at, iMulS, wCutTo, at0', at1, at2, oPow, w_purse, w_take, w_made, prD, w_ladd, w_lsub, w_lmul, ln0, ln2, ln3, ln5, ln11, sPar3]
        refine ⟨⟨okB.l9.1, okB.l9.2, ox.l9.1, ox.l9.2⟩, okB.nrm.pos, ox.nrm.pos, ⟨oy.l9.1, oy.l9.2, lm.1, lm.2.1⟩, oy.nrm.pos, lm.2.2, ?_⟩
        refine map_next (Nat.le_refl _) j4 .refl ?_ (small_line (by rw [List.length_map, stepL_len]; omega)) hn4
        rw [Nat.zero_add, List.getElem?_map, stepL_get gx gy]
        rfl
      · intro S4 j4
        rw [Nat.zero_add, show (List.range ((rowL rs ws i).length - 1)).length = ((stepL B (rowL rs ws i)).map prD).length by rw [List.length_map, stepL_len, List.length_range]] at j4
        obtain ⟨f1, f2⟩ := mutD j4
        have l3 := (List.getElem?_eq_some_iff.mp hL2).1
        have l4 := eS2.len
        exact hn _ _ ⟨eS2.trans f1, f1 _ _ hL2, S3.length, _, _, by omega, by omega, by rw [rowL_succ hp]; exact f2, rfl⟩
    · rintro ρ S' ⟨eS, hL, r, o1, o2, nr, gr, hr, rfl⟩
      simp only [true_and, and_true, oU2, oUn1, oL1, oS1, oR1, oJust, iAdd, iSub, iMul, iFdiv, iMod, iEq, iNe, iLt, iLe, iGt, iGe, iNeg, iAbs, DL.iStr, wFmt, wJs, wJoined, sNext, sSeq, sDrop, sRet, sRetN, sIf, sAsg, sPar, wOp, wVar, wC, wUn, wCons, wNil, wCB, wCall, wMake, wMakeSw, wCallSw, wProp, wFld, oI, oI0, oU, wTest, wAnd, wOr, wNot, wAndV, wOrV, wNotV, wIf, wTup, wLst, wLstM, gwName, gwNil, gwCons, gwTup, gwSub, oIx, oInt1, oAbsI, oLen, oGcd, oDivmod, oMax2, oMin2, oIsi, tyOf, clOf, kt_ii, kt_ib, kt_rr, kt_ir, kt_ri, kt_rb, kt_ni, kt_bi, kt_bb, kt_si, kt_ti, kt_li, kt_di, kt_nr, kt_br, kt_sr, kt_tr, kt_lr, kt_dr, oStrI, if_t1, if_f1, Bool.not_true, Bool.not_false, rt, startD, List.map_cons, List.map_nil, List.length_cons, List.length_nil, List.cons_append, List.nil_append, List.getElem?_cons_zero, List.getElem?_cons_succ, List.set_cons_zero, List.set_cons_succ, List.replicate, Nat.reduceAdd, Nat.reduceSub, Nat.zero_add, Nat.sub_self, Nat.add_sub_cancel, kt_tt, wChain, sFor, sForR, forStep, gwLst, listD, wCut, wStar, oListM, oTupl, seqD, oLcm, wCallP3, p3rev, p3mid, wAppend, lk_top, lk_bot, w1, w2, numD_int, numD_ins, w_is_int, w_is_number, wi_Ratio, w_as_ratio, w_top, w_bottom, w1r, w2r, lk_ex, wMeth, w_excess, w_lt, w_le, w_gt, w_raised, w_is_int_within, wLc, wLcE, wLcZ, wLcZ3, wLcT, wLcR, wYes, wipeD, Nat.zero_add, w_common_bottom, w_whole_bases, w_scaled, w_whole_values, w_first_levels, w_next_levels, w_whole_levels, w_ratios_of, w_bottom_at, w_lt, w_le, w_gt, wTruth, sForET, w_is_base, w_check_bases, w_check_row, w_check_place, w_value_at, w_levels_at, iMulS, wCutTo, at0', at1, at2, oPow, w_purse, w_take, w_made, prD, w_ladd, w_lsub, w_lmul, ln0, ln2, ln3, ln5, ln11, sPar3]
      rw [Nat.zero_add, show rs.length = (firstL rs ws).length by rw [firstL_len], List.take_length] at hL
      exact h _ _ eS (Nat.le_refl _) hL
def w_lnext : WF := fun ds S Q => match ds with
  | [.mut a, .mut b] => ∃ rs ls : List Pr, S[a]? = some (rs.map prD) ∧ S[b]? = some (ls.map prD) ∧ rs.length = ls.length ∧ 1 ≤ rs.length ∧ rs.length ≤ 6 ∧ (∀ r ∈ rs, Okp r) ∧ (∀ r ∈ ls, Okp r) ∧ ∀ S' k, Ext S S' → S'[k]? = some ((nextL rs ls).map prD) → Q (.mut k) S'
  | _ => False
theorem sc__law_next : FnScope ["roots", "levels", "found", "k"] ["roots", "levels"] (defScope s__law_next) := ⟨rfl, rfl, rfl, by decide +kernel, rfl, by decide +kernel, by decide +kernel⟩
theorem ok__law_next (T : Tx K mg) : FnOk P w K mg base CX0 3 T.f__law_next T.fd__law_next ["roots", "levels"] (spW ⟨K, mg⟩ 2 w_lnext) := by
  refine fnD (k := 2) T.F__law_next sc__law_next (fun cdv A outer s H E hr => ⟨_, (dss_cons (ds_set (i := 2) sc__law_next.nd (d_lcR (own := [("k", 3)]) rfl sc__law_next.nd T.z_range (da_cons (d_callB call_len_seq snd_len T.z_len (da_cons (dv 0) da_nil) (hv := bt_len)) da_nil) (blkOk_by (own := [("k", 3)]) (N := ["roots", "levels", "found", "k"]) (sc := defScope s__law_next) (by decide +kernel)) (gown_name (by decide)) (fun _ _ _ _ _ => (dg_name (i := 3) sc__law_next.nd)) (fun _ _ _ _ _ => dts_nil) (fun _ _ _ _ _ => (d_callC (ok__law_mul T) (hr.mono (by decide)) T.m__law_mul T.F__law_mul.kp T.b__law_mul (da_cons (d_ixC (G' := ⟨K, mg⟩) (dv 0) (dv 3)) (da_cons (d_ixC (G' := ⟨K, mg⟩) (dv 1) (dv 3)) da_nil))))))
  (dss_one (ds_ret (d_op op_cat snd_catLM (d_lcR (own := [("k", 3)]) rfl sc__law_next.nd T.z_range (da_cons (d_op op_sub snd_iSub (d_callB call_len_seq snd_len T.z_len (da_cons (dv 0) da_nil) (hv := bt_len)) d_int) da_nil) (blkOk_by (own := [("k", 3)]) (N := ["roots", "levels", "found", "k"]) (sc := defScope s__law_next) (by decide +kernel)) (gown_name (by decide)) (fun _ _ _ _ _ => (dg_name (i := 3) sc__law_next.nd)) (fun _ _ _ _ _ => dts_nil) (fun _ _ _ _ _ => (d_callC (ok__law_add T) (hr.mono (by decide)) T.m__law_add T.F__law_add.kp T.b__law_add (da_cons (d_ixC (G' := ⟨K, mg⟩) (dv 2) (dv 3)) (da_cons (d_ixC (G' := ⟨K, mg⟩) (dv 1) (d_op op_add snd_iAdd (dv 3) d_int)) da_nil))))) (d_cutFromN (dv 2))))))⟩) (fun ds S Q hl h => ?_)
  match ds, h with
  | [.mut a, .mut b], ⟨rs, ls, hA, hB, hl, l1, h6, okr, okl, h⟩ =>
    simp only [true_and, and_true, oU2, oUn1, oL1, oS1, oR1, oJust, iAdd, iSub, iMul, iFdiv, iMod, iEq, iNe, iLt, iLe, iGt, iGe, iNeg, iAbs, DL.iStr, wFmt, wJs, wJoined, sNext, sSeq, sDrop, sRet, sRetN, sIf, sAsg, sPar, wOp, wVar, wC, wUn, wCons, wNil, wCB, wCall, wMake, wMakeSw, wCallSw, wProp, wFld, oI, oI0, oU, wTest, wAnd, wOr, wNot, wAndV, wOrV, wNotV, wIf, wTup, wLst, wLstM, gwName, gwNil, gwCons, gwTup, gwSub, oIx, oInt1, oAbsI, oLen, oGcd, oDivmod, oMax2, oMin2, oIsi, tyOf, clOf, kt_ii, kt_ib, kt_rr, kt_ir, kt_ri, kt_rb, kt_ni, kt_bi, kt_bb, kt_si, kt_ti, kt_li, kt_di, kt_nr, kt_br, kt_sr, kt_tr, kt_lr, kt_dr, oStrI, if_t1, if_f1, Bool.not_true, Bool.not_false, rt, startD, List.map_cons, List.map_nil, List.length_cons, List.length_nil, List.cons_append, List.nil_append, List.getElem?_cons_zero, List.getElem?_cons_succ, List.set_cons_zero, List.set_cons_succ, List.replicate, Nat.reduceAdd, Nat.reduceSub, Nat.zero_add, Nat.sub_self, Nat.add_sub_cancel, kt_tt, wChain, sFor, sForR, forStep, gwLst, listD, wCut, wStar, oListM, oTupl, seqD, oLcm, wCallP3, p3rev, p3mid, wAppend, lk_top, lk_bot, w1, w2, numD_int, numD_ins, w_is_int, w_is_number, wi_Ratio, w_as_ratio, w_top, w_bottom, w1r, w2r, lk_ex, wMeth, w_excess, w_lt, w_le, w_gt, w_raised, w_is_int_within, wLc, wLcE, wLcZ, wLcZ3, wLcT, wLcR, wYes, wipeD, Nat.zero_add, w_common_bottom, w_whole_bases, w_scaled, w_whole_values, w_first_levels, w_next_levels, w_whole_levels, w_ratios_of, w_bottom_at, w_lt, w_le, w_gt, wTruth, sForET, w_is_base, w_check_bases, w_check_row, w_check_place, w_value_at, w_levels_at, iMulS, wCutTo, at0', at1, at2, oPow, w_purse, w_take, w_made, prD, w_ladd, w_lsub, w_lmul, ln0, ln2, ln3, ln5, ln11, sPar3, w_llevels]
    refine ⟨_, hA, ⟨by simp <;> omega, by simp <;> omega⟩, ?_⟩
    rw [show ((rs.map prD).length : Int).toNat = rs.length by rw [List.length_map]; omega, rangeD_map]
    refine lcD_run (fun i : Nat => D.int (0 + i)) (MapJ S S.length ((prodL rs ls).map prD)) (List.range rs.length) 0 ?_ ?_ _ MapJ.start
    · intro k x S4 nx4 hk j4 hn4
      have kl := (List.getElem?_eq_some_iff.mp hk).1
      rw [List.length_range] at kl
      rw [List.getElem?_range kl] at hk
      cases hk
      obtain ⟨x, gx⟩ : ∃ x, rs[k]? = some x := ⟨_, List.getElem?_eq_getElem (by omega)⟩
      obtain ⟨y, gy⟩ : ∃ x, ls[k]? = some x := ⟨_, List.getElem?_eq_getElem (by omega)⟩
      have ox := okr _ (get_mem gx)
      have oy := okl _ (get_mem gy)
      simp only [true_and, and_true, oU2, oUn1, oL1, oS1, oR1, oJust, iAdd, iSub, iMul, iFdiv, iMod, iEq, iNe, iLt, iLe, iGt, iGe, iNeg, iAbs, DL.iStr, wFmt, wJs, wJoined, sNext, sSeq, sDrop, sRet, sRetN, sIf, sAsg, sPar, wOp, wVar, wC, wUn, wCons, wNil, wCB, wCall, wMake, wMakeSw, wCallSw, wProp, wFld, oI, oI0, oU, wTest, wAnd, wOr, wNot, wAndV, wOrV, wNotV, wIf, wTup, wLst, wLstM, gwName, gwNil, gwCons, gwTup, gwSub, oIx, oInt1, oAbsI, oLen, oGcd, oDivmod, oMax2, oMin2, oIsi, tyOf, clOf, kt_ii, kt_ib, kt_rr, kt_ir, kt_ri, kt_rb, kt_ni, kt_bi, kt_bb, kt_si, kt_ti, kt_li, kt_di, kt_nr, kt_br, kt_sr, kt_tr, kt_lr, kt_dr, oStrI, if_t1, if_f1, Bool.not_true, Bool.not_false, rt, startD, List.map_cons, List.map_nil, List.length_cons, List.length_nil, List.cons_append, List.nil_append, List.getElem?_cons_zero, List.getElem?_cons_succ, List.set_cons_zero, List.set_cons_succ, List.replicate, Nat.reduceAdd, Nat.reduceSub, Nat.zero_add, Nat.sub_self, Nat.add_sub_cancel, kt_tt, wChain, sFor, sForR, forStep, gwLst, listD, wCut, wStar, oListM, oTupl, seqD, oLcm, wCallP3, p3rev, p3mid, wAppend, lk_top, lk_bot, w1, w2, numD_int, numD_ins, w_is_int, w_is_number, wi_Ratio, w_as_ratio, w_top, w_bottom, w1r, w2r, lk_ex, wMeth, w_excess, w_lt, w_le, w_gt, w_raised, w_is_int_within, wLc, wLcE, wLcZ, wLcZ3, wLcT, wLcR, wYes, wipeD, Nat.zero_add, w_common_bottom, w_whole_bases, w_scaled, w_whole_values, w_first_levels, w_next_levels, w_whole_levels, w_ratios_of, w_bottom_at, w_lt, w_le, w_gt, wTruth, sForET, w_is_base, w_check_bases, w_check_row, w_check_place, w_value_at, w_levels_at, iMulS, wCutTo, at0', at1, at2, oPow, w_purse, w_take, w_made, prD, w_ladd, w_lsub, w_lmul, ln0, ln2, ln3, ln5, ln11, sPar3, w_llevels, lcStep]
      rw [j4.1 _ _ hA, j4.1 _ _ hB]
      simp only [true_and, and_true, oU2, oUn1, oL1, oS1, oR1, oJust, iAdd, iSub, iMul, iFdiv, iMod, iEq, iNe, iLt, iLe, iGt, iGe, iNeg, iAbs, DL.iStr, wFmt, wJs, wJoined, sNext, sSeq, sDrop, sRet, sRetN, sIf, sAsg, sPar, wOp, wVar, wC, wUn, wCons, wNil, wCB, wCall, wMake, wMakeSw, wCallSw, wProp, wFld, oI, oI0, oU, wTest, wAnd, wOr, wNot, wAndV, wOrV, wNotV, wIf, wTup, wLst, wLstM, gwName, gwNil, gwCons, gwTup, gwSub, oIx, oInt1, oAbsI, oLen, oGcd, oDivmod, oMax2, oMin2, oIsi, tyOf, clOf, kt_ii, kt_ib, kt_rr, kt_ir, kt_ri, kt_rb, kt_ni, kt_bi, kt_bb, kt_si, kt_ti, kt_li, kt_di, kt_nr, kt_br, kt_sr, kt_tr, kt_lr, kt_dr, oStrI, if_t1, if_f1, Bool.not_true, Bool.not_false, rt, startD, List.map_cons, List.map_nil, List.length_cons, List.length_nil, List.cons_append, List.nil_append, List.getElem?_cons_zero, List.getElem?_cons_succ, List.set_cons_zero, List.set_cons_succ, List.replicate, Nat.reduceAdd, Nat.reduceSub, Nat.zero_add, Nat.sub_self, Nat.add_sub_cancel, kt_tt, wChain, sFor, sForR, forStep, gwLst, listD, wCut, wStar, oListM, oTupl, seqD, oLcm, wCallP3, p3rev, p3mid, wAppend, lk_top, lk_bot, w1, w2, numD_int, numD_ins, w_is_int, w_is_number, wi_Ratio, w_as_ratio, w_top, w_bottom, w1r, w2r, lk_ex, wMeth, w_excess, w_lt, w_le, w_gt, w_raised, w_is_int_within, wLc, wLcE, wLcZ, wLcZ3, wLcT, wLcR, wYes, wipeD, Nat.zero_add, w_common_bottom, w_whole_bases, w_scaled, w_whole_values, w_first_levels, w_next_levels, w_whole_levels, w_ratios_of, w_bottom_at, w_lt, w_le, w_gt, wTruth, sForET, w_is_base, w_check_bases, w_check_row, w_check_place, w_value_at, w_levels_at, iMulS, wCutTo, at0', at1, at2, oPow, w_purse, w_take, w_made, prD, w_ladd, w_lsub, w_lmul, ln0, ln2, ln3, ln5, ln11, sPar3, w_llevels]
      rw [at_map (j := 0 + (k : Int)) gx (by omega), at_map (j := 0 + (k : Int)) gy (by omega)]
      simp only [true_and, and_true, oU2, oUn1, oL1, oS1, oR1, oJust, iAdd, iSub, iMul, iFdiv, iMod, iEq, iNe, iLt, iLe, iGt, iGe, iNeg, iAbs, DL.iStr, wFmt, wJs, wJoined, sNext, sSeq, sDrop, sRet, sRetN, sIf, sAsg, sPar, wOp, wVar, wC, wUn, wCons, wNil, wCB, wCall, wMake, wMakeSw, wCallSw, wProp, wFld, oI, oI0, oU, wTest, wAnd, wOr, wNot, wAndV, wOrV, wNotV, wIf, wTup, wLst, wLstM, gwName, gwNil, gwCons, gwTup, gwSub, oIx, oInt1, oAbsI, oLen, oGcd, oDivmod, oMax2, oMin2, oIsi, tyOf, clOf, kt_ii, kt_ib, kt_rr, kt_ir, kt_ri, kt_rb, kt_ni, kt_bi, kt_bb, kt_si, kt_ti, kt_li, kt_di, kt_nr, kt_br, kt_sr, kt_tr, kt_lr, kt_dr, oStrI, if_t1, if_f1, Bool.not_true, Bool.not_false, rt, startD, List.map_cons, List.map_nil, List.length_cons, List.length_nil, List.cons_append, List.nil_append, List.getElem?_cons_zero, List.getElem?_cons_succ, List.set_cons_zero, List.set_cons_succ, List.replicate, Nat.reduceAdd, Nat.reduceSub, Nat.zero_add, Nat.sub_self, Nat.add_sub_cancel, kt_tt, wChain, sFor, sForR, forStep, gwLst, listD, wCut, wStar, oListM, oTupl, seqD, oLcm, wCallP3, p3rev, p3mid, wAppend, lk_top, lk_bot, w1, w2, numD_int, numD_ins, w_is_int, w_is_number, wi_Ratio, w_as_ratio, w_top, w_bottom, w1r, w2r, lk_ex, wMeth, w_excess, w_lt, w_le, w_gt, w_raised, w_is_int_within, wLc, wLcE, wLcZ, wLcZ3, wLcT, wLcR, wYes, wipeD, Nat.zero_add, w_common_bottom, w_whole_bases, w_scaled, w_whole_values, w_first_levels, w_next_levels, w_whole_levels, w_ratios_of, w_bottom_at, w_lt, w_le, w_gt, wTruth, sForET, w_is_base, w_check_bases, w_check_row, w_check_place, w_value_at, w_levels_at, iMulS, wCutTo, at0', at1, at2, oPow, w_purse, w_take, w_made, prD, w_ladd, w_lsub, w_lmul, ln0, ln2, ln3, ln5, ln11, sPar3, w_llevels]
      refine ⟨⟨ox.l9.1, ox.l9.2, oy.l9.1, oy.l9.2⟩, ox.nrm.pos, oy.nrm.pos, ?_⟩
      refine map_next (Nat.le_refl _) j4 .refl ?_ (small_line (by unfold prodL; simp; omega)) hn4
      rw [Nat.zero_add, List.getElem?_map, prodL_get gx gy]
      rfl
    · intro S2 j2
      have pl : (prodL rs ls).length = rs.length := by unfold prodL; simp; omega
      rw [Nat.zero_add, show (List.range rs.length).length = ((prodL rs ls).map prD).length by rw [List.length_map, pl, List.length_range]] at j2
      obtain ⟨e2, hF⟩ := mutD j2
      have hA2 := e2 _ _ hA
      have hB2 := e2 _ _ hB
      generalize S.length = fk at hF ⊢
      refine ⟨_, hA2, ⟨by simp <;> omega, by simp <;> omega⟩, ?_⟩
      rw [show ((rs.map prD).length - 1 : Int).toNat = rs.length - 1 by rw [List.length_map]; omega, rangeD_map]
      refine lcD_run (fun i : Nat => D.int (0 + i)) (MapJ S2 S2.length ((frontL rs ls).map prD)) (List.range (rs.length - 1)) 0 ?_ ?_ _ MapJ.start
      · intro k x S4 nx4 hk j4 hn4
        have kl := (List.getElem?_eq_some_iff.mp hk).1
        rw [List.length_range] at kl
        rw [List.getElem?_range kl] at hk
        cases hk
        obtain ⟨b', gb⟩ : ∃ x, rs[k]? = some x := ⟨_, List.getElem?_eq_getElem (by omega)⟩
        obtain ⟨x, gx⟩ : ∃ x, ls[k]? = some x := ⟨_, List.getElem?_eq_getElem (by omega)⟩
        obtain ⟨y, gy⟩ : ∃ x, ls[k + 1]? = some x := ⟨_, List.getElem?_eq_getElem (by omega)⟩
        have ob := okr _ (get_mem gb)
        have ox := okl _ (get_mem gx)
        have oy := okl _ (get_mem gy)
        have lm := mul_l9 ob ox
        simp only [true_and, and_true, oU2, oUn1, oL1, oS1, oR1, oJust, iAdd, iSub, iMul, iFdiv, iMod, iEq, iNe, iLt, iLe, iGt, iGe, iNeg, iAbs, DL.iStr, wFmt, wJs, wJoined, sNext, sSeq, sDrop, sRet, sRetN, sIf, sAsg, sPar, wOp, wVar, wC, wUn, wCons, wNil, wCB, wCall, wMake, wMakeSw, wCallSw, wProp, wFld, oI, oI0, oU, wTest, wAnd, wOr, wNot, wAndV, wOrV, wNotV, wIf, wTup, wLst, wLstM, gwName, gwNil, gwCons, gwTup, gwSub, oIx, oInt1, oAbsI, oLen, oGcd, oDivmod, oMax2, oMin2, oIsi, tyOf, clOf, kt_ii, kt_ib, kt_rr, kt_ir, kt_ri, kt_rb, kt_ni, kt_bi, kt_bb, kt_si, kt_ti, kt_li, kt_di, kt_nr, kt_br, kt_sr, kt_tr, kt_lr, kt_dr, oStrI, if_t1, if_f1, Bool.not_true, Bool.not_false, rt, startD, List.map_cons, List.map_nil, List.length_cons, List.length_nil, List.cons_append, List.nil_append, List.getElem?_cons_zero, List.getElem?_cons_succ, List.set_cons_zero, List.set_cons_succ, List.replicate, Nat.reduceAdd, Nat.reduceSub, Nat.zero_add, Nat.sub_self, Nat.add_sub_cancel, kt_tt, wChain, sFor, sForR, forStep, gwLst, listD, wCut, wStar, oListM, oTupl, seqD, oLcm, wCallP3, p3rev, p3mid, wAppend, lk_top, lk_bot, w1, w2, numD_int, numD_ins, w_is_int, w_is_number, wi_Ratio, w_as_ratio, w_top, w_bottom, w1r, w2r, lk_ex, wMeth, w_excess, w_lt, w_le, w_gt, w_raised, w_is_int_within, wLc, wLcE, wLcZ, wLcZ3, wLcT, wLcR, wYes, wipeD, Nat.zero_add, w_common_bottom, w_whole_bases, w_scaled, w_whole_values, w_first_levels, w_next_levels, w_whole_levels, w_ratios_of, w_bottom_at, w_lt, w_le, w_gt, wTruth, sForET, w_is_base, w_check_bases, w_check_row, w_check_place, w_value_at, w_levels_at, iMulS, wCutTo, at0', at1, at2, oPow, w_purse, w_take, w_made, prD, w_ladd, w_lsub, w_lmul, ln0, ln2, ln3, ln5, ln11, sPar3, w_llevels, lcStep]
        rw [j4.1 _ _ hF, j4.1 _ _ hB2]
        simp only [true_and, and_true, oU2, oUn1, oL1, oS1, oR1, oJust, iAdd, iSub, iMul, iFdiv, iMod, iEq, iNe, iLt, iLe, iGt, iGe, iNeg, iAbs, DL.iStr, wFmt, wJs, wJoined, sNext, sSeq, sDrop, sRet, sRetN, sIf, sAsg, sPar, wOp, wVar, wC, wUn, wCons, wNil, wCB, wCall, wMake, wMakeSw, wCallSw, wProp, wFld, oI, oI0, oU, wTest, wAnd, wOr, wNot, wAndV, wOrV, wNotV, wIf, wTup, wLst, wLstM, gwName, gwNil, gwCons, gwTup, gwSub, oIx, oInt1, oAbsI, oLen, oGcd, oDivmod, oMax2, oMin2, oIsi, tyOf, clOf, kt_ii, kt_ib, kt_rr, kt_ir, kt_ri, kt_rb, kt_ni, kt_bi, kt_bb, kt_si, kt_ti, kt_li, kt_di, kt_nr, kt_br, kt_sr, kt_tr, kt_lr, kt_dr, oStrI, if_t1, if_f1, Bool.not_true, Bool.not_false, rt, startD, List.map_cons, List.map_nil, List.length_cons, List.length_nil, List.cons_append, List.nil_append, List.getElem?_cons_zero, List.getElem?_cons_succ, List.set_cons_zero, List.set_cons_succ, List.replicate, Nat.reduceAdd, Nat.reduceSub, Nat.zero_add, Nat.sub_self, Nat.add_sub_cancel, kt_tt, wChain, sFor, sForR, forStep, gwLst, listD, wCut, wStar, oListM, oTupl, seqD, oLcm, wCallP3, p3rev, p3mid, wAppend, lk_top, lk_bot, w1, w2, numD_int, numD_ins, w_is_int, w_is_number, wi_Ratio, w_as_ratio, w_top, w_bottom, w1r, w2r, lk_ex, wMeth, w_excess, w_lt, w_le, w_gt, w_raised, w_is_int_within, wLc, wLcE, wLcZ, wLcZ3, wLcT, wLcR, wYes, wipeD, Nat.zero_add, w_common_bottom, w_whole_bases, w_scaled, w_whole_values, w_first_levels, w_next_levels, w_whole_levels, w_ratios_of, w_bottom_at, w_lt, w_le, w_gt, wTruth, sForET, w_is_base, w_check_bases, w_check_row, w_check_place, w_value_at, w_levels_at, iMulS, wCutTo, at0', at1, at2, oPow, w_purse, w_take, w_made, prD, w_ladd, w_lsub, w_lmul, ln0, ln2, ln3, ln5, ln11, sPar3, w_llevels]
        rw [at_map (j := 0 + (k : Int)) (prodL_get gb gx) (by omega), at_map (j := 0 + (k : Int) + 1) gy (by omega)]
        simp only [true_and, and_true, oU2, oUn1, oL1, oS1, oR1, oJust, iAdd, iSub, iMul, iFdiv, iMod, iEq, iNe, iLt, iLe, iGt, iGe, iNeg, iAbs, DL.iStr, wFmt, wJs, wJoined, sNext, sSeq, sDrop, sRet, sRetN, sIf, sAsg, sPar, wOp, wVar, wC, wUn, wCons, wNil, wCB, wCall, wMake, wMakeSw, wCallSw, wProp, wFld, oI, oI0, oU, wTest, wAnd, wOr, wNot, wAndV, wOrV, wNotV, wIf, wTup, wLst, wLstM, gwName, gwNil, gwCons, gwTup, gwSub, oIx, oInt1, oAbsI, oLen, oGcd, oDivmod, oMax2, oMin2, oIsi, tyOf, clOf, kt_ii, kt_ib, kt_rr, kt_ir, kt_ri, kt_rb, kt_ni, kt_bi, kt_bb, kt_si, kt_ti, kt_li, kt_di, kt_nr, kt_br, kt_sr, kt_tr, kt_lr, kt_dr, oStrI, if_t1, if_f1, Bool.not_true, Bool.not_false, rt, startD, List.map_cons, List.map_nil, List.length_cons, List.length_nil, List.cons_append, List.nil_append, List.getElem?_cons_zero, List.getElem?_cons_succ, List.set_cons_zero, List.set_cons_succ, List.replicate, Nat.reduceAdd, Nat.reduceSub, Nat.zero_add, Nat.sub_self, Nat.add_sub_cancel, kt_tt, wChain, sFor, sForR, forStep, gwLst, listD, wCut, wStar, oListM, oTupl, seqD, oLcm, wCallP3, p3rev, p3mid, wAppend, lk_top, lk_bot, w1, w2, numD_int, numD_ins, w_is_int, w_is_number, wi_Ratio, w_as_ratio, w_top, w_bottom, w1r, w2r, lk_ex, wMeth, w_excess, w_lt, w_le, w_gt, w_raised, w_is_int_within, wLc, wLcE, wLcZ, wLcZ3, wLcT, wLcR, wYes, wipeD, Nat.zero_add, w_common_bottom, w_whole_bases, w_scaled, w_whole_values, w_first_levels, w_next_levels, w_whole_levels, w_ratios_of, w_bottom_at, w_lt, w_le, w_gt, wTruth, sForET, w_is_base, w_check_bases, w_check_row, w_check_place, w_value_at, w_levels_at, iMulS, wCutTo, at0', at1, at2, oPow, w_purse, w_take, w_made, prD, w_ladd, w_lsub, w_lmul, ln0, ln2, ln3, ln5, ln11, sPar3, w_llevels]
        refine ⟨⟨lm.1, lm.2.1, oy.l9.1, oy.l9.2⟩, lm.2.2, oy.nrm.pos, ?_⟩
        refine map_next (Nat.le_refl _) j4 .refl ?_ (small_line (by unfold frontL; simp; omega)) hn4
        rw [Nat.zero_add, List.getElem?_map, frontL_get hl gb gx gy]
        rfl
      · intro S3 j3
        have fl : (frontL rs ls).length = rs.length - 1 := by unfold frontL; simp; omega
        rw [Nat.zero_add, show (List.range (rs.length - 1)).length = ((frontL rs ls).map prD).length by rw [List.length_map, fl, List.length_range]] at j3
        obtain ⟨e3, hG⟩ := mutD j3
        have hF3 := e3 _ _ hF
        refine ⟨_, hF3, _, _, hG, rfl, ?_, ?_⟩
        · rw [cut_last (by rw [List.length_map]; omega), List.length_drop, List.length_map, List.length_map]
          exact small_line (by omega)
        · rw [cut_last (by rw [List.length_map]; omega), List.length_map, pl, ← List.map_drop, ← List.map_append, ← nextL_eq]
          exact h _ _ ((e2.trans e3).trans Ext.app) new_at
end
end K1
set_option Elab.async false
set_option linter.all false
set_option maxRecDepth 100000
set_option maxHeartbeats 0
namespace K1
open PySem PySem.Spec PyProof.Rows L2 DL
section
variable {P : Program} {w : World} {K : PySem.W.Frag} {mg : Str → Option Value} {base : Heap}
/-! ### data compared -/
def pdat (p : Pr) : PyData := .tuple [.int p.1, .int p.2]
theorem dat_prs (S : MS) : ∀ ls : List Pr, datL S (ls.map prD) = some (ls.map pdat)
  | [] => rfl
  | p :: ls => by
    show (match dat S (prD p), datL S (ls.map prD) with
      | some a, some l => some (a :: l)
      | _, _ => none) = _
    rw [dat_prs S ls]
    rfl
theorem lay_prs : ∀ ls : List Pr, PyData.canLayAll0 (ls.map pdat) = true
  | [] => rfl
  | p :: ls => by
    show (PyData.canLay0 (pdat p) && PyData.canLayAll0 (ls.map pdat)) = true
    rw [lay_prs ls]
    rfl
theorem dep_prs : ∀ ls : List Pr, PyData.depthAll (ls.map pdat) ≤ 3
  | [] => by decide
  | p :: ls => by
    show max (PyData.depth (pdat p)) (PyData.depthAll (ls.map pdat)) ≤ 3
    have h := dep_prs ls
    have e : PyData.depth (pdat p) ≤ 3 := by simp [pdat, PyData.depth, PyData.depthAll]
    omega
theorem shp_prs (ls : List Pr) : SeqAt.shaped (.list (ls.map pdat)) = true := by
  unfold SeqAt.shaped
  have h : PyData.canLay0 (.list (ls.map pdat)) = true := lay_prs ls
  have d : PyData.depth (.list (ls.map pdat)) ≤ 64 := by
    show PyData.depthAll (ls.map pdat) + 1 ≤ 64
    have := dep_prs ls
    omega
  rw [h, decide_eq_true d]
  rfl
theorem shp_pr (p : Pr) : SeqAt.shaped (pdat p) = true := by
  simp [SeqAt.shaped, pdat, PyData.canLay0, PyData.canLayAll0, PyData.depth, PyData.depthAll]
theorem eqv_prs (ls : List Pr) : PyData.eqv (.list (ls.map pdat)) (.list (ls.map pdat)) = true := PySem.SeqAt.eqv_refl _ (lay_prs ls)
theorem eqv_pr (p : Pr) : PyData.eqv (pdat p) (pdat p) = true := by simp [pdat, PyData.eqv, PyData.eqvAll]
theorem datM_prs {S : MS} {m : Nat} {ls : List Pr} (h : S[m]? = some (ls.map prD)) : datM S (.mut m) = some (.list (ls.map pdat)) := by
  rw [datM, h, Option.bind_some, dat_prs]
  rfl
theorem neM {S : MS} {a b : Nat} {ls : List Pr} {Q : D → MS → Prop} (ha : S[a]? = some (ls.map prD)) (hb : S[b]? = some (ls.map prD)) (q : Q (.bl false) S) : oNeD (.mut a) (.mut b) S Q := by
  refine ⟨_, _, datM_prs ha, datM_prs hb, shp_prs ls, shp_prs ls, ?_⟩
  rw [eqv_prs]
  exact q
theorem eqM {S : MS} {a b : Nat} {ls : List Pr} {Q : D → MS → Prop} (ha : S[a]? = some (ls.map prD)) (hb : S[b]? = some (ls.map prD)) (q : Q (.bl true) S) : oEqD (.mut a) (.mut b) S Q := by
  refine ⟨_, _, datM_prs ha, datM_prs hb, shp_prs ls, shp_prs ls, ?_⟩
  rw [eqv_prs]
  exact q
theorem neT {S : MS} {p : Pr} {Q : D → MS → Prop} (q : Q (.bl false) S) : oNeD (prD p) (prD p) S Q := by
  refine ⟨pdat p, pdat p, rfl, rfl, shp_pr p, shp_pr p, ?_⟩
  rw [eqv_pr]
  exact q
/-! ### what is drawn -/
theorem Pu.ext {S S' : MS} {d : Nat} {c : Int} (h : Pu S d c) (e : Ext S S') : Pu S' d c := by
  obtain ⟨f, s, h1, h2, h3, h4⟩ := h
  exact ⟨f, s, e _ _ h1, h2, h3, h4⟩
theorem Pu.set {S : MS} {d m : Nat} {c : Int} {x : List D} (h : Pu S d c) (n : d ≠ m) : Pu (S.set m x) d c := by
  obtain ⟨f, s, h1, h2, h3, h4⟩ := h
  exact ⟨f, s, ne_get h1 n, h2, h3, h4⟩
theorem Pu.lt {S : MS} {d : Nat} {c : Int} (h : Pu S d c) : d < S.length := by
  obtain ⟨f, s, h1, _⟩ := h
  exact (List.getElem?_eq_some_iff.mp h1).1
def menuP : List Pr := [(1, 9), (1, 3), (1, 2), (2, 3), (8, 9), (1, 1), (9, 8), (3, 2), (2, 1), (3, 1), (7, 1)]
def mAt (a : Nat) : Pr := menuP.getD a (0, 1)
theorem menu_ok : ∀ a : Fin 11, (0 < (mAt a).2 ∧ gc (mAt a).1 (mAt a).2 = 1) ∧ (mAt a).2.natAbs ∣ 72 ∧ (mAt a).1.natAbs < 2 ^ 10 ∧ 0 < (mAt a).1 := by decide +kernel
theorem menu_asc : ∀ a b : Fin 11, a ≤ b → (mAt a).1 * (mAt b).2 ≤ (mAt b).1 * (mAt a).2 := by decide +kernel
theorem menu_get {a : Nat} (h : a ≤ 10) : menuP[a]? = some (mAt a) := by
  unfold mAt
  rw [List.getD_eq_getElem?_getD, List.getElem?_eq_getElem (show a < menuP.length by show a < 11; omega)]
  rfl
def Chain (is : List Nat) : Prop := ∀ (j a b : Nat), is[j]? = some a → is[j + 1]? = some b → a ≤ b
structure RootsOk (rs : List Pr) : Prop where
  small : Small 72 rs
  rising : Rising rs
theorem roots_ok {is : List Nat} (h1 : 1 ≤ is.length) (h6 : is.length ≤ 6) (hm : ∀ a ∈ is, a ≤ 10) (hc : Chain is) : RootsOk (is.map mAt) := by
  have key : ∀ a ∈ is, (0 < (mAt a).2 ∧ gc (mAt a).1 (mAt a).2 = 1) ∧ (mAt a).2.natAbs ∣ 72 ∧ (mAt a).1.natAbs < 2 ^ 10 ∧ 0 < (mAt a).1 := fun a ha => menu_ok ⟨a, by have := hm a ha; omega⟩
  refine ⟨⟨by simpa using h1, by simpa using h6, by decide, by decide, fun p hp => ?_⟩, fun p hp => ?_, fun i p q h1 h2 => ?_⟩
  · obtain ⟨a, ha, rfl⟩ := List.mem_map.mp hp
    have k := key a ha
    exact ⟨⟨k.1.1, k.1.2⟩, k.2.1, k.2.2.1⟩
  · obtain ⟨a, ha, rfl⟩ := List.mem_map.mp hp
    exact (key a ha).2.2.2
  · rw [List.getElem?_map, Option.map_eq_some_iff] at h1 h2
    obtain ⟨a, ha, rfl⟩ := h1
    obtain ⟨b, hb, rfl⟩ := h2
    exact menu_asc ⟨a, by have := hm a (get_mem ha); omega⟩ ⟨b, by have := hm b (get_mem hb); omega⟩ (hc i a b ha hb)
theorem chain_app {is : List Nat} {a b : Nat} (hc : Chain is) (ha : ∀ x ∈ is, x ≤ a) (hb : a ≤ b) : Chain (is ++ [b]) := by
  intro j x y h1 h2
  have l2 := (List.getElem?_eq_some_iff.mp h2).1
  rw [List.length_append, List.length_singleton] at l2
  have l1 : j < is.length := by omega
  rw [List.getElem?_append_left l1] at h1
  by_cases l3 : j + 1 < is.length
  · rw [List.getElem?_append_left l3] at h2
    exact hc j x y h1 h2
  · rw [List.getElem?_append_right (by omega), show j + 1 - is.length = 0 by omega] at h2
    cases h2
    exact Nat.le_trans (ha x (get_mem h1)) hb

def w_dbases : WF := fun ds S Q => match ds with
  | [.mut d, .int m] => m = 6 ∧ ∃ c, Pu S d c ∧ 0 ≤ c ∧ c ≤ 90000 ∧ ∀ (rs : List Pr) (S' : MS) (k : Nat) (c' : Int), RootsOk rs → Pu S' d c' → c ≤ c' → c' ≤ c + 10 → ExtB d S S' → S.length ≤ k → S'[k]? = some (rs.map prD) → Q (.mut k) S'
  | _ => False
theorem sc__law_drawn_bases : FnScope ["draws", "most", "menu", "at", "found", "turn"] ["draws", "most"] (defScope s__law_drawn_bases) := ⟨rfl, rfl, rfl, by decide +kernel, rfl, by decide +kernel, by decide +kernel⟩
theorem ok__law_drawn_bases (T : Tx K mg) : FnOk P w K mg base CX0 2 T.f__law_drawn_bases T.fd__law_drawn_bases ["draws", "most"] (spW ⟨K, mg⟩ 2 w_dbases) := by
  refine fnD (k := 1) T.F__law_drawn_bases sc__law_drawn_bases (fun cdv A outer s H E hr => ⟨_, (dss_cons (ds_par3 (i := 2) (j := 3) (l := 4) rfl sc__law_drawn_bases.nd (da_cons (d_lst (da_cons (d_tup (da_cons d_int (da_cons d_int da_nil))) (da_cons (d_tup (da_cons d_int (da_cons d_int da_nil))) (da_cons (d_tup (da_cons d_int (da_cons d_int da_nil))) (da_cons (d_tup (da_cons d_int (da_cons d_int da_nil))) (da_cons (d_tup (da_cons d_int (da_cons d_int da_nil))) (da_cons (d_tup (da_cons d_int (da_cons d_int da_nil))) (da_cons (d_tup (da_cons d_int (da_cons d_int da_nil))) (da_cons (d_tup (da_cons d_int (da_cons d_int da_nil))) (da_cons (d_tup (da_cons d_int (da_cons d_int da_nil))) (da_cons (d_tup (da_cons d_int (da_cons d_int da_nil))) (da_cons (d_tup (da_cons d_int (da_cons d_int da_nil))) da_nil)))))))))))) (da_cons d_int (da_cons (d_lstM da_nil) da_nil))))
  (dss_cons (ds_forR PassesOwn.never rfl T.z_range (da_cons (d_op op_add snd_iAdd d_int (d_call (ok__law_take T) (hr.mono (by decide)) T.m__law_take T.F__law_take.kp T.b__law_take (da_cons (dv 0) (da_cons (dv 1) da_nil)))) da_nil) (dg_name (i := 5) sc__law_drawn_bases.nd) (dss_cons (ds_set (i := 3) sc__law_drawn_bases.nd (d_callB (call_min2 rfl) snd_min2 T.z_min (da_cons (d_op op_add snd_iAdd (dv 3) (d_call (ok__law_take T) (hr.mono (by decide)) T.m__law_take T.F__law_take.kp T.b__law_take (da_cons (dv 0) (da_cons d_int da_nil)))) (da_cons d_int da_nil)) (hv := bt_min)))
  (dss_one (ds_expr (d_append (dv 4) (da_cons (d_ix (dv 2) (dv 3)) da_nil))))))
  (dss_one (ds_ret (dv 4)))))⟩) (fun ds S Q hl h => ?_)
  match ds, h with
  | [.mut d, .int m], ⟨hm, c, pu, c0, c1, h⟩ =>
    subst hm
    have pl := pu.lt
    simp only [true_and, and_true, oU2, oUn1, oL1, oS1, oR1, oJust, iAdd, iSub, iMul, iFdiv, iMod, iEq, iNe, iLt, iLe, iGt, iGe, iNeg, iAbs, DL.iStr, wFmt, wJs, wJoined, sNext, sSeq, sDrop, sRet, sRetN, sIf, sAsg, sPar, wOp, wVar, wC, wUn, wCons, wNil, wCB, wCall, wMake, wMakeSw, wCallSw, wProp, wFld, oI, oI0, oU, wTest, wAnd, wOr, wNot, wAndV, wOrV, wNotV, wIf, wTup, wLst, wLstM, gwName, gwNil, gwCons, gwTup, gwSub, oIx, oInt1, oAbsI, oLen, oGcd, oDivmod, oMax2, oMin2, oIsi, tyOf, clOf, kt_ii, kt_ib, kt_rr, kt_ir, kt_ri, kt_rb, kt_ni, kt_bi, kt_bb, kt_si, kt_ti, kt_li, kt_di, kt_nr, kt_br, kt_sr, kt_tr, kt_lr, kt_dr, oStrI, if_t1, if_f1, Bool.not_true, Bool.not_false, rt, startD, List.map_cons, List.map_nil, List.length_cons, List.length_nil, List.cons_append, List.nil_append, List.getElem?_cons_zero, List.getElem?_cons_succ, List.set_cons_zero, List.set_cons_succ, List.replicate, Nat.reduceAdd, Nat.reduceSub, Nat.zero_add, Nat.sub_self, Nat.add_sub_cancel, kt_tt, wChain, sFor, sForR, forStep, gwLst, listD, wCut, wStar, oListM, oTupl, seqD, oLcm, wCallP3, p3rev, p3mid, wAppend, lk_top, lk_bot, w1, w2, numD_int, numD_ins, w_is_int, w_is_number, wi_Ratio, w_as_ratio, w_top, w_bottom, w1r, w2r, lk_ex, wMeth, w_excess, w_lt, w_le, w_gt, w_raised, w_is_int_within, wLc, wLcE, wLcZ, wLcZ3, wLcT, wLcR, wYes, wipeD, Nat.zero_add, w_common_bottom, w_whole_bases, w_scaled, w_whole_values, w_first_levels, w_next_levels, w_whole_levels, w_ratios_of, w_bottom_at, w_lt, w_le, w_gt, wTruth, sForET, w_is_base, w_check_bases, w_check_row, w_check_place, w_value_at, w_levels_at, iMulS, wCutTo, at0', at1, at2, oPow, w_purse, w_take, w_made, prD, w_ladd, w_lsub, w_lmul, ln0, ln2, ln3, ln5, ln11, sPar3, w_llevels, w_lnext]
    have e0 : ExtB d S (S ++ [[]]) := Ext.app.b
    have p0 : Pu (S ++ [[]]) d c := pu.ext Ext.app
    have f0 : (S ++ [[]])[S.length]? = some [] := new_at
    generalize S ++ [[]] = S0 at e0 p0 f0 ⊢
    refine ⟨c, p0, ⟨c0, by omega⟩, ⟨by decide, by decide⟩, fun k S1 k0 k1 p1 e1 => ?_⟩
    have f1 := e1.2 _ _ (by omega) f0
    refine ⟨⟨by omega, by omega⟩, ?_⟩
    rw [show (1 + k).toNat = 1 + k.toNat by omega, rangeD_map]
    refine forD_run (fun i : Nat => D.int (0 + i)) (fun i ρ S' => ∃ (is : List Nat) (at_ : Nat) (o : Option D), Pu S' d (c + 1 + i) ∧ ExtB d S S' ∧ S'[S.length]? = some ((is.map mAt).map prD) ∧ is.length = i ∧ at_ ≤ 10 ∧ (∀ a ∈ is, a ≤ at_) ∧ Chain is ∧ ρ = [some (.mut d), some (.int 6), some (.lst (menuP.map prD)), some (.int (at_ : Int)), some (.mut S.length), o]) (List.range (1 + k.toNat)) 0 ?_ ?_ _ _ ⟨[], 0, none, by simpa using p1, e0.trans e1, f1, rfl, by decide, by simp, by intro j a b h1 h2; simp at h1, rfl⟩
    · rintro i x ρ S' nx hx ⟨is, at_, o, p', e', f', l', a10, am, ch, rfl⟩ hn
      simp only [Nat.zero_add] at p' l' hn
      have hi := (List.getElem?_eq_some_iff.mp hx).1
      rw [List.length_range] at hi
      simp only [true_and, and_true, oU2, oUn1, oL1, oS1, oR1, oJust, iAdd, iSub, iMul, iFdiv, iMod, iEq, iNe, iLt, iLe, iGt, iGe, iNeg, iAbs, DL.iStr, wFmt, wJs, wJoined, sNext, sSeq, sDrop, sRet, sRetN, sIf, sAsg, sPar, wOp, wVar, wC, wUn, wCons, wNil, wCB, wCall, wMake, wMakeSw, wCallSw, wProp, wFld, oI, oI0, oU, wTest, wAnd, wOr, wNot, wAndV, wOrV, wNotV, wIf, wTup, wLst, wLstM, gwName, gwNil, gwCons, gwTup, gwSub, oIx, oInt1, oAbsI, oLen, oGcd, oDivmod, oMax2, oMin2, oIsi, tyOf, clOf, kt_ii, kt_ib, kt_rr, kt_ir, kt_ri, kt_rb, kt_ni, kt_bi, kt_bb, kt_si, kt_ti, kt_li, kt_di, kt_nr, kt_br, kt_sr, kt_tr, kt_lr, kt_dr, oStrI, if_t1, if_f1, Bool.not_true, Bool.not_false, rt, startD, List.map_cons, List.map_nil, List.length_cons, List.length_nil, List.cons_append, List.nil_append, List.getElem?_cons_zero, List.getElem?_cons_succ, List.set_cons_zero, List.set_cons_succ, List.replicate, Nat.reduceAdd, Nat.reduceSub, Nat.zero_add, Nat.sub_self, Nat.add_sub_cancel, kt_tt, wChain, sFor, sForR, forStep, gwLst, listD, wCut, wStar, oListM, oTupl, seqD, oLcm, wCallP3, p3rev, p3mid, wAppend, lk_top, lk_bot, w1, w2, numD_int, numD_ins, w_is_int, w_is_number, wi_Ratio, w_as_ratio, w_top, w_bottom, w1r, w2r, lk_ex, wMeth, w_excess, w_lt, w_le, w_gt, w_raised, w_is_int_within, wLc, wLcE, wLcZ, wLcZ3, wLcT, wLcR, wYes, wipeD, Nat.zero_add, w_common_bottom, w_whole_bases, w_scaled, w_whole_values, w_first_levels, w_next_levels, w_whole_levels, w_ratios_of, w_bottom_at, w_lt, w_le, w_gt, wTruth, sForET, w_is_base, w_check_bases, w_check_row, w_check_place, w_value_at, w_levels_at, iMulS, wCutTo, at0', at1, at2, oPow, w_purse, w_take, w_made, prD, w_ladd, w_lsub, w_lmul, ln0, ln2, ln3, ln5, ln11, sPar3, w_llevels, w_lnext]
      refine ⟨_, p', ⟨by omega, by omega⟩, ⟨by decide, by decide⟩, fun j S2 j0 j1 p2 e2 => ?_⟩
      have f2 := e2.2 _ _ (by omega) f'
      obtain ⟨j, rfl⟩ := Int.eq_ofNat_of_zero_le j0
      have key : ∀ b : Nat, at_ ≤ b → b ≤ 10 → ∃ d_1, L2.atI (menuP.map prD) (b : Int) = some d_1 ∧ d_1 = prD (mAt b) := fun b _ hb => ⟨_, at_map (menu_get hb) rfl, rfl⟩
      obtain ⟨b, hb, b1, b2⟩ : ∃ b : Nat, (if (10 : Int) < (at_ : Int) + (j : Int) then (10 : Int) else (at_ : Int) + (j : Int)) = (b : Int) ∧ at_ ≤ b ∧ b ≤ 10 := by
        by_cases z : (10 : Int) < (at_ : Int) + (j : Int)
        · exact ⟨10, if_pos z, a10, Nat.le_refl _⟩
        · exact ⟨at_ + j, by rw [if_neg z]; omega, by omega, by omega⟩
      rw [hb, at_map (menu_get b2) rfl]
      simp only [true_and, and_true, oU2, oUn1, oL1, oS1, oR1, oJust, iAdd, iSub, iMul, iFdiv, iMod, iEq, iNe, iLt, iLe, iGt, iGe, iNeg, iAbs, DL.iStr, wFmt, wJs, wJoined, sNext, sSeq, sDrop, sRet, sRetN, sIf, sAsg, sPar, wOp, wVar, wC, wUn, wCons, wNil, wCB, wCall, wMake, wMakeSw, wCallSw, wProp, wFld, oI, oI0, oU, wTest, wAnd, wOr, wNot, wAndV, wOrV, wNotV, wIf, wTup, wLst, wLstM, gwName, gwNil, gwCons, gwTup, gwSub, oIx, oInt1, oAbsI, oLen, oGcd, oDivmod, oMax2, oMin2, oIsi, tyOf, clOf, kt_ii, kt_ib, kt_rr, kt_ir, kt_ri, kt_rb, kt_ni, kt_bi, kt_bb, kt_si, kt_ti, kt_li, kt_di, kt_nr, kt_br, kt_sr, kt_tr, kt_lr, kt_dr, oStrI, if_t1, if_f1, Bool.not_true, Bool.not_false, rt, startD, List.map_cons, List.map_nil, List.length_cons, List.length_nil, List.cons_append, List.nil_append, List.getElem?_cons_zero, List.getElem?_cons_succ, List.set_cons_zero, List.set_cons_succ, List.replicate, Nat.reduceAdd, Nat.reduceSub, Nat.zero_add, Nat.sub_self, Nat.add_sub_cancel, kt_tt, wChain, sFor, sForR, forStep, gwLst, listD, wCut, wStar, oListM, oTupl, seqD, oLcm, wCallP3, p3rev, p3mid, wAppend, lk_top, lk_bot, w1, w2, numD_int, numD_ins, w_is_int, w_is_number, wi_Ratio, w_as_ratio, w_top, w_bottom, w1r, w2r, lk_ex, wMeth, w_excess, w_lt, w_le, w_gt, w_raised, w_is_int_within, wLc, wLcE, wLcZ, wLcZ3, wLcT, wLcR, wYes, wipeD, Nat.zero_add, w_common_bottom, w_whole_bases, w_scaled, w_whole_values, w_first_levels, w_next_levels, w_whole_levels, w_ratios_of, w_bottom_at, w_lt, w_le, w_gt, wTruth, sForET, w_is_base, w_check_bases, w_check_row, w_check_place, w_value_at, w_levels_at, iMulS, wCutTo, at0', at1, at2, oPow, w_purse, w_take, w_made, prD, w_ladd, w_lsub, w_lmul, ln0, ln2, ln3, ln5, ln11, sPar3, w_llevels, w_lnext]
      refine ⟨_, f2, len_line (by rw [List.length_map, List.length_map]; omega), hn _ _ ⟨is ++ [b], b, _, ?_, (e'.trans e2).set (Nat.le_refl _), ?_, by rw [List.length_append, l']; rfl, b2, ?_, chain_app ch am b1, rfl⟩⟩
      · have := p2.set (m := S.length) (x := (is.map mAt).map prD ++ [D.tup [.int (mAt b).1, .int (mAt b).2]]) (by omega)
        rw [show c + 1 + (((i : Nat) + 1 : Nat) : Int) = c + 1 + (i : Int) + 1 by omega]
        exact this
      · rw [set_at f2, List.map_append, List.map_append]
        rfl
      · intro a ha
        rcases List.mem_append.mp ha with z | z
        · exact Nat.le_trans (am a z) b1
        · rw [List.mem_singleton.mp z]
          exact Nat.le_refl _
    · rintro ρ S' ⟨is, at_, o, p', e', f', l', a10, am, ch, rfl⟩
      rw [Nat.zero_add, List.length_range] at l' p'
      simp only [true_and, and_true, oU2, oUn1, oL1, oS1, oR1, oJust, iAdd, iSub, iMul, iFdiv, iMod, iEq, iNe, iLt, iLe, iGt, iGe, iNeg, iAbs, DL.iStr, wFmt, wJs, wJoined, sNext, sSeq, sDrop, sRet, sRetN, sIf, sAsg, sPar, wOp, wVar, wC, wUn, wCons, wNil, wCB, wCall, wMake, wMakeSw, wCallSw, wProp, wFld, oI, oI0, oU, wTest, wAnd, wOr, wNot, wAndV, wOrV, wNotV, wIf, wTup, wLst, wLstM, gwName, gwNil, gwCons, gwTup, gwSub, oIx, oInt1, oAbsI, oLen, oGcd, oDivmod, oMax2, oMin2, oIsi, tyOf, clOf, kt_ii, kt_ib, kt_rr, kt_ir, kt_ri, kt_rb, kt_ni, kt_bi, kt_bb, kt_si, kt_ti, kt_li, kt_di, kt_nr, kt_br, kt_sr, kt_tr, kt_lr, kt_dr, oStrI, if_t1, if_f1, Bool.not_true, Bool.not_false, rt, startD, List.map_cons, List.map_nil, List.length_cons, List.length_nil, List.cons_append, List.nil_append, List.getElem?_cons_zero, List.getElem?_cons_succ, List.set_cons_zero, List.set_cons_succ, List.replicate, Nat.reduceAdd, Nat.reduceSub, Nat.zero_add, Nat.sub_self, Nat.add_sub_cancel, kt_tt, wChain, sFor, sForR, forStep, gwLst, listD, wCut, wStar, oListM, oTupl, seqD, oLcm, wCallP3, p3rev, p3mid, wAppend, lk_top, lk_bot, w1, w2, numD_int, numD_ins, w_is_int, w_is_number, wi_Ratio, w_as_ratio, w_top, w_bottom, w1r, w2r, lk_ex, wMeth, w_excess, w_lt, w_le, w_gt, w_raised, w_is_int_within, wLc, wLcE, wLcZ, wLcZ3, wLcT, wLcR, wYes, wipeD, Nat.zero_add, w_common_bottom, w_whole_bases, w_scaled, w_whole_values, w_first_levels, w_next_levels, w_whole_levels, w_ratios_of, w_bottom_at, w_lt, w_le, w_gt, wTruth, sForET, w_is_base, w_check_bases, w_check_row, w_check_place, w_value_at, w_levels_at, iMulS, wCutTo, at0', at1, at2, oPow, w_purse, w_take, w_made, prD, w_ladd, w_lsub, w_lmul, ln0, ln2, ln3, ln5, ln11, sPar3, w_llevels, w_lnext]
      exact h _ _ _ _ (roots_ok (by omega) (by omega) (fun a ha => Nat.le_trans (am a ha) a10) ch) p' (by omega) (by omega) e' (Nat.le_refl _) f'
end
end K1
set_option Elab.async false
set_option linter.all false
set_option maxRecDepth 100000
set_option maxHeartbeats 0
namespace K1
open PySem PySem.Spec PyProof.Rows L2 DL
section
variable {P : Program} {w : World} {K : PySem.W.Frag} {mg : Str → Option Value} {base : Heap}
theorem bots {k : Int} (k0 : 0 ≤ k) (k1 : k < 5) : ∃ f : Int, L2.atI [D.int 1, .int 1, .int 2, .int 3, .int 7] k = some (.int f) ∧ 0 < f ∧ f.natAbs ∣ 42 ∧ f < 10 := by
  have hk : k = 0 ∨ k = 1 ∨ k = 2 ∨ k = 3 ∨ k = 4 := by omega
  rcases hk with rfl | rfl | rfl | rfl | rfl
  · exact ⟨1, rfl, by decide, by decide, by decide⟩
  · exact ⟨1, rfl, by decide, by decide, by decide⟩
  · exact ⟨2, rfl, by decide, by decide, by decide⟩
  · exact ⟨3, rfl, by decide, by decide, by decide⟩
  · exact ⟨7, rfl, by decide, by decide, by decide⟩
/-- a drawn value -/
structure Vok (p : Pr) : Prop where
  nrm : Nrm p
  bot : p.2.natAbs ∣ 42
  top : p.1.natAbs < 2 ^ 10
theorem vok_mk {t b : Int} (ht : t.natAbs < 2 ^ 10) (h0 : 0 < b) (hb : b.natAbs ∣ 42) : Vok (mkR t b) := by
  have e1 : (mkR t b).1 = t / gc t b := fdiv_gc h0
  have e2 : (mkR t b).2 = b / gc t b := fdiv_gc2 h0
  refine ⟨nrm_mk h0, ?_, ?_⟩
  · rw [e2]
    refine Nat.dvd_trans ?_ hb
    obtain ⟨k, hk⟩ := gc_dvd_r t b
    have g0 := gc_pos (t := t) h0
    generalize gc t b = g at *
    rw [hk, Int.mul_ediv_cancel_left _ (by omega), Int.natAbs_mul]
    exact Nat.dvd_mul_left _ _
  · rw [e1]
    exact Nat.lt_of_le_of_lt (natAbs_div_le _ _) ht
theorem small_v {ws : List Pr} (h1 : 1 ≤ ws.length) (h6 : ws.length ≤ 6) (h : ∀ p ∈ ws, Vok p) : Small 42 ws := ⟨h1, h6, by decide, by decide, fun p hp => ⟨(h p hp).nrm, (h p hp).bot, (h p hp).top⟩⟩

def w_dvalues : WF := fun ds S Q => match ds with
  | [.mut d, .int n] => 0 ≤ n ∧ n ≤ 6 ∧ ∃ c, Pu S d c ∧ 0 ≤ c ∧ c ≤ 90000 ∧ ∀ (ws : List Pr) (S' : MS) (k : Nat) (c' : Int), (ws.length : Int) = n → (∀ p ∈ ws, Vok p) → Pu S' d c' → c ≤ c' → c' ≤ c + 12 → ExtB d S S' → S.length ≤ k → S'[k]? = some (ws.map prD) → Q (.mut k) S'
  | _ => False
theorem sc__law_drawn_values : FnScope ["draws", "many", "found", "turn", "top", "bottom"] ["draws", "many"] (defScope s__law_drawn_values) := ⟨rfl, rfl, rfl, by decide +kernel, rfl, by decide +kernel, by decide +kernel⟩
theorem ok__law_drawn_values (T : Tx K mg) : FnOk P w K mg base CX0 2 T.f__law_drawn_values T.fd__law_drawn_values ["draws", "many"] (spW ⟨K, mg⟩ 2 w_dvalues) := by
  refine fnD (k := 1) T.F__law_drawn_values sc__law_drawn_values (fun cdv A outer s H E hr => ⟨_, (dss_cons (ds_set (i := 2) sc__law_drawn_values.nd (d_lstM da_nil))
  (dss_cons (ds_forR PassesOwn.never rfl T.z_range (da_cons (dv 1) da_nil) (dg_name (i := 3) sc__law_drawn_values.nd) (dss_cons (ds_par (i := 4) (j := 5) rfl sc__law_drawn_values.nd (da_cons (d_op op_sub snd_iSub (d_call (ok__law_take T) (hr.mono (by decide)) T.m__law_take T.F__law_take.kp T.b__law_take (da_cons (dv 0) (da_cons d_int da_nil))) d_int) (da_cons (d_ix (d_lst (da_cons d_int (da_cons d_int (da_cons d_int (da_cons d_int (da_cons d_int da_nil)))))) (d_call (ok__law_take T) (hr.mono (by decide)) T.m__law_take T.F__law_take.kp T.b__law_take (da_cons (dv 0) (da_cons d_int da_nil)))) da_nil)))
  (dss_one (ds_expr (d_append (dv 2) (da_cons (d_call (ok__law_made T) (hr.mono (by decide)) T.m__law_made T.F__law_made.kp T.b__law_made (da_cons (dv 4) (da_cons (dv 5) da_nil))) da_nil))))))
  (dss_one (ds_ret (dv 2)))))⟩) (fun ds S Q hl h => ?_)
  match ds, h with
  | [.mut d, .int n], ⟨n0, n1, c, pu, c0, c1, h⟩ =>
    have pl := pu.lt
    obtain ⟨n, rfl⟩ := Int.eq_ofNat_of_zero_le n0
    simp only [true_and, and_true, oU2, oUn1, oL1, oS1, oR1, oJust, iAdd, iSub, iMul, iFdiv, iMod, iEq, iNe, iLt, iLe, iGt, iGe, iNeg, iAbs, DL.iStr, wFmt, wJs, wJoined, sNext, sSeq, sDrop, sRet, sRetN, sIf, sAsg, sPar, wOp, wVar, wC, wUn, wCons, wNil, wCB, wCall, wMake, wMakeSw, wCallSw, wProp, wFld, oI, oI0, oU, wTest, wAnd, wOr, wNot, wAndV, wOrV, wNotV, wIf, wTup, wLst, wLstM, gwName, gwNil, gwCons, gwTup, gwSub, oIx, oInt1, oAbsI, oLen, oGcd, oDivmod, oMax2, oMin2, oIsi, tyOf, clOf, kt_ii, kt_ib, kt_rr, kt_ir, kt_ri, kt_rb, kt_ni, kt_bi, kt_bb, kt_si, kt_ti, kt_li, kt_di, kt_nr, kt_br, kt_sr, kt_tr, kt_lr, kt_dr, oStrI, if_t1, if_f1, Bool.not_true, Bool.not_false, rt, startD, List.map_cons, List.map_nil, List.length_cons, List.length_nil, List.cons_append, List.nil_append, List.getElem?_cons_zero, List.getElem?_cons_succ, List.set_cons_zero, List.set_cons_succ, List.replicate, Nat.reduceAdd, Nat.reduceSub, Nat.zero_add, Nat.sub_self, Nat.add_sub_cancel, kt_tt, wChain, sFor, sForR, forStep, gwLst, listD, wCut, wStar, oListM, oTupl, seqD, oLcm, wCallP3, p3rev, p3mid, wAppend, lk_top, lk_bot, w1, w2, numD_int, numD_ins, w_is_int, w_is_number, wi_Ratio, w_as_ratio, w_top, w_bottom, w1r, w2r, lk_ex, wMeth, w_excess, w_lt, w_le, w_gt, w_raised, w_is_int_within, wLc, wLcE, wLcZ, wLcZ3, wLcT, wLcR, wYes, wipeD, Nat.zero_add, w_common_bottom, w_whole_bases, w_scaled, w_whole_values, w_first_levels, w_next_levels, w_whole_levels, w_ratios_of, w_bottom_at, w_lt, w_le, w_gt, wTruth, sForET, w_is_base, w_check_bases, w_check_row, w_check_place, w_value_at, w_levels_at, iMulS, wCutTo, at0', at1, at2, oPow, w_purse, w_take, w_made, prD, w_ladd, w_lsub, w_lmul, ln0, ln2, ln3, ln5, ln11, sPar3, w_llevels, w_lnext, w_dbases]
    have e0 : ExtB d S (S ++ [[]]) := Ext.app.b
    have p0 : Pu (S ++ [[]]) d c := pu.ext Ext.app
    have f0 : (S ++ [[]])[S.length]? = some [] := new_at
    generalize S ++ [[]] = S0 at e0 p0 f0 ⊢
    refine ⟨⟨by omega, by omega⟩, ?_⟩
    rw [Int.toNat_natCast, rangeD_map]
    refine forD_run (fun i : Nat => D.int (0 + i)) (fun i ρ S' => ∃ (ws : List Pr) (o1 o2 o3 : Option D), Pu S' d (c + 2 * i) ∧ ExtB d S S' ∧ S'[S.length]? = some (ws.map prD) ∧ ws.length = i ∧ (∀ p ∈ ws, Vok p) ∧ ρ = [some (.mut d), some (.int (n : Int)), some (.mut S.length), o1, o2, o3]) (List.range n) 0 ?_ ?_ _ _ ⟨[], none, none, none, by simpa using p0, e0, f0, rfl, by simp, rfl⟩
    · rintro i x ρ S' nx hx ⟨ws, o1, o2, o3, p', e', f', l', am, rfl⟩ hn
      simp only [Nat.zero_add] at p' l' hn
      have hi := (List.getElem?_eq_some_iff.mp hx).1
      rw [List.length_range] at hi
      simp only [true_and, and_true, oU2, oUn1, oL1, oS1, oR1, oJust, iAdd, iSub, iMul, iFdiv, iMod, iEq, iNe, iLt, iLe, iGt, iGe, iNeg, iAbs, DL.iStr, wFmt, wJs, wJoined, sNext, sSeq, sDrop, sRet, sRetN, sIf, sAsg, sPar, wOp, wVar, wC, wUn, wCons, wNil, wCB, wCall, wMake, wMakeSw, wCallSw, wProp, wFld, oI, oI0, oU, wTest, wAnd, wOr, wNot, wAndV, wOrV, wNotV, wIf, wTup, wLst, wLstM, gwName, gwNil, gwCons, gwTup, gwSub, oIx, oInt1, oAbsI, oLen, oGcd, oDivmod, oMax2, oMin2, oIsi, tyOf, clOf, kt_ii, kt_ib, kt_rr, kt_ir, kt_ri, kt_rb, kt_ni, kt_bi, kt_bb, kt_si, kt_ti, kt_li, kt_di, kt_nr, kt_br, kt_sr, kt_tr, kt_lr, kt_dr, oStrI, if_t1, if_f1, Bool.not_true, Bool.not_false, rt, startD, List.map_cons, List.map_nil, List.length_cons, List.length_nil, List.cons_append, List.nil_append, List.getElem?_cons_zero, List.getElem?_cons_succ, List.set_cons_zero, List.set_cons_succ, List.replicate, Nat.reduceAdd, Nat.reduceSub, Nat.zero_add, Nat.sub_self, Nat.add_sub_cancel, kt_tt, wChain, sFor, sForR, forStep, gwLst, listD, wCut, wStar, oListM, oTupl, seqD, oLcm, wCallP3, p3rev, p3mid, wAppend, lk_top, lk_bot, w1, w2, numD_int, numD_ins, w_is_int, w_is_number, wi_Ratio, w_as_ratio, w_top, w_bottom, w1r, w2r, lk_ex, wMeth, w_excess, w_lt, w_le, w_gt, w_raised, w_is_int_within, wLc, wLcE, wLcZ, wLcZ3, wLcT, wLcR, wYes, wipeD, Nat.zero_add, w_common_bottom, w_whole_bases, w_scaled, w_whole_values, w_first_levels, w_next_levels, w_whole_levels, w_ratios_of, w_bottom_at, w_lt, w_le, w_gt, wTruth, sForET, w_is_base, w_check_bases, w_check_row, w_check_place, w_value_at, w_levels_at, iMulS, wCutTo, at0', at1, at2, oPow, w_purse, w_take, w_made, prD, w_ladd, w_lsub, w_lmul, ln0, ln2, ln3, ln5, ln11, sPar3, w_llevels, w_lnext, w_dbases]
      refine ⟨_, p', ⟨by omega, by omega⟩, ⟨by decide, by decide⟩, fun j S2 j0 j1 p2 e2 => ?_⟩
      refine ⟨_, p2, ⟨by omega, by omega⟩, ⟨by decide, by decide⟩, fun k S3 k0 k1 p3 e3 => ?_⟩
      obtain ⟨f, hf, fp, fd, fl⟩ := bots k0 k1
      rw [hf]
      simp only [true_and, and_true, oU2, oUn1, oL1, oS1, oR1, oJust, iAdd, iSub, iMul, iFdiv, iMod, iEq, iNe, iLt, iLe, iGt, iGe, iNeg, iAbs, DL.iStr, wFmt, wJs, wJoined, sNext, sSeq, sDrop, sRet, sRetN, sIf, sAsg, sPar, wOp, wVar, wC, wUn, wCons, wNil, wCB, wCall, wMake, wMakeSw, wCallSw, wProp, wFld, oI, oI0, oU, wTest, wAnd, wOr, wNot, wAndV, wOrV, wNotV, wIf, wTup, wLst, wLstM, gwName, gwNil, gwCons, gwTup, gwSub, oIx, oInt1, oAbsI, oLen, oGcd, oDivmod, oMax2, oMin2, oIsi, tyOf, clOf, kt_ii, kt_ib, kt_rr, kt_ir, kt_ri, kt_rb, kt_ni, kt_bi, kt_bb, kt_si, kt_ti, kt_li, kt_di, kt_nr, kt_br, kt_sr, kt_tr, kt_lr, kt_dr, oStrI, if_t1, if_f1, Bool.not_true, Bool.not_false, rt, startD, List.map_cons, List.map_nil, List.length_cons, List.length_nil, List.cons_append, List.nil_append, List.getElem?_cons_zero, List.getElem?_cons_succ, List.set_cons_zero, List.set_cons_succ, List.replicate, Nat.reduceAdd, Nat.reduceSub, Nat.zero_add, Nat.sub_self, Nat.add_sub_cancel, kt_tt, wChain, sFor, sForR, forStep, gwLst, listD, wCut, wStar, oListM, oTupl, seqD, oLcm, wCallP3, p3rev, p3mid, wAppend, lk_top, lk_bot, w1, w2, numD_int, numD_ins, w_is_int, w_is_number, wi_Ratio, w_as_ratio, w_top, w_bottom, w1r, w2r, lk_ex, wMeth, w_excess, w_lt, w_le, w_gt, w_raised, w_is_int_within, wLc, wLcE, wLcZ, wLcZ3, wLcT, wLcR, wYes, wipeD, Nat.zero_add, w_common_bottom, w_whole_bases, w_scaled, w_whole_values, w_first_levels, w_next_levels, w_whole_levels, w_ratios_of, w_bottom_at, w_lt, w_le, w_gt, wTruth, sForET, w_is_base, w_check_bases, w_check_row, w_check_place, w_value_at, w_levels_at, iMulS, wCutTo, at0', at1, at2, oPow, w_purse, w_take, w_made, prD, w_ladd, w_lsub, w_lmul, ln0, ln2, ln3, ln5, ln11, sPar3, w_llevels, w_lnext, w_dbases]
      have f3 := e3.2 _ _ (by omega) (e2.2 _ _ (by omega) f')
      refine ⟨fp, nmono (m := 10) (by omega) (by decide), _, f3, len_line (by rw [List.length_map]; omega), hn _ _ ⟨ws ++ [mkR (j - 20) f], _, _, _, ?_, ((e'.trans e2).trans e3).set (Nat.le_refl _), ?_, by rw [List.length_append, l']; rfl, ?_, rfl⟩⟩
      · have := p3.set (m := S.length) (x := ws.map prD ++ [D.tup [.int (mkR (j - 20) f).1, .int (mkR (j - 20) f).2]]) (by omega)
        rw [show c + 2 * (((i : Nat) + 1 : Nat) : Int) = c + 2 * (i : Int) + 1 + 1 by omega]
        exact this
      · rw [set_at f3, List.map_append]
        rfl
      · intro a ha
        rcases List.mem_append.mp ha with z | z
        · exact am a z
        · rw [List.mem_singleton.mp z]
          exact vok_mk (by omega) fp fd
    · rintro ρ S' ⟨ws, o1, o2, o3, p', e', f', l', am, rfl⟩
      rw [Nat.zero_add, List.length_range] at l' p'
      simp only [true_and, and_true, oU2, oUn1, oL1, oS1, oR1, oJust, iAdd, iSub, iMul, iFdiv, iMod, iEq, iNe, iLt, iLe, iGt, iGe, iNeg, iAbs, DL.iStr, wFmt, wJs, wJoined, sNext, sSeq, sDrop, sRet, sRetN, sIf, sAsg, sPar, wOp, wVar, wC, wUn, wCons, wNil, wCB, wCall, wMake, wMakeSw, wCallSw, wProp, wFld, oI, oI0, oU, wTest, wAnd, wOr, wNot, wAndV, wOrV, wNotV, wIf, wTup, wLst, wLstM, gwName, gwNil, gwCons, gwTup, gwSub, oIx, oInt1, oAbsI, oLen, oGcd, oDivmod, oMax2, oMin2, oIsi, tyOf, clOf, kt_ii, kt_ib, kt_rr, kt_ir, kt_ri, kt_rb, kt_ni, kt_bi, kt_bb, kt_si, kt_ti, kt_li, kt_di, kt_nr, kt_br, kt_sr, kt_tr, kt_lr, kt_dr, oStrI, if_t1, if_f1, Bool.not_true, Bool.not_false, rt, startD, List.map_cons, List.map_nil, List.length_cons, List.length_nil, List.cons_append, List.nil_append, List.getElem?_cons_zero, List.getElem?_cons_succ, List.set_cons_zero, List.set_cons_succ, List.replicate, Nat.reduceAdd, Nat.reduceSub, Nat.zero_add, Nat.sub_self, Nat.add_sub_cancel, kt_tt, wChain, sFor, sForR, forStep, gwLst, listD, wCut, wStar, oListM, oTupl, seqD, oLcm, wCallP3, p3rev, p3mid, wAppend, lk_top, lk_bot, w1, w2, numD_int, numD_ins, w_is_int, w_is_number, wi_Ratio, w_as_ratio, w_top, w_bottom, w1r, w2r, lk_ex, wMeth, w_excess, w_lt, w_le, w_gt, w_raised, w_is_int_within, wLc, wLcE, wLcZ, wLcZ3, wLcT, wLcR, wYes, wipeD, Nat.zero_add, w_common_bottom, w_whole_bases, w_scaled, w_whole_values, w_first_levels, w_next_levels, w_whole_levels, w_ratios_of, w_bottom_at, w_lt, w_le, w_gt, wTruth, sForET, w_is_base, w_check_bases, w_check_row, w_check_place, w_value_at, w_levels_at, iMulS, wCutTo, at0', at1, at2, oPow, w_purse, w_take, w_made, prD, w_ladd, w_lsub, w_lmul, ln0, ln2, ln3, ln5, ln11, sPar3, w_llevels, w_lnext, w_dbases]
      exact h _ _ _ _ (by omega) am p' (by omega) (by omega) e' (Nat.le_refl _) f'
theorem row_ok {N M : Nat} {ps qs : List Pr} (hp : Small N ps) (hq : Small M qs) (hl : ps.length = qs.length) (i : Nat) (hi : i ≤ ps.length) : ∀ p ∈ rowL ps qs i, Okp p := fun p hpm => by
  obtain ⟨k, hk⟩ := mem_get hpm
  have sc := (hq.sc (cb ps)).row hp.bs i hi
  have l1 := (List.getElem?_eq_some_iff.mp hk).1
  have l6 := hp.l6
  rw [rowL_len i hi] at l1
  have bd := (bd_row (hp.whb) (bd_sc hq hp) i (by rw [whB_len]; omega)).mono (show 90 + 21 * i ≤ 300 by omega)
  obtain ⟨L, hL⟩ : ∃ L, (rowP (whB' ps) (scP qs (cb qs) (cb ps)) i)[k]? = some L := ⟨_, List.getElem?_eq_getElem (by rw [← sc.len, rowL_len i hi]; exact l1)⟩
  have e := sc.at_ k p L hk hL
  have n := sc.nrm p hpm
  have e2 : (L : Rat) = ((cb qs * cb ps ^ (i + k) : Int) : Rat) * val p := by
    rw [e, Rat.intCast_mul, Int.pow_add, Rat.intCast_mul, cast_pow, cast_pow]
    grind
  obtain ⟨b1, b2⟩ := nrm_bound n (bot_pos hp hq _) e2
  exact ⟨n, nmono (Nat.lt_of_le_of_lt b1 (bd.lt hL)) (by decide), nmono (Nat.lt_of_le_of_lt b2 (bot_lt hp hq (n := i + k) (by omega))) (by decide)⟩
theorem Small.okp {N : Nat} {ps : List Pr} (h : Small N ps) : ∀ p ∈ ps, Okp p := fun p hp => ⟨(h.all p hp).1, nmono (h.all p hp).2.2 (by decide), nmono (h.z2 hp) (by decide)⟩
theorem lvs_ok {N M : Nat} {ps qs : List Pr} (hp : Small N ps) (hq : Small M qs) (hl : ps.length = qs.length) {n m : Nat} (hn : n + m ≤ 80) (i : Nat) (hi : i < ps.length) : ∀ p ∈ lvs ps qs n i m, Okp p := fun p hpm => by
  unfold lvs at hpm
  obtain ⟨k, hk, rfl⟩ := List.mem_map.mp hpm
  have := List.mem_range.mp hk
  obtain ⟨x, hx⟩ : ∃ x, (lev ps qs (n + k))[i]? = some x := ⟨_, List.getElem?_eq_getElem (by rw [lev_len hp.l1]; exact hi)⟩
  rw [hx]
  exact lev_ok hp hq hl (by omega) _ (get_mem hx)
theorem row_lvs_ok {N M : Nat} {ps qs : List Pr} (hp : Small N ps) (hq : Small M qs) (hl : ps.length = qs.length) {n : Nat} (hn : n ≤ 60) (i : Nat) (hi : i ≤ ps.length) : ∀ p ∈ rowL ps (lvs ps qs n 0 ps.length) i, Okp p := by
  have l6 := hp.l6
  by_cases c : i < ps.length
  · rw [row_lvs hp hq hl n i c]
    exact lvs_ok hp hq hl (by omega) i c
  · intro p hpm
    have e : (rowL ps (lvs ps qs n 0 ps.length) i).length = 0 := by rw [rowL_len i hi, lvs_len]; omega
    have := List.length_pos_of_mem hpm
    omega

end
end K1
set_option Elab.async false
set_option linter.all false
set_option maxRecDepth 100000
set_option maxHeartbeats 0
namespace K1
open PySem PySem.Spec PyProof.Rows L2 DL
section
variable {P : Program} {w : World} {K : PySem.W.Frag} {mg : Str → Option Value} {base : Heap}
/-- numbers made of pairs: what the comprehension over the pairs makes while the draws change -/
theorem numbers {m d a : Nat} {S0 : MS} {rs : List Pr} {c : Int} {step : D → MS → (MS → Prop) → Prop} {fin : MS → Prop} (hm : m = S0.length) (hd : d < S0.length) (had : a ≠ d) (hA : S0[a]? = some (rs.map prD)) (pu : Pu S0 d c) (l6 : rs.length ≤ 6)
    (hs : ∀ (p : Pr) (S : MS) (acc : List D) (c' : Int) (nx : MS → Prop), p ∈ rs → Pu S d c' → c ≤ c' → c' ≤ c + 6 → S[m]? = some acc → acc.length < sizeLine → (∀ x S', numD x = some p → (Pu S' d c' ∨ Pu S' d (c' + 1)) → ExtB d S S' → nx (S'.set m (acc ++ [x]))) → step (prD p) S nx)
    (hf : ∀ (S : MS) (xs : List D) (c' : Int), ExtB d S0 S → S[m]? = some xs → xs.map numD = rs.map some → Pu S d c' → c ≤ c' → c' ≤ c + 6 → fin S) : lcM a (rs.map prD) (rs.map prD) step fin (S0 ++ [[]]) := by
  subst hm
  refine lcM_run prD (fun i S' => ∃ (xs : List D) (c' : Int), Pu S' d c' ∧ c ≤ c' ∧ c' ≤ c + i ∧ ExtB d S0 S' ∧ S'[S0.length]? = some xs ∧ xs.map numD = (rs.take i).map some) rs 0 (fun i S' ⟨xs, c', _, _, _, e, _⟩ => e.2 _ _ had hA) ?_ ?_ _ ⟨[], c, pu.ext Ext.app, by omega, by omega, Ext.app.b, new_at, by rw [List.take_zero]; rfl⟩
  · rintro i p S nx hp ⟨xs, c', p', h1, h2, e, hx, hn⟩ hnx
    simp only [Nat.zero_add] at h2 hn hnx
    have li := (List.getElem?_eq_some_iff.mp hp).1
    have lx : xs.length = i := by
      have := congrArg List.length hn
      simp at this
      omega
    refine hs p S xs c' nx (get_mem hp) p' h1 (by omega) hx (len_line (by omega)) fun x S' nxx pp ee => ?_
    have d0 : d ≠ S0.length := by omega
    have q : ∀ c2, Pu S' d c2 → c' ≤ c2 → c2 ≤ c' + 1 → nx (S'.set S0.length (xs ++ [x])) := fun c2 p2 z1 z2 => hnx _ ⟨xs ++ [x], c2, p2.set d0, by omega, by omega, (e.trans ee).set (Nat.le_refl _), set_at (ee.2 _ _ (fun z => d0 z.symm) hx), by rw [List.map_append, hn, List.take_add_one, hp, List.map_append]; simp [nxx]⟩
    rcases pp with pp | pp
    · exact q _ pp (by omega) (by omega)
    · exact q _ pp (by omega) (by omega)
  · rintro S ⟨xs, c', p', h1, h2, e, hx, hn⟩
    rw [Nat.zero_add] at h2 hn
    rw [List.take_length] at hn
    exact hf S xs c' e hx hn p' h1 (by omega)
theorem pairs_lc {S0 : MS} {ls : List Pr} {m : Nat} {step : D → MS → (MS → Prop) → Prop} {fin : MS → Prop} (hm : m = S0.length) (l6 : ls.length ≤ 1000) (hs : ∀ (i : Nat) (p : Pr) (S : MS) (nx : MS → Prop), ls[i]? = some p → (∃ acc, S[m]? = some acc ∧ acc.length < sizeLine ∧ nx (S.set m (acc ++ [prD p]))) → step (rt p) S nx)
    (hf : ∀ S, Ext S0 S → S[m]? = some (ls.map prD) → fin S) : lcD (ls.map rt) step fin (S0 ++ [[]]) := by
  subst hm
  refine lcD_run rt (MapJ S0 S0.length (ls.map prD)) ls 0 ?_ ?_ _ MapJ.start
  · intro i p S nx hp j hn
    refine hs i p S nx hp (map_next (Nat.le_refl _) j .refl ?_ (small_line (by rw [List.length_map]; exact l6)) hn)
    rw [Nat.zero_add, List.getElem?_map, hp]
    rfl
  · intro S j
    rw [Nat.zero_add, show ls.length = (ls.map prD).length by rw [List.length_map]] at j
    exact hf S (mutD j).1 (mutD j).2
theorem ifG2 {c : WB} {t u : WS} {DD : DEnds} {ρ : DEnv} {S : MS} (h1 : t DD ρ S) (h2 : u DD ρ S) (hc : ∀ Q : Bool → MS → Prop, Q true S → Q false S → c ρ S Q) : sIf c t u DD ρ S := hc _ (by simpa using h1) (by simpa using h2)
theorem h0_nrm {N M : Nat} {ps qs : List Pr} (hp : Small N ps) (hq : Small M qs) (hl : ps.length = qs.length) (n : Nat) : Nrm (h0 ps qs n) := lev_nrm hp hq hl _ (get_mem (h0_get hp n))
theorem lev0 {ps qs : List Pr} : lev ps qs 0 = firstL ps qs := rfl
theorem firsts_eq {N M : Nat} {ps qs : List Pr} (hp : Small N ps) (hq : Small M qs) (hl : ps.length = qs.length) : lvs ps qs 0 0 ps.length = qs := by
  apply List.ext_getElem?
  intro i
  by_cases hi : i < ps.length
  · rw [lvs_get hi, Nat.zero_add, h0_get hp, h0_first hp hq hl hi]
    rfl
  · rw [List.getElem?_eq_none (by rw [lvs_len]; omega), List.getElem?_eq_none (by omega)]

def w_right : WF := fun ds S Q => match ds with
  | [.mut d] => ∃ c, Pu S d c ∧ 0 ≤ c ∧ c ≤ 10 ∧ ∀ S', ExtB d S S' → Q (.bl true) S'
  | _ => False
theorem sc__law_right : FnScope ["draws", "roots", "worths", "given", "pair", "first", "levels", "last", "spot", "told", "each", "k", "row"] ["draws"] (defScope s__law_right) := ⟨rfl, rfl, rfl, by decide +kernel, rfl, by decide +kernel, by decide +kernel⟩
theorem ok__law_right (T : Tx K mg) : FnOk P w K mg base CX0 15 T.f__law_right T.fd__law_right ["draws"] (spW ⟨K, mg⟩ 1 w_right) := by
  refine fnD (k := 14) T.F__law_right sc__law_right (fun cdv A outer s H E hr => ⟨_, (dss_cons (ds_set (i := 1) sc__law_right.nd (d_call (ok__law_drawn_bases T) (hr.mono (by decide)) T.m__law_drawn_bases T.F__law_drawn_bases.kp T.b__law_drawn_bases (da_cons (dv 0) (da_cons d_int da_nil))))
  (dss_cons (ds_set (i := 2) sc__law_right.nd (d_call (ok__law_drawn_values T) (hr.mono (by decide)) T.m__law_drawn_values T.F__law_drawn_values.kp T.b__law_drawn_values (da_cons (dv 0) (da_cons (d_callB call_len_seq snd_len T.z_len (da_cons (dv 1) da_nil) (hv := bt_len)) da_nil))))
  (dss_cons (ds_set (i := 3) sc__law_right.nd (d_callTy call_tuple_of snd_tupl T.z_tuple (da_cons (d_lc (own := [("pair", 4)]) rfl sc__law_right.nd (dv 1) (blkOk_by (own := [("pair", 4)]) (N := ["draws", "roots", "worths", "given", "pair", "first", "levels", "last", "spot", "told", "each", "k", "row"]) (sc := defScope s__law_right) (by decide +kernel)) (gown_name (by decide)) (fun _ _ _ _ _ => (dg_name (i := 4) sc__law_right.nd)) (fun _ _ _ _ _ => dts_nil) (fun _ _ _ _ _ => (d_callC (ok__law_number T) (hr.mono (by decide)) T.m__law_number T.F__law_number.kp T.b__law_number (da_cons (dv 4) (da_cons (dv 0) da_nil))))) da_nil) (hv := bt_tuple)))
  (dss_cons (ds_set (i := 5) sc__law_right.nd (d_callTy call_tuple_of snd_tupl T.z_tuple (da_cons (d_lc (own := [("pair", 4)]) rfl sc__law_right.nd (dv 2) (blkOk_by (own := [("pair", 4)]) (N := ["draws", "roots", "worths", "given", "pair", "first", "levels", "last", "spot", "told", "each", "k", "row"]) (sc := defScope s__law_right) (by decide +kernel)) (gown_name (by decide)) (fun _ _ _ _ _ => (dg_name (i := 4) sc__law_right.nd)) (fun _ _ _ _ _ => dts_nil) (fun _ _ _ _ _ => (d_callC (ok__law_number T) (hr.mono (by decide)) T.m__law_number T.F__law_number.kp T.b__law_number (da_cons (dv 4) (da_cons (dv 0) da_nil))))) da_nil) (hv := bt_tuple)))
  (dss_cons (ds_par (i := 6) (j := 7) rfl sc__law_right.nd (da_cons (d_call (ok__law_levels T) (hr.mono (by decide)) T.m__law_levels T.F__law_levels.kp T.b__law_levels (da_cons (dv 1) (da_cons (dv 2) da_nil))) (da_cons (d_op op_add snd_iAdd d_int (d_call (ok__law_take T) (hr.mono (by decide)) T.m__law_take T.F__law_take.kp T.b__law_take (da_cons (dv 0) (da_cons d_int da_nil)))) da_nil)))
  (dss_cons (ds_forR PassesOwn.never rfl T.z_range (da_cons (dv 7) da_nil) (dg_name (i := 8) sc__law_right.nd) (dss_cons (ds_if (PDW.pt (dw_or (dt_cmp op_lt snd_iLt (dv 8) d_int (nomark _)) (dw_or1 (dt_cmp op_eq snd_iEq (dv 8) (d_op op_sub snd_iSub (dv 7) d_int) (nomark _))))) (dss_cons (ds_set (i := 9) sc__law_right.nd (d_call (ok_levels_at T) (hr.mono (by decide)) T.m_levels_at T.F_levels_at.kp T.b_levels_at (da_cons (dv 3) (da_cons (dv 5) (da_cons (dv 8) da_nil)))))
  (dss_cons (ds_if (PDW.pt (dw_or (dt_not (dt_val (d_callB call_isi (snd_isi T.isi) T.z_isinstance (da_cons (dv 9) (da_cons (d_ty (n := "tuple") T.z_tuple (hv := bt_tuple)) da_nil)) (hv := bt_isinstance)))) (dw_or1 (dt_cmp (op_neD hr.units) snd_neD (d_lcT (own := [("each", 10)]) rfl sc__law_right.nd (dv 9) (blkOk_by (own := [("each", 10)]) (N := ["draws", "roots", "worths", "given", "pair", "first", "levels", "last", "spot", "told", "each", "k", "row"]) (sc := defScope s__law_right) (by decide +kernel)) (gown_name (by decide)) (fun _ _ _ _ _ => (dg_name (i := 10) sc__law_right.nd)) (fun _ _ _ _ _ => dts_nil) (fun _ _ _ _ _ => (d_callC (ok__law_pair T) (hr.mono (by decide)) T.m__law_pair T.F__law_pair.kp T.b__law_pair (da_cons (dv 10) da_nil)))) (dv 6) (nomark _))))) (dss_one (ds_ret d_bl)) dss_nil)
  (dss_one (ds_if (dt_cmp (op_neD hr.units) snd_neD (d_call (ok__law_pair T) (hr.mono (by decide)) T.m__law_pair T.F__law_pair.kp T.b__law_pair (da_cons (d_call (ok_value_at T) (hr.mono (by decide)) T.m_value_at T.F_value_at.kp T.b_value_at (da_cons (dv 3) (da_cons (dv 5) (da_cons (dv 8) da_nil)))) da_nil)) (d_ix (dv 6) d_int) (nomark _)) (dss_one (ds_ret d_bl)) dss_nil)))) dss_nil)
  (dss_one (ds_set (i := 6) sc__law_right.nd (d_call (ok__law_next T) (hr.mono (by decide)) T.m__law_next T.F__law_next.kp T.b__law_next (da_cons (dv 1) (da_cons (dv 6) da_nil)))))))
  (dss_cons (ds_if (dt_cmp (op_neD hr.units) snd_neD (d_lcR (own := [("k", 11)]) rfl sc__law_right.nd T.z_range (da_cons (d_callB call_len_seq snd_len T.z_len (da_cons (dv 2) da_nil) (hv := bt_len)) da_nil) (blkOk_by (own := [("k", 11)]) (N := ["draws", "roots", "worths", "given", "pair", "first", "levels", "last", "spot", "told", "each", "k", "row"]) (sc := defScope s__law_right) (by decide +kernel)) (gown_name (by decide)) (fun _ _ _ _ _ => (dg_name (i := 11) sc__law_right.nd)) (fun _ _ _ _ _ => dts_nil) (fun _ _ _ _ _ => (d_callC (ok__law_pair T) (hr.mono (by decide)) T.m__law_pair T.F__law_pair.kp T.b__law_pair (da_cons (d_callC (ok_value_at T) (hr.mono (by decide)) T.m_value_at T.F_value_at.kp T.b_value_at (da_cons (dv 3) (da_cons (dv 5) (da_cons (dv 11) da_nil)))) da_nil)))) (dv 2) (nomark _)) (dss_one (ds_ret d_bl)) dss_nil)
  (dss_cons (ds_setL (i := 12) sc__law_right.nd (p_lcR (own := [("k", 11)]) rfl sc__law_right.nd T.z_range (da_cons (d_callB call_len_seq snd_len T.z_len (da_cons (dv 2) da_nil) (hv := bt_len)) da_nil) (blkOk_by (own := [("k", 11)]) (N := ["draws", "roots", "worths", "given", "pair", "first", "levels", "last", "spot", "told", "each", "k", "row"]) (sc := defScope s__law_right) (by decide +kernel)) (gown_name (by decide)) (fun _ _ _ _ _ => (dg_name (i := 11) sc__law_right.nd)) (fun _ _ _ _ _ => dts_nil) (fun _ _ _ _ _ => (d_callC (ok__law_pair T) (hr.mono (by decide)) T.m__law_pair T.F__law_pair.kp T.b__law_pair (da_cons (d_callP3rev (ok_value_at T) (hr.mono (by decide)) T.m_value_at T.F_value_at.kp T.kb_value_at_rev (dk_cons (d_op op_add snd_iAdd d_int (dv 11)) (dk_cons (dv 5) (dk_cons (dv 3) dk_nil)))) da_nil)))))
  (dss_one (ds_ret (d_cmp (op_eqD hr.units) snd_eqD (d_lcT (own := [("each", 10)]) rfl sc__law_right.nd (d_callP3mid (ok_levels_at T) (hr.mono (by decide)) T.m_levels_at T.F_levels_at.kp T.kb_levels_at_mid (dk_cons (dv 3) (dk_cons d_int (dk_cons (dv 5) dk_nil)))) (blkOk_by (own := [("each", 10)]) (N := ["draws", "roots", "worths", "given", "pair", "first", "levels", "last", "spot", "told", "each", "k", "row"]) (sc := defScope s__law_right) (by decide +kernel)) (gown_name (by decide)) (fun _ _ _ _ _ => (dg_name (i := 10) sc__law_right.nd)) (fun _ _ _ _ _ => dts_nil) (fun _ _ _ _ _ => (d_callC (ok__law_pair T) (hr.mono (by decide)) T.m__law_pair T.F__law_pair.kp T.b__law_pair (da_cons (dv 10) da_nil)))) (d_call (ok__law_levels T) (hr.mono (by decide)) T.m__law_levels T.F__law_levels.kp T.b__law_levels (da_cons (dv 1) (da_cons (dv 12) da_nil))) (nomark _))))))))))))⟩) (fun ds S Q hl h => ?_)
  match ds, h with
  | [.mut d], ⟨c, pu, c0, c1, h⟩ =>
    have pl := pu.lt
    simp only [startD, List.map_cons, List.map_nil, List.length_cons, List.length_nil, List.cons_append, List.nil_append, List.replicate, Nat.reduceAdd, Nat.reduceSub]
    refine seqG fun R hR => ?_
    simp only [true_and, and_true, oU2, oUn1, oL1, oS1, oR1, oJust, iAdd, iSub, iMul, iFdiv, iMod, iEq, iNe, iLt, iLe, iGt, iGe, iNeg, iAbs, DL.iStr, wFmt, wJs, wJoined, sNext, sSeq, sDrop, sRet, sRetN, sIf, sAsg, sPar, wOp, wVar, wC, wUn, wCons, wNil, wCB, wCall, wMake, wMakeSw, wCallSw, wProp, wFld, oI, oI0, oU, wTest, wAnd, wOr, wNot, wAndV, wOrV, wNotV, wIf, wTup, wLst, wLstM, gwName, gwNil, gwCons, gwTup, gwSub, oIx, oInt1, oAbsI, oLen, oGcd, oDivmod, oMax2, oMin2, oIsi, tyOf, clOf, kt_ii, kt_ib, kt_rr, kt_ir, kt_ri, kt_rb, kt_ni, kt_bi, kt_bb, kt_si, kt_ti, kt_li, kt_di, kt_nr, kt_br, kt_sr, kt_tr, kt_lr, kt_dr, oStrI, if_t1, if_f1, Bool.not_true, Bool.not_false, rt, startD, List.map_cons, List.map_nil, List.length_cons, List.length_nil, List.cons_append, List.nil_append, List.getElem?_cons_zero, List.getElem?_cons_succ, List.set_cons_zero, List.set_cons_succ, List.replicate, Nat.reduceAdd, Nat.reduceSub, Nat.zero_add, Nat.sub_self, Nat.add_sub_cancel, kt_tt, wChain, sFor, sForR, forStep, gwLst, listD, wCut, wStar, oListM, oTupl, seqD, oLcm, wCallP3, p3rev, p3mid, wAppend, lk_top, lk_bot, w1, w2, numD_int, numD_ins, w_is_int, w_is_number, wi_Ratio, w_as_ratio, w_top, w_bottom, w1r, w2r, lk_ex, wMeth, w_excess, w_lt, w_le, w_gt, w_raised, w_is_int_within, wLc, wLcE, wLcZ, wLcZ3, wLcT, wLcR, wYes, wipeD, Nat.zero_add, w_common_bottom, w_whole_bases, w_scaled, w_whole_values, w_first_levels, w_next_levels, w_whole_levels, w_ratios_of, w_bottom_at, w_lt, w_le, w_gt, wTruth, sForET, w_is_base, w_check_bases, w_check_row, w_check_place, w_value_at, w_levels_at, iMulS, wCutTo, at0', at1, at2, oPow, w_purse, w_take, w_made, prD, w_ladd, w_lsub, w_lmul, ln0, ln2, ln3, ln5, ln11, sPar3, w_llevels, w_lnext, w_dbases, w_dvalues, w_pair]
    refine ⟨c, pu, c0, by omega, fun rs S1 rk c2 rok p1 c21 c22 e1 hrk hr1 => ?_⟩
    subst hR
    refine seqG fun R hR => ?_
    have hrs := rok.small
    have l1 := hrs.l1
    have l6 := hrs.l6
    simp only [true_and, and_true, oU2, oUn1, oL1, oS1, oR1, oJust, iAdd, iSub, iMul, iFdiv, iMod, iEq, iNe, iLt, iLe, iGt, iGe, iNeg, iAbs, DL.iStr, wFmt, wJs, wJoined, sNext, sSeq, sDrop, sRet, sRetN, sIf, sAsg, sPar, wOp, wVar, wC, wUn, wCons, wNil, wCB, wCall, wMake, wMakeSw, wCallSw, wProp, wFld, oI, oI0, oU, wTest, wAnd, wOr, wNot, wAndV, wOrV, wNotV, wIf, wTup, wLst, wLstM, gwName, gwNil, gwCons, gwTup, gwSub, oIx, oInt1, oAbsI, oLen, oGcd, oDivmod, oMax2, oMin2, oIsi, tyOf, clOf, kt_ii, kt_ib, kt_rr, kt_ir, kt_ri, kt_rb, kt_ni, kt_bi, kt_bb, kt_si, kt_ti, kt_li, kt_di, kt_nr, kt_br, kt_sr, kt_tr, kt_lr, kt_dr, oStrI, if_t1, if_f1, Bool.not_true, Bool.not_false, rt, startD, List.map_cons, List.map_nil, List.length_cons, List.length_nil, List.cons_append, List.nil_append, List.getElem?_cons_zero, List.getElem?_cons_succ, List.set_cons_zero, List.set_cons_succ, List.replicate, Nat.reduceAdd, Nat.reduceSub, Nat.zero_add, Nat.sub_self, Nat.add_sub_cancel, kt_tt, wChain, sFor, sForR, forStep, gwLst, listD, wCut, wStar, oListM, oTupl, seqD, oLcm, wCallP3, p3rev, p3mid, wAppend, lk_top, lk_bot, w1, w2, numD_int, numD_ins, w_is_int, w_is_number, wi_Ratio, w_as_ratio, w_top, w_bottom, w1r, w2r, lk_ex, wMeth, w_excess, w_lt, w_le, w_gt, w_raised, w_is_int_within, wLc, wLcE, wLcZ, wLcZ3, wLcT, wLcR, wYes, wipeD, Nat.zero_add, w_common_bottom, w_whole_bases, w_scaled, w_whole_values, w_first_levels, w_next_levels, w_whole_levels, w_ratios_of, w_bottom_at, w_lt, w_le, w_gt, wTruth, sForET, w_is_base, w_check_bases, w_check_row, w_check_place, w_value_at, w_levels_at, iMulS, wCutTo, at0', at1, at2, oPow, w_purse, w_take, w_made, prD, w_ladd, w_lsub, w_lmul, ln0, ln2, ln3, ln5, ln11, sPar3, w_llevels, w_lnext, w_dbases, w_dvalues, w_pair]
    refine ⟨_, hr1, by omega, by rw [List.length_map]; omega, c2, p1, by omega, by omega, fun ws S2 wk c3 wl wok p2 c31 c32 e2 hwk hw2 => ?_⟩
    rw [List.length_map] at wl
    have hl : rs.length = ws.length := by omega
    have hws := small_v (by omega) (by omega) wok
    have hr2 := e2.2 _ _ (by omega) hr1
    have b1 := e1.1
    have b2 := e2.1
    subst hR
    refine seqG fun R hR => ?_
    simp only [true_and, and_true, oU2, oUn1, oL1, oS1, oR1, oJust, iAdd, iSub, iMul, iFdiv, iMod, iEq, iNe, iLt, iLe, iGt, iGe, iNeg, iAbs, DL.iStr, wFmt, wJs, wJoined, sNext, sSeq, sDrop, sRet, sRetN, sIf, sAsg, sPar, wOp, wVar, wC, wUn, wCons, wNil, wCB, wCall, wMake, wMakeSw, wCallSw, wProp, wFld, oI, oI0, oU, wTest, wAnd, wOr, wNot, wAndV, wOrV, wNotV, wIf, wTup, wLst, wLstM, gwName, gwNil, gwCons, gwTup, gwSub, oIx, oInt1, oAbsI, oLen, oGcd, oDivmod, oMax2, oMin2, oIsi, tyOf, clOf, kt_ii, kt_ib, kt_rr, kt_ir, kt_ri, kt_rb, kt_ni, kt_bi, kt_bb, kt_si, kt_ti, kt_li, kt_di, kt_nr, kt_br, kt_sr, kt_tr, kt_lr, kt_dr, oStrI, if_t1, if_f1, Bool.not_true, Bool.not_false, rt, startD, List.map_cons, List.map_nil, List.length_cons, List.length_nil, List.cons_append, List.nil_append, List.getElem?_cons_zero, List.getElem?_cons_succ, List.set_cons_zero, List.set_cons_succ, List.replicate, Nat.reduceAdd, Nat.reduceSub, Nat.zero_add, Nat.sub_self, Nat.add_sub_cancel, kt_tt, wChain, sFor, sForR, forStep, gwLst, listD, wCut, wStar, oListM, oTupl, seqD, oLcm, wCallP3, p3rev, p3mid, wAppend, lk_top, lk_bot, w1, w2, numD_int, numD_ins, w_is_int, w_is_number, wi_Ratio, w_as_ratio, w_top, w_bottom, w1r, w2r, lk_ex, wMeth, w_excess, w_lt, w_le, w_gt, w_raised, w_is_int_within, wLc, wLcE, wLcZ, wLcZ3, wLcT, wLcR, wYes, wipeD, Nat.zero_add, w_common_bottom, w_whole_bases, w_scaled, w_whole_values, w_first_levels, w_next_levels, w_whole_levels, w_ratios_of, w_bottom_at, w_lt, w_le, w_gt, wTruth, sForET, w_is_base, w_check_bases, w_check_row, w_check_place, w_value_at, w_levels_at, iMulS, wCutTo, at0', at1, at2, oPow, w_purse, w_take, w_made, prD, w_ladd, w_lsub, w_lmul, ln0, ln2, ln3, ln5, ln11, sPar3, w_llevels, w_lnext, w_dbases, w_dvalues, w_pair]
    rw [hr2]
    simp only [true_and, and_true, oU2, oUn1, oL1, oS1, oR1, oJust, iAdd, iSub, iMul, iFdiv, iMod, iEq, iNe, iLt, iLe, iGt, iGe, iNeg, iAbs, DL.iStr, wFmt, wJs, wJoined, sNext, sSeq, sDrop, sRet, sRetN, sIf, sAsg, sPar, wOp, wVar, wC, wUn, wCons, wNil, wCB, wCall, wMake, wMakeSw, wCallSw, wProp, wFld, oI, oI0, oU, wTest, wAnd, wOr, wNot, wAndV, wOrV, wNotV, wIf, wTup, wLst, wLstM, gwName, gwNil, gwCons, gwTup, gwSub, oIx, oInt1, oAbsI, oLen, oGcd, oDivmod, oMax2, oMin2, oIsi, tyOf, clOf, kt_ii, kt_ib, kt_rr, kt_ir, kt_ri, kt_rb, kt_ni, kt_bi, kt_bb, kt_si, kt_ti, kt_li, kt_di, kt_nr, kt_br, kt_sr, kt_tr, kt_lr, kt_dr, oStrI, if_t1, if_f1, Bool.not_true, Bool.not_false, rt, startD, List.map_cons, List.map_nil, List.length_cons, List.length_nil, List.cons_append, List.nil_append, List.getElem?_cons_zero, List.getElem?_cons_succ, List.set_cons_zero, List.set_cons_succ, List.replicate, Nat.reduceAdd, Nat.reduceSub, Nat.zero_add, Nat.sub_self, Nat.add_sub_cancel, kt_tt, wChain, sFor, sForR, forStep, gwLst, listD, wCut, wStar, oListM, oTupl, seqD, oLcm, wCallP3, p3rev, p3mid, wAppend, lk_top, lk_bot, w1, w2, numD_int, numD_ins, w_is_int, w_is_number, wi_Ratio, w_as_ratio, w_top, w_bottom, w1r, w2r, lk_ex, wMeth, w_excess, w_lt, w_le, w_gt, w_raised, w_is_int_within, wLc, wLcE, wLcZ, wLcZ3, wLcT, wLcR, wYes, wipeD, Nat.zero_add, w_common_bottom, w_whole_bases, w_scaled, w_whole_values, w_first_levels, w_next_levels, w_whole_levels, w_ratios_of, w_bottom_at, w_lt, w_le, w_gt, wTruth, sForET, w_is_base, w_check_bases, w_check_row, w_check_place, w_value_at, w_levels_at, iMulS, wCutTo, at0', at1, at2, oPow, w_purse, w_take, w_made, prD, w_ladd, w_lsub, w_lmul, ln0, ln2, ln3, ln5, ln11, sPar3, w_llevels, w_lnext, w_dbases, w_dvalues, w_pair]
    refine numbers (c := c3) rfl (by omega) (by omega) hr2 p2 l6 (fun p S acc c' nx hp pu' z1 z2 hacc lacc hn => ?_) (fun S3 xs c4 e3 hx3 nxs p3 z1 z2 => ?_)
    · simp only [true_and, and_true, oU2, oUn1, oL1, oS1, oR1, oJust, iAdd, iSub, iMul, iFdiv, iMod, iEq, iNe, iLt, iLe, iGt, iGe, iNeg, iAbs, DL.iStr, wFmt, wJs, wJoined, sNext, sSeq, sDrop, sRet, sRetN, sIf, sAsg, sPar, wOp, wVar, wC, wUn, wCons, wNil, wCB, wCall, wMake, wMakeSw, wCallSw, wProp, wFld, oI, oI0, oU, wTest, wAnd, wOr, wNot, wAndV, wOrV, wNotV, wIf, wTup, wLst, wLstM, gwName, gwNil, gwCons, gwTup, gwSub, oIx, oInt1, oAbsI, oLen, oGcd, oDivmod, oMax2, oMin2, oIsi, tyOf, clOf, kt_ii, kt_ib, kt_rr, kt_ir, kt_ri, kt_rb, kt_ni, kt_bi, kt_bb, kt_si, kt_ti, kt_li, kt_di, kt_nr, kt_br, kt_sr, kt_tr, kt_lr, kt_dr, oStrI, if_t1, if_f1, Bool.not_true, Bool.not_false, rt, startD, List.map_cons, List.map_nil, List.length_cons, List.length_nil, List.cons_append, List.nil_append, List.getElem?_cons_zero, List.getElem?_cons_succ, List.set_cons_zero, List.set_cons_succ, List.replicate, Nat.reduceAdd, Nat.reduceSub, Nat.zero_add, Nat.sub_self, Nat.add_sub_cancel, kt_tt, wChain, sFor, sForR, forStep, gwLst, listD, wCut, wStar, oListM, oTupl, seqD, oLcm, wCallP3, p3rev, p3mid, wAppend, lk_top, lk_bot, w1, w2, numD_int, numD_ins, w_is_int, w_is_number, wi_Ratio, w_as_ratio, w_top, w_bottom, w1r, w2r, lk_ex, wMeth, w_excess, w_lt, w_le, w_gt, w_raised, w_is_int_within, wLc, wLcE, wLcZ, wLcZ3, wLcT, wLcR, wYes, wipeD, Nat.zero_add, w_common_bottom, w_whole_bases, w_scaled, w_whole_values, w_first_levels, w_next_levels, w_whole_levels, w_ratios_of, w_bottom_at, w_lt, w_le, w_gt, wTruth, sForET, w_is_base, w_check_bases, w_check_row, w_check_place, w_value_at, w_levels_at, iMulS, wCutTo, at0', at1, at2, oPow, w_purse, w_take, w_made, prD, w_ladd, w_lsub, w_lmul, ln0, ln2, ln3, ln5, ln11, sPar3, w_llevels, w_lnext, w_dbases, w_dvalues, w_pair, lcStep]
      exact ⟨c', pu', by omega, by omega, (hrs.all p hp).1, nmono (hrs.z2 hp) (by decide), fun x S' nxx pp ee => ⟨acc, ee.2 _ _ (by have := pu'.lt; omega) hacc, lacc, hn x S' nxx pp ee⟩⟩
    refine ⟨_, hx3, ?_⟩
    have b3 := e3.1
    have hr3 := e3.2 _ _ (by omega) hr2
    have hw3 := e3.2 _ _ (by omega) hw2
    subst hR
    refine seqG fun R hR => ?_
    simp only [true_and, and_true, oU2, oUn1, oL1, oS1, oR1, oJust, iAdd, iSub, iMul, iFdiv, iMod, iEq, iNe, iLt, iLe, iGt, iGe, iNeg, iAbs, DL.iStr, wFmt, wJs, wJoined, sNext, sSeq, sDrop, sRet, sRetN, sIf, sAsg, sPar, wOp, wVar, wC, wUn, wCons, wNil, wCB, wCall, wMake, wMakeSw, wCallSw, wProp, wFld, oI, oI0, oU, wTest, wAnd, wOr, wNot, wAndV, wOrV, wNotV, wIf, wTup, wLst, wLstM, gwName, gwNil, gwCons, gwTup, gwSub, oIx, oInt1, oAbsI, oLen, oGcd, oDivmod, oMax2, oMin2, oIsi, tyOf, clOf, kt_ii, kt_ib, kt_rr, kt_ir, kt_ri, kt_rb, kt_ni, kt_bi, kt_bb, kt_si, kt_ti, kt_li, kt_di, kt_nr, kt_br, kt_sr, kt_tr, kt_lr, kt_dr, oStrI, if_t1, if_f1, Bool.not_true, Bool.not_false, rt, startD, List.map_cons, List.map_nil, List.length_cons, List.length_nil, List.cons_append, List.nil_append, List.getElem?_cons_zero, List.getElem?_cons_succ, List.set_cons_zero, List.set_cons_succ, List.replicate, Nat.reduceAdd, Nat.reduceSub, Nat.zero_add, Nat.sub_self, Nat.add_sub_cancel, kt_tt, wChain, sFor, sForR, forStep, gwLst, listD, wCut, wStar, oListM, oTupl, seqD, oLcm, wCallP3, p3rev, p3mid, wAppend, lk_top, lk_bot, w1, w2, numD_int, numD_ins, w_is_int, w_is_number, wi_Ratio, w_as_ratio, w_top, w_bottom, w1r, w2r, lk_ex, wMeth, w_excess, w_lt, w_le, w_gt, w_raised, w_is_int_within, wLc, wLcE, wLcZ, wLcZ3, wLcT, wLcR, wYes, wipeD, Nat.zero_add, w_common_bottom, w_whole_bases, w_scaled, w_whole_values, w_first_levels, w_next_levels, w_whole_levels, w_ratios_of, w_bottom_at, w_lt, w_le, w_gt, wTruth, sForET, w_is_base, w_check_bases, w_check_row, w_check_place, w_value_at, w_levels_at, iMulS, wCutTo, at0', at1, at2, oPow, w_purse, w_take, w_made, prD, w_ladd, w_lsub, w_lmul, ln0, ln2, ln3, ln5, ln11, sPar3, w_llevels, w_lnext, w_dbases, w_dvalues, w_pair]
    rw [hw3]
    simp only [true_and, and_true, oU2, oUn1, oL1, oS1, oR1, oJust, iAdd, iSub, iMul, iFdiv, iMod, iEq, iNe, iLt, iLe, iGt, iGe, iNeg, iAbs, DL.iStr, wFmt, wJs, wJoined, sNext, sSeq, sDrop, sRet, sRetN, sIf, sAsg, sPar, wOp, wVar, wC, wUn, wCons, wNil, wCB, wCall, wMake, wMakeSw, wCallSw, wProp, wFld, oI, oI0, oU, wTest, wAnd, wOr, wNot, wAndV, wOrV, wNotV, wIf, wTup, wLst, wLstM, gwName, gwNil, gwCons, gwTup, gwSub, oIx, oInt1, oAbsI, oLen, oGcd, oDivmod, oMax2, oMin2, oIsi, tyOf, clOf, kt_ii, kt_ib, kt_rr, kt_ir, kt_ri, kt_rb, kt_ni, kt_bi, kt_bb, kt_si, kt_ti, kt_li, kt_di, kt_nr, kt_br, kt_sr, kt_tr, kt_lr, kt_dr, oStrI, if_t1, if_f1, Bool.not_true, Bool.not_false, rt, startD, List.map_cons, List.map_nil, List.length_cons, List.length_nil, List.cons_append, List.nil_append, List.getElem?_cons_zero, List.getElem?_cons_succ, List.set_cons_zero, List.set_cons_succ, List.replicate, Nat.reduceAdd, Nat.reduceSub, Nat.zero_add, Nat.sub_self, Nat.add_sub_cancel, kt_tt, wChain, sFor, sForR, forStep, gwLst, listD, wCut, wStar, oListM, oTupl, seqD, oLcm, wCallP3, p3rev, p3mid, wAppend, lk_top, lk_bot, w1, w2, numD_int, numD_ins, w_is_int, w_is_number, wi_Ratio, w_as_ratio, w_top, w_bottom, w1r, w2r, lk_ex, wMeth, w_excess, w_lt, w_le, w_gt, w_raised, w_is_int_within, wLc, wLcE, wLcZ, wLcZ3, wLcT, wLcR, wYes, wipeD, Nat.zero_add, w_common_bottom, w_whole_bases, w_scaled, w_whole_values, w_first_levels, w_next_levels, w_whole_levels, w_ratios_of, w_bottom_at, w_lt, w_le, w_gt, wTruth, sForET, w_is_base, w_check_bases, w_check_row, w_check_place, w_value_at, w_levels_at, iMulS, wCutTo, at0', at1, at2, oPow, w_purse, w_take, w_made, prD, w_ladd, w_lsub, w_lmul, ln0, ln2, ln3, ln5, ln11, sPar3, w_llevels, w_lnext, w_dbases, w_dvalues, w_pair]
    refine numbers (c := c4) rfl (by omega) (by omega) hw3 p3 (by omega) (fun p S acc c' nx hp pu' z1 z2 hacc lacc hn => ?_) (fun S4 ys c5 e4 hy4 nys p4 z3 z4 => ?_)
    · simp only [true_and, and_true, oU2, oUn1, oL1, oS1, oR1, oJust, iAdd, iSub, iMul, iFdiv, iMod, iEq, iNe, iLt, iLe, iGt, iGe, iNeg, iAbs, DL.iStr, wFmt, wJs, wJoined, sNext, sSeq, sDrop, sRet, sRetN, sIf, sAsg, sPar, wOp, wVar, wC, wUn, wCons, wNil, wCB, wCall, wMake, wMakeSw, wCallSw, wProp, wFld, oI, oI0, oU, wTest, wAnd, wOr, wNot, wAndV, wOrV, wNotV, wIf, wTup, wLst, wLstM, gwName, gwNil, gwCons, gwTup, gwSub, oIx, oInt1, oAbsI, oLen, oGcd, oDivmod, oMax2, oMin2, oIsi, tyOf, clOf, kt_ii, kt_ib, kt_rr, kt_ir, kt_ri, kt_rb, kt_ni, kt_bi, kt_bb, kt_si, kt_ti, kt_li, kt_di, kt_nr, kt_br, kt_sr, kt_tr, kt_lr, kt_dr, oStrI, if_t1, if_f1, Bool.not_true, Bool.not_false, rt, startD, List.map_cons, List.map_nil, List.length_cons, List.length_nil, List.cons_append, List.nil_append, List.getElem?_cons_zero, List.getElem?_cons_succ, List.set_cons_zero, List.set_cons_succ, List.replicate, Nat.reduceAdd, Nat.reduceSub, Nat.zero_add, Nat.sub_self, Nat.add_sub_cancel, kt_tt, wChain, sFor, sForR, forStep, gwLst, listD, wCut, wStar, oListM, oTupl, seqD, oLcm, wCallP3, p3rev, p3mid, wAppend, lk_top, lk_bot, w1, w2, numD_int, numD_ins, w_is_int, w_is_number, wi_Ratio, w_as_ratio, w_top, w_bottom, w1r, w2r, lk_ex, wMeth, w_excess, w_lt, w_le, w_gt, w_raised, w_is_int_within, wLc, wLcE, wLcZ, wLcZ3, wLcT, wLcR, wYes, wipeD, Nat.zero_add, w_common_bottom, w_whole_bases, w_scaled, w_whole_values, w_first_levels, w_next_levels, w_whole_levels, w_ratios_of, w_bottom_at, w_lt, w_le, w_gt, wTruth, sForET, w_is_base, w_check_bases, w_check_row, w_check_place, w_value_at, w_levels_at, iMulS, wCutTo, at0', at1, at2, oPow, w_purse, w_take, w_made, prD, w_ladd, w_lsub, w_lmul, ln0, ln2, ln3, ln5, ln11, sPar3, w_llevels, w_lnext, w_dbases, w_dvalues, w_pair, lcStep]
      exact ⟨c', pu', by omega, by omega, (hws.all p hp).1, nmono (hws.z2 hp) (by decide), fun x S' nxx pp ee => ⟨acc, ee.2 _ _ (by have := pu'.lt; omega) hacc, lacc, hn x S' nxx pp ee⟩⟩
    refine ⟨_, hy4, ?_⟩
    have b4 := e4.1
    have hr4 := e4.2 _ _ (by omega) hr3
    have hw4 := e4.2 _ _ (by omega) hw3
    subst hR
    refine seqG fun R hR => ?_
    simp only [true_and, and_true, oU2, oUn1, oL1, oS1, oR1, oJust, iAdd, iSub, iMul, iFdiv, iMod, iEq, iNe, iLt, iLe, iGt, iGe, iNeg, iAbs, DL.iStr, wFmt, wJs, wJoined, sNext, sSeq, sDrop, sRet, sRetN, sIf, sAsg, sPar, wOp, wVar, wC, wUn, wCons, wNil, wCB, wCall, wMake, wMakeSw, wCallSw, wProp, wFld, oI, oI0, oU, wTest, wAnd, wOr, wNot, wAndV, wOrV, wNotV, wIf, wTup, wLst, wLstM, gwName, gwNil, gwCons, gwTup, gwSub, oIx, oInt1, oAbsI, oLen, oGcd, oDivmod, oMax2, oMin2, oIsi, tyOf, clOf, kt_ii, kt_ib, kt_rr, kt_ir, kt_ri, kt_rb, kt_ni, kt_bi, kt_bb, kt_si, kt_ti, kt_li, kt_di, kt_nr, kt_br, kt_sr, kt_tr, kt_lr, kt_dr, oStrI, if_t1, if_f1, Bool.not_true, Bool.not_false, rt, startD, List.map_cons, List.map_nil, List.length_cons, List.length_nil, List.cons_append, List.nil_append, List.getElem?_cons_zero, List.getElem?_cons_succ, List.set_cons_zero, List.set_cons_succ, List.replicate, Nat.reduceAdd, Nat.reduceSub, Nat.zero_add, Nat.sub_self, Nat.add_sub_cancel, kt_tt, wChain, sFor, sForR, forStep, gwLst, listD, wCut, wStar, oListM, oTupl, seqD, oLcm, wCallP3, p3rev, p3mid, wAppend, lk_top, lk_bot, w1, w2, numD_int, numD_ins, w_is_int, w_is_number, wi_Ratio, w_as_ratio, w_top, w_bottom, w1r, w2r, lk_ex, wMeth, w_excess, w_lt, w_le, w_gt, w_raised, w_is_int_within, wLc, wLcE, wLcZ, wLcZ3, wLcT, wLcR, wYes, wipeD, Nat.zero_add, w_common_bottom, w_whole_bases, w_scaled, w_whole_values, w_first_levels, w_next_levels, w_whole_levels, w_ratios_of, w_bottom_at, w_lt, w_le, w_gt, wTruth, sForET, w_is_base, w_check_bases, w_check_row, w_check_place, w_value_at, w_levels_at, iMulS, wCutTo, at0', at1, at2, oPow, w_purse, w_take, w_made, prD, w_ladd, w_lsub, w_lmul, ln0, ln2, ln3, ln5, ln11, sPar3, w_llevels, w_lnext, w_dbases, w_dvalues, w_pair]
    refine ⟨rs, ws, hr4, hw4, hl, l6, hrs.okp, row_ok hrs hws hl, fun S5 lk e5 hlk hl5 => ?_⟩
    refine ⟨c5, p4.ext e5, ⟨by omega, by omega⟩, ⟨by decide, by decide⟩, fun q S6 q0 q1 p6 e6 => ?_⟩
    have b5 := e5.len
    have hr6 := e6.2 _ _ (by omega) (e5 _ _ hr4)
    have hw6 := e6.2 _ _ (by omega) (e5 _ _ hw4)
    have hl6 := e6.2 _ _ (by omega) hl5
    subst hR
    have hQ : ∀ S', Ext S6 S' → Q (.bl true) S' := fun S' e => h S' (e1.trans (e2.trans (e3.trans (e4.trans (e5.b.trans (e6.trans e.b))))))
    have lv80 : ∀ n i, n ≤ 70 → i ≤ 6 → True := fun _ _ _ _ => trivial
    have wlen : ws.length ≤ 6 := by omega
    refine seqG fun R hR => ?_
    have rest : ∀ (S7 : MS) (lk' : Nat) (o8 o9 : Option D), Ext S6 S7 → R ({ nx := fun _ S' => Q .non S', rt := Q } : DEnds) [some (.mut d), some (.mut rk), some (.mut wk), some (.tup xs), none, some (.tup ys), some (.mut lk'), some (.int (16 + q)), o8, o9, none, none, none] S7 := fun S7 lk' o8 o9 e7 => by
      have hw7 := e7 _ _ hw6
      have hr7 := e7 _ _ hr6
      subst hR
      refine seqG fun R hR => ?_
      simp only [true_and, and_true, oU2, oUn1, oL1, oS1, oR1, oJust, iAdd, iSub, iMul, iFdiv, iMod, iEq, iNe, iLt, iLe, iGt, iGe, iNeg, iAbs, DL.iStr, wFmt, wJs, wJoined, sNext, sSeq, sDrop, sRet, sRetN, sIf, sAsg, sPar, wOp, wVar, wC, wUn, wCons, wNil, wCB, wCall, wMake, wMakeSw, wCallSw, wProp, wFld, oI, oI0, oU, wTest, wAnd, wOr, wNot, wAndV, wOrV, wNotV, wIf, wTup, wLst, wLstM, gwName, gwNil, gwCons, gwTup, gwSub, oIx, oInt1, oAbsI, oLen, oGcd, oDivmod, oMax2, oMin2, oIsi, tyOf, clOf, kt_ii, kt_ib, kt_rr, kt_ir, kt_ri, kt_rb, kt_ni, kt_bi, kt_bb, kt_si, kt_ti, kt_li, kt_di, kt_nr, kt_br, kt_sr, kt_tr, kt_lr, kt_dr, oStrI, if_t1, if_f1, Bool.not_true, Bool.not_false, rt, startD, List.map_cons, List.map_nil, List.length_cons, List.length_nil, List.cons_append, List.nil_append, List.getElem?_cons_zero, List.getElem?_cons_succ, List.set_cons_zero, List.set_cons_succ, List.replicate, Nat.reduceAdd, Nat.reduceSub, Nat.zero_add, Nat.sub_self, Nat.add_sub_cancel, kt_tt, wChain, sFor, sForR, forStep, gwLst, listD, wCut, wStar, oListM, oTupl, seqD, oLcm, wCallP3, p3rev, p3mid, wAppend, lk_top, lk_bot, w1, w2, numD_int, numD_ins, w_is_int, w_is_number, wi_Ratio, w_as_ratio, w_top, w_bottom, w1r, w2r, lk_ex, wMeth, w_excess, w_lt, w_le, w_gt, w_raised, w_is_int_within, wLc, wLcE, wLcZ, wLcZ3, wLcT, wLcR, wYes, wipeD, Nat.zero_add, w_common_bottom, w_whole_bases, w_scaled, w_whole_values, w_first_levels, w_next_levels, w_whole_levels, w_ratios_of, w_bottom_at, w_lt, w_le, w_gt, wTruth, sForET, w_is_base, w_check_bases, w_check_row, w_check_place, w_value_at, w_levels_at, iMulS, wCutTo, at0', at1, at2, oPow, w_purse, w_take, w_made, prD, w_ladd, w_lsub, w_lmul, ln0, ln2, ln3, ln5, ln11, sPar3, w_llevels, w_lnext, w_dbases, w_dvalues, w_pair]
      refine ⟨_, hw7, ⟨by simp <;> omega, by simp <;> omega⟩, ?_⟩
      rw [show ((ws.map prD).length : Int).toNat = rs.length by rw [List.length_map]; omega, rangeD_map]
      refine lcD_run (fun i : Nat => D.int (0 + i)) (MapJ S7 S7.length ((lvs rs ws 0 0 rs.length).map prD)) (List.range rs.length) 0 ?_ ?_ _ MapJ.start
      · intro k x S8 nx8 hk j8 hn8
        have kl := (List.getElem?_eq_some_iff.mp hk).1
        rw [List.length_range] at kl
        rw [List.getElem?_range kl] at hk
        cases hk
        simp only [true_and, and_true, oU2, oUn1, oL1, oS1, oR1, oJust, iAdd, iSub, iMul, iFdiv, iMod, iEq, iNe, iLt, iLe, iGt, iGe, iNeg, iAbs, DL.iStr, wFmt, wJs, wJoined, sNext, sSeq, sDrop, sRet, sRetN, sIf, sAsg, sPar, wOp, wVar, wC, wUn, wCons, wNil, wCB, wCall, wMake, wMakeSw, wCallSw, wProp, wFld, oI, oI0, oU, wTest, wAnd, wOr, wNot, wAndV, wOrV, wNotV, wIf, wTup, wLst, wLstM, gwName, gwNil, gwCons, gwTup, gwSub, oIx, oInt1, oAbsI, oLen, oGcd, oDivmod, oMax2, oMin2, oIsi, tyOf, clOf, kt_ii, kt_ib, kt_rr, kt_ir, kt_ri, kt_rb, kt_ni, kt_bi, kt_bb, kt_si, kt_ti, kt_li, kt_di, kt_nr, kt_br, kt_sr, kt_tr, kt_lr, kt_dr, oStrI, if_t1, if_f1, Bool.not_true, Bool.not_false, rt, startD, List.map_cons, List.map_nil, List.length_cons, List.length_nil, List.cons_append, List.nil_append, List.getElem?_cons_zero, List.getElem?_cons_succ, List.set_cons_zero, List.set_cons_succ, List.replicate, Nat.reduceAdd, Nat.reduceSub, Nat.zero_add, Nat.sub_self, Nat.add_sub_cancel, kt_tt, wChain, sFor, sForR, forStep, gwLst, listD, wCut, wStar, oListM, oTupl, seqD, oLcm, wCallP3, p3rev, p3mid, wAppend, lk_top, lk_bot, w1, w2, numD_int, numD_ins, w_is_int, w_is_number, wi_Ratio, w_as_ratio, w_top, w_bottom, w1r, w2r, lk_ex, wMeth, w_excess, w_lt, w_le, w_gt, w_raised, w_is_int_within, wLc, wLcE, wLcZ, wLcZ3, wLcT, wLcR, wYes, wipeD, Nat.zero_add, w_common_bottom, w_whole_bases, w_scaled, w_whole_values, w_first_levels, w_next_levels, w_whole_levels, w_ratios_of, w_bottom_at, w_lt, w_le, w_gt, wTruth, sForET, w_is_base, w_check_bases, w_check_row, w_check_place, w_value_at, w_levels_at, iMulS, wCutTo, at0', at1, at2, oPow, w_purse, w_take, w_made, prD, w_ladd, w_lsub, w_lmul, ln0, ln2, ln3, ln5, ln11, sPar3, w_llevels, w_lnext, w_dbases, w_dvalues, w_pair, lcStep]
        refine ⟨72, 42, rs, ws, nxs, nys, hrs, hws, rok.rising, hl, by omega, by omega, fun S9 e9 => ?_⟩
        refine map_next (Nat.le_refl _) j8 e9 ?_ (small_line (by rw [List.length_map, lvs_len]; omega)) hn8
        rw [Nat.zero_add, List.getElem?_map, lvs_get kl, h0_get hrs, show ((0 : Int) + (k : Int)).toNat = 0 + k by omega]
        rfl
      · intro S8 j8
        rw [Nat.zero_add, show (List.range rs.length).length = ((lvs rs ws 0 0 rs.length).map prD).length by rw [List.length_map, lvs_len, List.length_range]] at j8
        obtain ⟨f8, g8⟩ := mutD j8
        rw [firsts_eq hrs hws hl] at g8
        have hw8 := f8 _ _ hw7
        have hr8 := f8 _ _ hr7
        refine neM g8 hw8 ?_
        simp only [true_and, and_true, oU2, oUn1, oL1, oS1, oR1, oJust, iAdd, iSub, iMul, iFdiv, iMod, iEq, iNe, iLt, iLe, iGt, iGe, iNeg, iAbs, DL.iStr, wFmt, wJs, wJoined, sNext, sSeq, sDrop, sRet, sRetN, sIf, sAsg, sPar, wOp, wVar, wC, wUn, wCons, wNil, wCB, wCall, wMake, wMakeSw, wCallSw, wProp, wFld, oI, oI0, oU, wTest, wAnd, wOr, wNot, wAndV, wOrV, wNotV, wIf, wTup, wLst, wLstM, gwName, gwNil, gwCons, gwTup, gwSub, oIx, oInt1, oAbsI, oLen, oGcd, oDivmod, oMax2, oMin2, oIsi, tyOf, clOf, kt_ii, kt_ib, kt_rr, kt_ir, kt_ri, kt_rb, kt_ni, kt_bi, kt_bb, kt_si, kt_ti, kt_li, kt_di, kt_nr, kt_br, kt_sr, kt_tr, kt_lr, kt_dr, oStrI, if_t1, if_f1, Bool.not_true, Bool.not_false, rt, startD, List.map_cons, List.map_nil, List.length_cons, List.length_nil, List.cons_append, List.nil_append, List.getElem?_cons_zero, List.getElem?_cons_succ, List.set_cons_zero, List.set_cons_succ, List.replicate, Nat.reduceAdd, Nat.reduceSub, Nat.zero_add, Nat.sub_self, Nat.add_sub_cancel, kt_tt, wChain, sFor, sForR, forStep, gwLst, listD, wCut, wStar, oListM, oTupl, seqD, oLcm, wCallP3, p3rev, p3mid, wAppend, lk_top, lk_bot, w1, w2, numD_int, numD_ins, w_is_int, w_is_number, wi_Ratio, w_as_ratio, w_top, w_bottom, w1r, w2r, lk_ex, wMeth, w_excess, w_lt, w_le, w_gt, w_raised, w_is_int_within, wLc, wLcE, wLcZ, wLcZ3, wLcT, wLcR, wYes, wipeD, Nat.zero_add, w_common_bottom, w_whole_bases, w_scaled, w_whole_values, w_first_levels, w_next_levels, w_whole_levels, w_ratios_of, w_bottom_at, w_lt, w_le, w_gt, wTruth, sForET, w_is_base, w_check_bases, w_check_row, w_check_place, w_value_at, w_levels_at, iMulS, wCutTo, at0', at1, at2, oPow, w_purse, w_take, w_made, prD, w_ladd, w_lsub, w_lmul, ln0, ln2, ln3, ln5, ln11, sPar3, w_llevels, w_lnext, w_dbases, w_dvalues, w_pair]
        subst hR
        refine seqG fun R hR => ?_
        simp only [true_and, and_true, oU2, oUn1, oL1, oS1, oR1, oJust, iAdd, iSub, iMul, iFdiv, iMod, iEq, iNe, iLt, iLe, iGt, iGe, iNeg, iAbs, DL.iStr, wFmt, wJs, wJoined, sNext, sSeq, sDrop, sRet, sRetN, sIf, sAsg, sPar, wOp, wVar, wC, wUn, wCons, wNil, wCB, wCall, wMake, wMakeSw, wCallSw, wProp, wFld, oI, oI0, oU, wTest, wAnd, wOr, wNot, wAndV, wOrV, wNotV, wIf, wTup, wLst, wLstM, gwName, gwNil, gwCons, gwTup, gwSub, oIx, oInt1, oAbsI, oLen, oGcd, oDivmod, oMax2, oMin2, oIsi, tyOf, clOf, kt_ii, kt_ib, kt_rr, kt_ir, kt_ri, kt_rb, kt_ni, kt_bi, kt_bb, kt_si, kt_ti, kt_li, kt_di, kt_nr, kt_br, kt_sr, kt_tr, kt_lr, kt_dr, oStrI, if_t1, if_f1, Bool.not_true, Bool.not_false, rt, startD, List.map_cons, List.map_nil, List.length_cons, List.length_nil, List.cons_append, List.nil_append, List.getElem?_cons_zero, List.getElem?_cons_succ, List.set_cons_zero, List.set_cons_succ, List.replicate, Nat.reduceAdd, Nat.reduceSub, Nat.zero_add, Nat.sub_self, Nat.add_sub_cancel, kt_tt, wChain, sFor, sForR, forStep, gwLst, listD, wCut, wStar, oListM, oTupl, seqD, oLcm, wCallP3, p3rev, p3mid, wAppend, lk_top, lk_bot, w1, w2, numD_int, numD_ins, w_is_int, w_is_number, wi_Ratio, w_as_ratio, w_top, w_bottom, w1r, w2r, lk_ex, wMeth, w_excess, w_lt, w_le, w_gt, w_raised, w_is_int_within, wLc, wLcE, wLcZ, wLcZ3, wLcT, wLcR, wYes, wipeD, Nat.zero_add, w_common_bottom, w_whole_bases, w_scaled, w_whole_values, w_first_levels, w_next_levels, w_whole_levels, w_ratios_of, w_bottom_at, w_lt, w_le, w_gt, wTruth, sForET, w_is_base, w_check_bases, w_check_row, w_check_place, w_value_at, w_levels_at, iMulS, wCutTo, at0', at1, at2, oPow, w_purse, w_take, w_made, prD, w_ladd, w_lsub, w_lmul, ln0, ln2, ln3, ln5, ln11, sPar3, w_llevels, w_lnext, w_dbases, w_dvalues, w_pair]
        refine ⟨_, hw8, ⟨by simp <;> omega, by simp <;> omega⟩, ?_⟩
        rw [show ((ws.map prD).length : Int).toNat = rs.length by rw [List.length_map]; omega, rangeD_map]
        refine lcD_run (fun i : Nat => D.int (0 + i)) (MapJ S8 S8.length ((lvs rs ws 9 0 rs.length).map prD)) (List.range rs.length) 0 ?_ ?_ _ MapJ.start
        · intro k x S9 nx9 hk j9 hn9
          have kl := (List.getElem?_eq_some_iff.mp hk).1
          rw [List.length_range] at kl
          rw [List.getElem?_range kl] at hk
          cases hk
          simp only [true_and, and_true, oU2, oUn1, oL1, oS1, oR1, oJust, iAdd, iSub, iMul, iFdiv, iMod, iEq, iNe, iLt, iLe, iGt, iGe, iNeg, iAbs, DL.iStr, wFmt, wJs, wJoined, sNext, sSeq, sDrop, sRet, sRetN, sIf, sAsg, sPar, wOp, wVar, wC, wUn, wCons, wNil, wCB, wCall, wMake, wMakeSw, wCallSw, wProp, wFld, oI, oI0, oU, wTest, wAnd, wOr, wNot, wAndV, wOrV, wNotV, wIf, wTup, wLst, wLstM, gwName, gwNil, gwCons, gwTup, gwSub, oIx, oInt1, oAbsI, oLen, oGcd, oDivmod, oMax2, oMin2, oIsi, tyOf, clOf, kt_ii, kt_ib, kt_rr, kt_ir, kt_ri, kt_rb, kt_ni, kt_bi, kt_bb, kt_si, kt_ti, kt_li, kt_di, kt_nr, kt_br, kt_sr, kt_tr, kt_lr, kt_dr, oStrI, if_t1, if_f1, Bool.not_true, Bool.not_false, rt, startD, List.map_cons, List.map_nil, List.length_cons, List.length_nil, List.cons_append, List.nil_append, List.getElem?_cons_zero, List.getElem?_cons_succ, List.set_cons_zero, List.set_cons_succ, List.replicate, Nat.reduceAdd, Nat.reduceSub, Nat.zero_add, Nat.sub_self, Nat.add_sub_cancel, kt_tt, wChain, sFor, sForR, forStep, gwLst, listD, wCut, wStar, oListM, oTupl, seqD, oLcm, wCallP3, p3rev, p3mid, wAppend, lk_top, lk_bot, w1, w2, numD_int, numD_ins, w_is_int, w_is_number, wi_Ratio, w_as_ratio, w_top, w_bottom, w1r, w2r, lk_ex, wMeth, w_excess, w_lt, w_le, w_gt, w_raised, w_is_int_within, wLc, wLcE, wLcZ, wLcZ3, wLcT, wLcR, wYes, wipeD, Nat.zero_add, w_common_bottom, w_whole_bases, w_scaled, w_whole_values, w_first_levels, w_next_levels, w_whole_levels, w_ratios_of, w_bottom_at, w_lt, w_le, w_gt, wTruth, sForET, w_is_base, w_check_bases, w_check_row, w_check_place, w_value_at, w_levels_at, iMulS, wCutTo, at0', at1, at2, oPow, w_purse, w_take, w_made, prD, w_ladd, w_lsub, w_lmul, ln0, ln2, ln3, ln5, ln11, sPar3, w_llevels, w_lnext, w_dbases, w_dvalues, w_pair, lcStep]
          refine ⟨72, 42, rs, ws, nxs, nys, hrs, hws, rok.rising, hl, by omega, by omega, fun S10 e10 => ?_⟩
          refine map_next (Nat.le_refl _) j9 e10 ?_ (small_line (by rw [List.length_map, lvs_len]; omega)) hn9
          rw [Nat.zero_add, List.getElem?_map, lvs_get kl, h0_get hrs, show ((9 : Int) + (0 + (k : Int))).toNat = 9 + k by omega]
          rfl
        · intro S9 j9
          rw [Nat.zero_add, show (List.range rs.length).length = ((lvs rs ws 9 0 rs.length).map prD).length by rw [List.length_map, lvs_len, List.length_range]] at j9
          obtain ⟨f9, g9⟩ := mutD j9
          have hr9 := f9 _ _ hr8
          generalize S8.length = r9 at g9 ⊢
          subst hR
          simp only [true_and, and_true, oU2, oUn1, oL1, oS1, oR1, oJust, iAdd, iSub, iMul, iFdiv, iMod, iEq, iNe, iLt, iLe, iGt, iGe, iNeg, iAbs, DL.iStr, wFmt, wJs, wJoined, sNext, sSeq, sDrop, sRet, sRetN, sIf, sAsg, sPar, wOp, wVar, wC, wUn, wCons, wNil, wCB, wCall, wMake, wMakeSw, wCallSw, wProp, wFld, oI, oI0, oU, wTest, wAnd, wOr, wNot, wAndV, wOrV, wNotV, wIf, wTup, wLst, wLstM, gwName, gwNil, gwCons, gwTup, gwSub, oIx, oInt1, oAbsI, oLen, oGcd, oDivmod, oMax2, oMin2, oIsi, tyOf, clOf, kt_ii, kt_ib, kt_rr, kt_ir, kt_ri, kt_rb, kt_ni, kt_bi, kt_bb, kt_si, kt_ti, kt_li, kt_di, kt_nr, kt_br, kt_sr, kt_tr, kt_lr, kt_dr, oStrI, if_t1, if_f1, Bool.not_true, Bool.not_false, rt, startD, List.map_cons, List.map_nil, List.length_cons, List.length_nil, List.cons_append, List.nil_append, List.getElem?_cons_zero, List.getElem?_cons_succ, List.set_cons_zero, List.set_cons_succ, List.replicate, Nat.reduceAdd, Nat.reduceSub, Nat.zero_add, Nat.sub_self, Nat.add_sub_cancel, kt_tt, wChain, sFor, sForR, forStep, gwLst, listD, wCut, wStar, oListM, oTupl, seqD, oLcm, wCallP3, p3rev, p3mid, wAppend, lk_top, lk_bot, w1, w2, numD_int, numD_ins, w_is_int, w_is_number, wi_Ratio, w_as_ratio, w_top, w_bottom, w1r, w2r, lk_ex, wMeth, w_excess, w_lt, w_le, w_gt, w_raised, w_is_int_within, wLc, wLcE, wLcZ, wLcZ3, wLcT, wLcR, wYes, wipeD, Nat.zero_add, w_common_bottom, w_whole_bases, w_scaled, w_whole_values, w_first_levels, w_next_levels, w_whole_levels, w_ratios_of, w_bottom_at, w_lt, w_le, w_gt, wTruth, sForET, w_is_base, w_check_bases, w_check_row, w_check_place, w_value_at, w_levels_at, iMulS, wCutTo, at0', at1, at2, oPow, w_purse, w_take, w_made, prD, w_ladd, w_lsub, w_lmul, ln0, ln2, ln3, ln5, ln11, sPar3, w_llevels, w_lnext, w_dbases, w_dvalues, w_pair]
          refine ⟨72, 42, rs, ws, nxs, nys, hrs, hws, rok.rising, hl, by decide, by decide, fun S10 e10 => ?_⟩
          refine pairs_lc rfl (by rw [show (9 : Int).toNat = 9 from rfl, lev_len l1]; omega) (fun i p S nx hp hn => ?_) (fun S11 e11 h11 => ?_)
          · simp only [true_and, and_true, oU2, oUn1, oL1, oS1, oR1, oJust, iAdd, iSub, iMul, iFdiv, iMod, iEq, iNe, iLt, iLe, iGt, iGe, iNeg, iAbs, DL.iStr, wFmt, wJs, wJoined, sNext, sSeq, sDrop, sRet, sRetN, sIf, sAsg, sPar, wOp, wVar, wC, wUn, wCons, wNil, wCB, wCall, wMake, wMakeSw, wCallSw, wProp, wFld, oI, oI0, oU, wTest, wAnd, wOr, wNot, wAndV, wOrV, wNotV, wIf, wTup, wLst, wLstM, gwName, gwNil, gwCons, gwTup, gwSub, oIx, oInt1, oAbsI, oLen, oGcd, oDivmod, oMax2, oMin2, oIsi, tyOf, clOf, kt_ii, kt_ib, kt_rr, kt_ir, kt_ri, kt_rb, kt_ni, kt_bi, kt_bb, kt_si, kt_ti, kt_li, kt_di, kt_nr, kt_br, kt_sr, kt_tr, kt_lr, kt_dr, oStrI, if_t1, if_f1, Bool.not_true, Bool.not_false, rt, startD, List.map_cons, List.map_nil, List.length_cons, List.length_nil, List.cons_append, List.nil_append, List.getElem?_cons_zero, List.getElem?_cons_succ, List.set_cons_zero, List.set_cons_succ, List.replicate, Nat.reduceAdd, Nat.reduceSub, Nat.zero_add, Nat.sub_self, Nat.add_sub_cancel, kt_tt, wChain, sFor, sForR, forStep, gwLst, listD, wCut, wStar, oListM, oTupl, seqD, oLcm, wCallP3, p3rev, p3mid, wAppend, lk_top, lk_bot, w1, w2, numD_int, numD_ins, w_is_int, w_is_number, wi_Ratio, w_as_ratio, w_top, w_bottom, w1r, w2r, lk_ex, wMeth, w_excess, w_lt, w_le, w_gt, w_raised, w_is_int_within, wLc, wLcE, wLcZ, wLcZ3, wLcT, wLcR, wYes, wipeD, Nat.zero_add, w_common_bottom, w_whole_bases, w_scaled, w_whole_values, w_first_levels, w_next_levels, w_whole_levels, w_ratios_of, w_bottom_at, w_lt, w_le, w_gt, wTruth, sForET, w_is_base, w_check_bases, w_check_row, w_check_place, w_value_at, w_levels_at, iMulS, wCutTo, at0', at1, at2, oPow, w_purse, w_take, w_made, prD, w_ladd, w_lsub, w_lmul, ln0, ln2, ln3, ln5, ln11, sPar3, w_llevels, w_lnext, w_dbases, w_dvalues, w_pair, lcStep]
            exact hn
          · refine ⟨rs, lvs rs ws 9 0 rs.length, e11 _ _ (e10 _ _ hr9), e11 _ _ (e10 _ _ g9), by rw [lvs_len], l6, hrs.okp, row_lvs_ok hrs hws hl (by decide), fun S12 k12 e12 _ h12 => ?_⟩
            rw [first_lvs hrs hws hl] at h12
            exact eqM (e12 _ _ h11) h12 (hQ _ (((((e7.trans f8).trans f9).trans e10).trans e11).trans e12))
    simp only [sSeq, sForR, wCons, wVar, wNil, List.getElem?_cons_zero, List.getElem?_cons_succ]
    refine ⟨⟨by omega, by omega⟩, ?_⟩
    rw [show (16 + q).toNat = 16 + q.toNat by omega, rangeD_map]
    refine forD_run (fun i : Nat => D.int (0 + i)) (fun i ρ S' => Ext S6 S' ∧ ∃ (k : Nat) (o8 o9 : Option D), S'[k]? = some ((lev rs ws i).map prD) ∧ ρ = [some (.mut d), some (.mut rk), some (.mut wk), some (.tup xs), none, some (.tup ys), some (.mut k), some (.int (16 + q)), o8, o9, none, none, none]) (List.range (16 + q.toNat)) 0 ?_ ?_ _ _ ⟨.refl, lk, none, none, hl6, rfl⟩
    · rintro i x ρ S' nx hx ⟨eS, k, o8, o9, hk, rfl⟩ hn
      simp only [Nat.zero_add] at hk hn
      have hi := (List.getElem?_eq_some_iff.mp hx).1
      rw [List.length_range] at hi
      rw [List.getElem?_range hi] at hx
      cases hx
      have i60 : i ≤ 60 := by omega
      have l0 := lev_len (ps := rs) (qs := ws) l1 i
      simp only [forStep, gwName, List.set_cons_zero, List.set_cons_succ]
      refine seqG fun R hR => ?_
      have fin : ∀ (bk : DEnv → MS → Prop) (S7 : MS) (o9 : Option D), Ext S' S7 → R ({ nx := nx, rt := Q, bk := bk, ct := nx } : DEnds) [some (.mut d), some (.mut rk), some (.mut wk), some (.tup xs), none, some (.tup ys), some (.mut k), some (.int (16 + q)), some (.int (0 + (i : Int))), o9, none, none, none] S7 := fun bk S7 o9 e7 => by
        subst hR
        simp only [true_and, and_true, oU2, oUn1, oL1, oS1, oR1, oJust, iAdd, iSub, iMul, iFdiv, iMod, iEq, iNe, iLt, iLe, iGt, iGe, iNeg, iAbs, DL.iStr, wFmt, wJs, wJoined, sNext, sSeq, sDrop, sRet, sRetN, sIf, sAsg, sPar, wOp, wVar, wC, wUn, wCons, wNil, wCB, wCall, wMake, wMakeSw, wCallSw, wProp, wFld, oI, oI0, oU, wTest, wAnd, wOr, wNot, wAndV, wOrV, wNotV, wIf, wTup, wLst, wLstM, gwName, gwNil, gwCons, gwTup, gwSub, oIx, oInt1, oAbsI, oLen, oGcd, oDivmod, oMax2, oMin2, oIsi, tyOf, clOf, kt_ii, kt_ib, kt_rr, kt_ir, kt_ri, kt_rb, kt_ni, kt_bi, kt_bb, kt_si, kt_ti, kt_li, kt_di, kt_nr, kt_br, kt_sr, kt_tr, kt_lr, kt_dr, oStrI, if_t1, if_f1, Bool.not_true, Bool.not_false, rt, startD, List.map_cons, List.map_nil, List.length_cons, List.length_nil, List.cons_append, List.nil_append, List.getElem?_cons_zero, List.getElem?_cons_succ, List.set_cons_zero, List.set_cons_succ, List.replicate, Nat.reduceAdd, Nat.reduceSub, Nat.zero_add, Nat.sub_self, Nat.add_sub_cancel, kt_tt, wChain, sFor, sForR, forStep, gwLst, listD, wCut, wStar, oListM, oTupl, seqD, oLcm, wCallP3, p3rev, p3mid, wAppend, lk_top, lk_bot, w1, w2, numD_int, numD_ins, w_is_int, w_is_number, wi_Ratio, w_as_ratio, w_top, w_bottom, w1r, w2r, lk_ex, wMeth, w_excess, w_lt, w_le, w_gt, w_raised, w_is_int_within, wLc, wLcE, wLcZ, wLcZ3, wLcT, wLcR, wYes, wipeD, Nat.zero_add, w_common_bottom, w_whole_bases, w_scaled, w_whole_values, w_first_levels, w_next_levels, w_whole_levels, w_ratios_of, w_bottom_at, w_lt, w_le, w_gt, wTruth, sForET, w_is_base, w_check_bases, w_check_row, w_check_place, w_value_at, w_levels_at, iMulS, wCutTo, at0', at1, at2, oPow, w_purse, w_take, w_made, prD, w_ladd, w_lsub, w_lmul, ln0, ln2, ln3, ln5, ln11, sPar3, w_llevels, w_lnext, w_dbases, w_dvalues, w_pair]
        refine ⟨rs, lev rs ws i, e7 _ _ (eS _ _ hr6), e7 _ _ hk, l0.symm, l1, l6, hrs.okp, lev_ok hrs hws hl (by omega), fun S8 k8 e8 h8 => ?_⟩
        exact hn _ _ ⟨(eS.trans e7).trans e8, k8, _, _, h8, rfl⟩
      refine ifG2 ?_ (fin _ S' o9 .refl) fun Q' qt qf => ?_
      · simp only [true_and, and_true, oU2, oUn1, oL1, oS1, oR1, oJust, iAdd, iSub, iMul, iFdiv, iMod, iEq, iNe, iLt, iLe, iGt, iGe, iNeg, iAbs, DL.iStr, wFmt, wJs, wJoined, sNext, sSeq, sDrop, sRet, sRetN, sIf, sAsg, sPar, wOp, wVar, wC, wUn, wCons, wNil, wCB, wCall, wMake, wMakeSw, wCallSw, wProp, wFld, oI, oI0, oU, wTest, wAnd, wOr, wNot, wAndV, wOrV, wNotV, wIf, wTup, wLst, wLstM, gwName, gwNil, gwCons, gwTup, gwSub, oIx, oInt1, oAbsI, oLen, oGcd, oDivmod, oMax2, oMin2, oIsi, tyOf, clOf, kt_ii, kt_ib, kt_rr, kt_ir, kt_ri, kt_rb, kt_ni, kt_bi, kt_bb, kt_si, kt_ti, kt_li, kt_di, kt_nr, kt_br, kt_sr, kt_tr, kt_lr, kt_dr, oStrI, if_t1, if_f1, Bool.not_true, Bool.not_false, rt, startD, List.map_cons, List.map_nil, List.length_cons, List.length_nil, List.cons_append, List.nil_append, List.getElem?_cons_zero, List.getElem?_cons_succ, List.set_cons_zero, List.set_cons_succ, List.replicate, Nat.reduceAdd, Nat.reduceSub, Nat.zero_add, Nat.sub_self, Nat.add_sub_cancel, kt_tt, wChain, sFor, sForR, forStep, gwLst, listD, wCut, wStar, oListM, oTupl, seqD, oLcm, wCallP3, p3rev, p3mid, wAppend, lk_top, lk_bot, w1, w2, numD_int, numD_ins, w_is_int, w_is_number, wi_Ratio, w_as_ratio, w_top, w_bottom, w1r, w2r, lk_ex, wMeth, w_excess, w_lt, w_le, w_gt, w_raised, w_is_int_within, wLc, wLcE, wLcZ, wLcZ3, wLcT, wLcR, wYes, wipeD, Nat.zero_add, w_common_bottom, w_whole_bases, w_scaled, w_whole_values, w_first_levels, w_next_levels, w_whole_levels, w_ratios_of, w_bottom_at, w_lt, w_le, w_gt, wTruth, sForET, w_is_base, w_check_bases, w_check_row, w_check_place, w_value_at, w_levels_at, iMulS, wCutTo, at0', at1, at2, oPow, w_purse, w_take, w_made, prD, w_ladd, w_lsub, w_lmul, ln0, ln2, ln3, ln5, ln11, sPar3, w_llevels, w_lnext, w_dbases, w_dvalues, w_pair]
        refine ⟨72, 42, rs, ws, nxs, nys, hrs, hws, rok.rising, hl, by omega, by omega, fun S7 e7 => ?_⟩
        have hk7 := e7 _ _ hk
        rw [show ((0 : Int) + (i : Int)).toNat = i by omega]
        refine pairs_lc rfl (by omega) (fun j p S nx hp hn => ?_) (fun S8 e8 h8 => ?_)
        · simp only [true_and, and_true, oU2, oUn1, oL1, oS1, oR1, oJust, iAdd, iSub, iMul, iFdiv, iMod, iEq, iNe, iLt, iLe, iGt, iGe, iNeg, iAbs, DL.iStr, wFmt, wJs, wJoined, sNext, sSeq, sDrop, sRet, sRetN, sIf, sAsg, sPar, wOp, wVar, wC, wUn, wCons, wNil, wCB, wCall, wMake, wMakeSw, wCallSw, wProp, wFld, oI, oI0, oU, wTest, wAnd, wOr, wNot, wAndV, wOrV, wNotV, wIf, wTup, wLst, wLstM, gwName, gwNil, gwCons, gwTup, gwSub, oIx, oInt1, oAbsI, oLen, oGcd, oDivmod, oMax2, oMin2, oIsi, tyOf, clOf, kt_ii, kt_ib, kt_rr, kt_ir, kt_ri, kt_rb, kt_ni, kt_bi, kt_bb, kt_si, kt_ti, kt_li, kt_di, kt_nr, kt_br, kt_sr, kt_tr, kt_lr, kt_dr, oStrI, if_t1, if_f1, Bool.not_true, Bool.not_false, rt, startD, List.map_cons, List.map_nil, List.length_cons, List.length_nil, List.cons_append, List.nil_append, List.getElem?_cons_zero, List.getElem?_cons_succ, List.set_cons_zero, List.set_cons_succ, List.replicate, Nat.reduceAdd, Nat.reduceSub, Nat.zero_add, Nat.sub_self, Nat.add_sub_cancel, kt_tt, wChain, sFor, sForR, forStep, gwLst, listD, wCut, wStar, oListM, oTupl, seqD, oLcm, wCallP3, p3rev, p3mid, wAppend, lk_top, lk_bot, w1, w2, numD_int, numD_ins, w_is_int, w_is_number, wi_Ratio, w_as_ratio, w_top, w_bottom, w1r, w2r, lk_ex, wMeth, w_excess, w_lt, w_le, w_gt, w_raised, w_is_int_within, wLc, wLcE, wLcZ, wLcZ3, wLcT, wLcR, wYes, wipeD, Nat.zero_add, w_common_bottom, w_whole_bases, w_scaled, w_whole_values, w_first_levels, w_next_levels, w_whole_levels, w_ratios_of, w_bottom_at, w_lt, w_le, w_gt, wTruth, sForET, w_is_base, w_check_bases, w_check_row, w_check_place, w_value_at, w_levels_at, iMulS, wCutTo, at0', at1, at2, oPow, w_purse, w_take, w_made, prD, w_ladd, w_lsub, w_lmul, ln0, ln2, ln3, ln5, ln11, sPar3, w_llevels, w_lnext, w_dbases, w_dvalues, w_pair, lcStep]
          exact hn
        · refine neM h8 (e8 _ _ hk7) ?_
          simp only [true_and, and_true, oU2, oUn1, oL1, oS1, oR1, oJust, iAdd, iSub, iMul, iFdiv, iMod, iEq, iNe, iLt, iLe, iGt, iGe, iNeg, iAbs, DL.iStr, wFmt, wJs, wJoined, sNext, sSeq, sDrop, sRet, sRetN, sIf, sAsg, sPar, wOp, wVar, wC, wUn, wCons, wNil, wCB, wCall, wMake, wMakeSw, wCallSw, wProp, wFld, oI, oI0, oU, wTest, wAnd, wOr, wNot, wAndV, wOrV, wNotV, wIf, wTup, wLst, wLstM, gwName, gwNil, gwCons, gwTup, gwSub, oIx, oInt1, oAbsI, oLen, oGcd, oDivmod, oMax2, oMin2, oIsi, tyOf, clOf, kt_ii, kt_ib, kt_rr, kt_ir, kt_ri, kt_rb, kt_ni, kt_bi, kt_bb, kt_si, kt_ti, kt_li, kt_di, kt_nr, kt_br, kt_sr, kt_tr, kt_lr, kt_dr, oStrI, if_t1, if_f1, Bool.not_true, Bool.not_false, rt, startD, List.map_cons, List.map_nil, List.length_cons, List.length_nil, List.cons_append, List.nil_append, List.getElem?_cons_zero, List.getElem?_cons_succ, List.set_cons_zero, List.set_cons_succ, List.replicate, Nat.reduceAdd, Nat.reduceSub, Nat.zero_add, Nat.sub_self, Nat.add_sub_cancel, kt_tt, wChain, sFor, sForR, forStep, gwLst, listD, wCut, wStar, oListM, oTupl, seqD, oLcm, wCallP3, p3rev, p3mid, wAppend, lk_top, lk_bot, w1, w2, numD_int, numD_ins, w_is_int, w_is_number, wi_Ratio, w_as_ratio, w_top, w_bottom, w1r, w2r, lk_ex, wMeth, w_excess, w_lt, w_le, w_gt, w_raised, w_is_int_within, wLc, wLcE, wLcZ, wLcZ3, wLcT, wLcR, wYes, wipeD, Nat.zero_add, w_common_bottom, w_whole_bases, w_scaled, w_whole_values, w_first_levels, w_next_levels, w_whole_levels, w_ratios_of, w_bottom_at, w_lt, w_le, w_gt, wTruth, sForET, w_is_base, w_check_bases, w_check_row, w_check_place, w_value_at, w_levels_at, iMulS, wCutTo, at0', at1, at2, oPow, w_purse, w_take, w_made, prD, w_ladd, w_lsub, w_lmul, ln0, ln2, ln3, ln5, ln11, sPar3, w_llevels, w_lnext, w_dbases, w_dvalues, w_pair]
          refine ⟨72, 42, rs, ws, nxs, nys, hrs, hws, rok.rising, hl, by omega, by omega, fun S9 e9 => ?_⟩
          rw [e9 _ _ (e8 _ _ hk7)]
          simp only [true_and, and_true, oU2, oUn1, oL1, oS1, oR1, oJust, iAdd, iSub, iMul, iFdiv, iMod, iEq, iNe, iLt, iLe, iGt, iGe, iNeg, iAbs, DL.iStr, wFmt, wJs, wJoined, sNext, sSeq, sDrop, sRet, sRetN, sIf, sAsg, sPar, wOp, wVar, wC, wUn, wCons, wNil, wCB, wCall, wMake, wMakeSw, wCallSw, wProp, wFld, oI, oI0, oU, wTest, wAnd, wOr, wNot, wAndV, wOrV, wNotV, wIf, wTup, wLst, wLstM, gwName, gwNil, gwCons, gwTup, gwSub, oIx, oInt1, oAbsI, oLen, oGcd, oDivmod, oMax2, oMin2, oIsi, tyOf, clOf, kt_ii, kt_ib, kt_rr, kt_ir, kt_ri, kt_rb, kt_ni, kt_bi, kt_bb, kt_si, kt_ti, kt_li, kt_di, kt_nr, kt_br, kt_sr, kt_tr, kt_lr, kt_dr, oStrI, if_t1, if_f1, Bool.not_true, Bool.not_false, rt, startD, List.map_cons, List.map_nil, List.length_cons, List.length_nil, List.cons_append, List.nil_append, List.getElem?_cons_zero, List.getElem?_cons_succ, List.set_cons_zero, List.set_cons_succ, List.replicate, Nat.reduceAdd, Nat.reduceSub, Nat.zero_add, Nat.sub_self, Nat.add_sub_cancel, kt_tt, wChain, sFor, sForR, forStep, gwLst, listD, wCut, wStar, oListM, oTupl, seqD, oLcm, wCallP3, p3rev, p3mid, wAppend, lk_top, lk_bot, w1, w2, numD_int, numD_ins, w_is_int, w_is_number, wi_Ratio, w_as_ratio, w_top, w_bottom, w1r, w2r, lk_ex, wMeth, w_excess, w_lt, w_le, w_gt, w_raised, w_is_int_within, wLc, wLcE, wLcZ, wLcZ3, wLcT, wLcR, wYes, wipeD, Nat.zero_add, w_common_bottom, w_whole_bases, w_scaled, w_whole_values, w_first_levels, w_next_levels, w_whole_levels, w_ratios_of, w_bottom_at, w_lt, w_le, w_gt, wTruth, sForET, w_is_base, w_check_bases, w_check_row, w_check_place, w_value_at, w_levels_at, iMulS, wCutTo, at0', at1, at2, oPow, w_purse, w_take, w_made, prD, w_ladd, w_lsub, w_lmul, ln0, ln2, ln3, ln5, ln11, sPar3, w_llevels, w_lnext, w_dbases, w_dvalues, w_pair]
          rw [at_map (j := 0) (h0_get hrs i) rfl]
          refine neT ?_
          simp only [true_and, and_true, oU2, oUn1, oL1, oS1, oR1, oJust, iAdd, iSub, iMul, iFdiv, iMod, iEq, iNe, iLt, iLe, iGt, iGe, iNeg, iAbs, DL.iStr, wFmt, wJs, wJoined, sNext, sSeq, sDrop, sRet, sRetN, sIf, sAsg, sPar, wOp, wVar, wC, wUn, wCons, wNil, wCB, wCall, wMake, wMakeSw, wCallSw, wProp, wFld, oI, oI0, oU, wTest, wAnd, wOr, wNot, wAndV, wOrV, wNotV, wIf, wTup, wLst, wLstM, gwName, gwNil, gwCons, gwTup, gwSub, oIx, oInt1, oAbsI, oLen, oGcd, oDivmod, oMax2, oMin2, oIsi, tyOf, clOf, kt_ii, kt_ib, kt_rr, kt_ir, kt_ri, kt_rb, kt_ni, kt_bi, kt_bb, kt_si, kt_ti, kt_li, kt_di, kt_nr, kt_br, kt_sr, kt_tr, kt_lr, kt_dr, oStrI, if_t1, if_f1, Bool.not_true, Bool.not_false, rt, startD, List.map_cons, List.map_nil, List.length_cons, List.length_nil, List.cons_append, List.nil_append, List.getElem?_cons_zero, List.getElem?_cons_succ, List.set_cons_zero, List.set_cons_succ, List.replicate, Nat.reduceAdd, Nat.reduceSub, Nat.zero_add, Nat.sub_self, Nat.add_sub_cancel, kt_tt, wChain, sFor, sForR, forStep, gwLst, listD, wCut, wStar, oListM, oTupl, seqD, oLcm, wCallP3, p3rev, p3mid, wAppend, lk_top, lk_bot, w1, w2, numD_int, numD_ins, w_is_int, w_is_number, wi_Ratio, w_as_ratio, w_top, w_bottom, w1r, w2r, lk_ex, wMeth, w_excess, w_lt, w_le, w_gt, w_raised, w_is_int_within, wLc, wLcE, wLcZ, wLcZ3, wLcT, wLcR, wYes, wipeD, Nat.zero_add, w_common_bottom, w_whole_bases, w_scaled, w_whole_values, w_first_levels, w_next_levels, w_whole_levels, w_ratios_of, w_bottom_at, w_lt, w_le, w_gt, wTruth, sForET, w_is_base, w_check_bases, w_check_row, w_check_place, w_value_at, w_levels_at, iMulS, wCutTo, at0', at1, at2, oPow, w_purse, w_take, w_made, prD, w_ladd, w_lsub, w_lmul, ln0, ln2, ln3, ln5, ln11, sPar3, w_llevels, w_lnext, w_dbases, w_dvalues, w_pair]
          exact fin _ S9 _ ((e7.trans e8).trans e9)
      · simp only [true_and, and_true, oU2, oUn1, oL1, oS1, oR1, oJust, iAdd, iSub, iMul, iFdiv, iMod, iEq, iNe, iLt, iLe, iGt, iGe, iNeg, iAbs, DL.iStr, wFmt, wJs, wJoined, sNext, sSeq, sDrop, sRet, sRetN, sIf, sAsg, sPar, wOp, wVar, wC, wUn, wCons, wNil, wCB, wCall, wMake, wMakeSw, wCallSw, wProp, wFld, oI, oI0, oU, wTest, wAnd, wOr, wNot, wAndV, wOrV, wNotV, wIf, wTup, wLst, wLstM, gwName, gwNil, gwCons, gwTup, gwSub, oIx, oInt1, oAbsI, oLen, oGcd, oDivmod, oMax2, oMin2, oIsi, tyOf, clOf, kt_ii, kt_ib, kt_rr, kt_ir, kt_ri, kt_rb, kt_ni, kt_bi, kt_bb, kt_si, kt_ti, kt_li, kt_di, kt_nr, kt_br, kt_sr, kt_tr, kt_lr, kt_dr, oStrI, if_t1, if_f1, Bool.not_true, Bool.not_false, rt, startD, List.map_cons, List.map_nil, List.length_cons, List.length_nil, List.cons_append, List.nil_append, List.getElem?_cons_zero, List.getElem?_cons_succ, List.set_cons_zero, List.set_cons_succ, List.replicate, Nat.reduceAdd, Nat.reduceSub, Nat.zero_add, Nat.sub_self, Nat.add_sub_cancel, kt_tt, wChain, sFor, sForR, forStep, gwLst, listD, wCut, wStar, oListM, oTupl, seqD, oLcm, wCallP3, p3rev, p3mid, wAppend, lk_top, lk_bot, w1, w2, numD_int, numD_ins, w_is_int, w_is_number, wi_Ratio, w_as_ratio, w_top, w_bottom, w1r, w2r, lk_ex, wMeth, w_excess, w_lt, w_le, w_gt, w_raised, w_is_int_within, wLc, wLcE, wLcZ, wLcZ3, wLcT, wLcR, wYes, wipeD, Nat.zero_add, w_common_bottom, w_whole_bases, w_scaled, w_whole_values, w_first_levels, w_next_levels, w_whole_levels, w_ratios_of, w_bottom_at, w_lt, w_le, w_gt, wTruth, sForET, w_is_base, w_check_bases, w_check_row, w_check_place, w_value_at, w_levels_at, iMulS, wCutTo, at0', at1, at2, oPow, w_purse, w_take, w_made, prD, w_ladd, w_lsub, w_lmul, ln0, ln2, ln3, ln5, ln11, sPar3, w_llevels, w_lnext, w_dbases, w_dvalues, w_pair]
        by_cases z1 : (0 : Int) + (i : Int) < 15
        · exact ifT z1 qt
        · refine ifF z1 ?_
          by_cases z2 : (0 : Int) + (i : Int) = 16 + q - 1
          · rw [decide_eq_true z2]; exact qt
          · rw [decide_eq_false z2]; exact qf
    · rintro ρ S' ⟨eS, k, o8, o9, hk, rfl⟩
      exact rest S' k o8 o9 eS
theorem lcD_cnt {N : Nat} {all : List D} {step : D → MS → (MS → Prop) → Prop} {fin : MS → Prop} (I : Nat → MS → Prop) (hs : ∀ n, n < N → ∀ d ∈ all, ∀ S k, I n S → (∀ S', I (n + 1) S' → k S') → step d S k) (hf : ∀ S, I N S → fin S) :
    ∀ (ds : List D) (n : Nat) (S : MS), (∀ d ∈ ds, d ∈ all) → n + ds.length = N → I n S → lcD ds step fin S
  | [], n, S, _, hn, i => hf S (by simp at hn; subst hn; exact i)
  | d :: ds, n, S, ha, hn, i => hs n (by simp at hn; omega) d (ha d List.mem_cons_self) S _ i fun S' i' => lcD_cnt I hs hf ds (n + 1) S' (fun e he => ha e (List.mem_cons_of_mem _ he)) (by simp at hn; omega) i'
theorem bls_true : ∀ {ds : List D}, (∀ d ∈ ds, d = .bl true) → ∃ bs, bls ds = some bs ∧ bs.all id = true
  | [], _ => ⟨[], rfl, rfl⟩
  | d :: ds, h => by
    obtain ⟨bs, h1, h2⟩ := bls_true (ds := ds) fun e he => h e (List.mem_cons_of_mem _ he)
    rw [h d List.mem_cons_self]
    exact ⟨true :: bs, by show (bls ds).map _ = _; rw [h1]; rfl, by simp [h2]⟩

def w_law : WF := fun ds S Q => match ds with
  | [.scr xs] => AllI xs ∧ ∀ S', Q (.bl true) S'
  | _ => False
theorem sc_law : FnScope ["cells", "at"] ["cells"] (defScope s_law) := ⟨rfl, rfl, rfl, by decide +kernel, rfl, by decide +kernel, by decide +kernel⟩
theorem ok_law (T : Tx K mg) : FnOk P w K mg base CX0 16 T.f_law T.fd_law ["cells"] (spW ⟨K, mg⟩ 1 w_law) := by
  refine fnD (k := 15) T.F_law sc_law (fun cdv A outer s H E hr => ⟨_, (dss_one (ds_ret (d_callB (cr_all rfl) snd_all T.z_all (da_cons (d_lcR (own := [("at", 1)]) rfl sc_law.nd T.z_range (da_cons (d_callB (call_max2 rfl) snd_max2 T.z_max (da_cons d_int (da_cons (d_callB (call_min2 rfl) snd_min2 T.z_min (da_cons (d_callB call_len_seq snd_len T.z_len (da_cons (dv 0) da_nil) (hv := bt_len)) (da_cons d_int da_nil)) (hv := bt_min)) da_nil)) (hv := bt_max)) da_nil) (blkOk_by (own := [("at", 1)]) (N := ["cells", "at"]) (sc := defScope s_law) (by decide +kernel)) (gown_name (by decide)) (fun _ _ _ _ _ => (dg_name (i := 1) sc_law.nd)) (fun _ _ _ _ _ => dts_nil) (fun _ _ _ _ _ => (d_callC (ok__law_right T) (hr.mono (by decide)) T.m__law_right T.F__law_right.kp T.b__law_right (da_cons (d_callC (ok__law_purse T) (hr.mono (by decide)) T.m__law_purse T.F__law_purse.kp T.b__law_purse (da_cons (dv 0) (da_cons (dv 1) da_nil))) da_nil)))) da_nil) (hv := bt_all))))⟩) (fun ds S Q hl h => ?_)
  match ds, h with
  | [.scr xs], ⟨hx, h⟩ =>
    simp only [true_and, and_true, oU2, oUn1, oL1, oS1, oR1, oJust, iAdd, iSub, iMul, iFdiv, iMod, iEq, iNe, iLt, iLe, iGt, iGe, iNeg, iAbs, DL.iStr, wFmt, wJs, wJoined, sNext, sSeq, sDrop, sRet, sRetN, sIf, sAsg, sPar, wOp, wVar, wC, wUn, wCons, wNil, wCB, wCall, wMake, wMakeSw, wCallSw, wProp, wFld, oI, oI0, oU, wTest, wAnd, wOr, wNot, wAndV, wOrV, wNotV, wIf, wTup, wLst, wLstM, gwName, gwNil, gwCons, gwTup, gwSub, oIx, oInt1, oAbsI, oLen, oGcd, oDivmod, oMax2, oMin2, oIsi, tyOf, clOf, kt_ii, kt_ib, kt_rr, kt_ir, kt_ri, kt_rb, kt_ni, kt_bi, kt_bb, kt_si, kt_ti, kt_li, kt_di, kt_nr, kt_br, kt_sr, kt_tr, kt_lr, kt_dr, oStrI, if_t1, if_f1, Bool.not_true, Bool.not_false, rt, startD, List.map_cons, List.map_nil, List.length_cons, List.length_nil, List.cons_append, List.nil_append, List.getElem?_cons_zero, List.getElem?_cons_succ, List.set_cons_zero, List.set_cons_succ, List.replicate, Nat.reduceAdd, Nat.reduceSub, Nat.zero_add, Nat.sub_self, Nat.add_sub_cancel, kt_tt, wChain, sFor, sForR, forStep, gwLst, listD, wCut, wStar, oListM, oTupl, seqD, oLcm, wCallP3, p3rev, p3mid, wAppend, lk_top, lk_bot, w1, w2, numD_int, numD_ins, w_is_int, w_is_number, wi_Ratio, w_as_ratio, w_top, w_bottom, w1r, w2r, lk_ex, wMeth, w_excess, w_lt, w_le, w_gt, w_raised, w_is_int_within, wLc, wLcE, wLcZ, wLcZ3, wLcT, wLcR, wYes, wipeD, Nat.zero_add, w_common_bottom, w_whole_bases, w_scaled, w_whole_values, w_first_levels, w_next_levels, w_whole_levels, w_ratios_of, w_bottom_at, w_lt, w_le, w_gt, wTruth, sForET, w_is_base, w_check_bases, w_check_row, w_check_place, w_value_at, w_levels_at, iMulS, wCutTo, at0', at1, at2, oPow, w_purse, w_take, w_made, prD, w_ladd, w_lsub, w_lmul, ln0, ln2, ln3, ln5, ln11, sPar3, w_llevels, w_lnext, w_dbases, w_dvalues, w_pair, w_right]
    generalize hj : (if (if 4 < (xs.length : Int) then 4 else (xs.length : Int)) > 1 then if 4 < (xs.length : Int) then 4 else (xs.length : Int) else 1) = j
    have jz : 0 ≤ j ∧ j ≤ 4 := by
      subst hj
      split <;> split <;> omega
    refine ⟨⟨by omega, by omega⟩, ?_⟩
    rw [rangeD_map]
    refine lcD_run (fun i : Nat => D.int (0 + i)) (fun n S' => ∃ acc, S'[S.length]? = some acc ∧ acc.length = n ∧ ∀ d ∈ acc, d = .bl true) (List.range j.toNat) 0 ?_ ?_ _ ⟨[], new_at, rfl, fun d hd => by cases hd⟩
    · rintro i x S1 nx hx2 ⟨acc, i1, i2, i3⟩ hk
      have hi := (List.getElem?_eq_some_iff.mp hx2).1
      rw [List.length_range] at hi
      rw [List.getElem?_range hi] at hx2
      cases hx2
      have lt := (List.getElem?_eq_some_iff.mp i1).1
      simp only [Nat.zero_add] at i2 hk
      simp only [true_and, and_true, oU2, oUn1, oL1, oS1, oR1, oJust, iAdd, iSub, iMul, iFdiv, iMod, iEq, iNe, iLt, iLe, iGt, iGe, iNeg, iAbs, DL.iStr, wFmt, wJs, wJoined, sNext, sSeq, sDrop, sRet, sRetN, sIf, sAsg, sPar, wOp, wVar, wC, wUn, wCons, wNil, wCB, wCall, wMake, wMakeSw, wCallSw, wProp, wFld, oI, oI0, oU, wTest, wAnd, wOr, wNot, wAndV, wOrV, wNotV, wIf, wTup, wLst, wLstM, gwName, gwNil, gwCons, gwTup, gwSub, oIx, oInt1, oAbsI, oLen, oGcd, oDivmod, oMax2, oMin2, oIsi, tyOf, clOf, kt_ii, kt_ib, kt_rr, kt_ir, kt_ri, kt_rb, kt_ni, kt_bi, kt_bb, kt_si, kt_ti, kt_li, kt_di, kt_nr, kt_br, kt_sr, kt_tr, kt_lr, kt_dr, oStrI, if_t1, if_f1, Bool.not_true, Bool.not_false, rt, startD, List.map_cons, List.map_nil, List.length_cons, List.length_nil, List.cons_append, List.nil_append, List.getElem?_cons_zero, List.getElem?_cons_succ, List.set_cons_zero, List.set_cons_succ, List.replicate, Nat.reduceAdd, Nat.reduceSub, Nat.zero_add, Nat.sub_self, Nat.add_sub_cancel, kt_tt, wChain, sFor, sForR, forStep, gwLst, listD, wCut, wStar, oListM, oTupl, seqD, oLcm, wCallP3, p3rev, p3mid, wAppend, lk_top, lk_bot, w1, w2, numD_int, numD_ins, w_is_int, w_is_number, wi_Ratio, w_as_ratio, w_top, w_bottom, w1r, w2r, lk_ex, wMeth, w_excess, w_lt, w_le, w_gt, w_raised, w_is_int_within, wLc, wLcE, wLcZ, wLcZ3, wLcT, wLcR, wYes, wipeD, Nat.zero_add, w_common_bottom, w_whole_bases, w_scaled, w_whole_values, w_first_levels, w_next_levels, w_whole_levels, w_ratios_of, w_bottom_at, w_lt, w_le, w_gt, wTruth, sForET, w_is_base, w_check_bases, w_check_row, w_check_place, w_value_at, w_levels_at, iMulS, wCutTo, at0', at1, at2, oPow, w_purse, w_take, w_made, prD, w_ladd, w_lsub, w_lmul, ln0, ln2, ln3, ln5, ln11, sPar3, w_llevels, w_lnext, w_dbases, w_dvalues, w_pair, w_right, lcStep]
      refine ⟨hx, ⟨by omega, by omega⟩, fun d S2 pu e2 => ⟨0, pu, by decide, by decide, fun S3 e3 => ?_⟩⟩
      have hne : S.length ≠ d := by
        intro z
        have q := e2 _ _ i1
        obtain ⟨f, s, h1, _⟩ := pu
        rw [← z, q] at h1
        cases h1
        exact absurd (i3 _ List.mem_cons_self) (by intro z; cases z)
      have a2 : S3[S.length]? = some acc := e3.2 _ _ hne (e2 _ _ i1)
      refine ⟨acc, a2, len_line (by omega), hk _ ⟨acc ++ [.bl true], set_at a2, by simp [i2], fun d hd => ?_⟩⟩
      rcases List.mem_append.mp hd with hd | hd
      · exact i3 d hd
      · exact List.mem_singleton.mp hd
    · rintro S1 ⟨acc, i1, i2, i3⟩
      obtain ⟨bs, b1, b2⟩ := bls_true i3
      refine ⟨acc, bs, i1, b1, ?_⟩
      rw [b2]
      exact h _
end
end K1
set_option Elab.async false
set_option linter.all false
set_option maxRecDepth 100000
set_option maxHeartbeats 0
namespace K1
open PySem PySem.Spec PyProof.Rows L2 DL
theorem if_some {c : Prop} [Decidable c] {a r : Bool} (h : (if c then some a else none) = some r) : c ∧ a = r := by
  by_cases z : c
  · rw [if_pos z] at h
    exact ⟨z, Option.some.inj h⟩
  · rw [if_neg z] at h
    cases h
theorem perm3_len {f : Value → Value → Value → List Value} : ∀ {us ws : List Value}, (perm3V f us ws).length = 3 → ∃ a b c, us = [] ∧ ws = [a, b, c]
  | [], [a, b, c], _ => ⟨a, b, c, rfl, rfl⟩
  | [], [], h => by cases h
  | [], [_], h => by cases h
  | [], [_, _], h => by cases h
  | [], _ :: _ :: _ :: _ :: _, h => by cases h
  | _ :: _, _, h => by cases h
theorem all_mk {l : PySem.W.OpenLaw} {w : World} {K : PySem.W.Frag} {h : Heap} {mg : Str → Option Value} {fa : Addr} (X : K.In h) (G : h.Ns mainGlobals mg) (hfa : mg "law" = some (.ref fa))
    {f_is_int : Addr} {od_is_int an_is_int : Option Addr} {sl_is_int : Array (Option Value)} {oc_is_int kV_is_int dc_is_int pm_is_int cd_is_int ct_is_int : Value}
    {f_is_int_within : Addr} {od_is_int_within an_is_int_within : Option Addr} {sl_is_int_within : Array (Option Value)} {oc_is_int_within kV_is_int_within dc_is_int_within pm_is_int_within cd_is_int_within ct_is_int_within : Value}
    {f_is_number : Addr} {od_is_number an_is_number : Option Addr} {sl_is_number : Array (Option Value)} {oc_is_number kV_is_number dc_is_number pm_is_number cd_is_number ct_is_number : Value}
    {f_as_ratio : Addr} {od_as_ratio an_as_ratio : Option Addr} {sl_as_ratio : Array (Option Value)} {oc_as_ratio kV_as_ratio dc_as_ratio pm_as_ratio cd_as_ratio ct_as_ratio : Value}
    {f_raised : Addr} {od_raised an_raised : Option Addr} {sl_raised : Array (Option Value)} {oc_raised kV_raised dc_raised pm_raised cd_raised ct_raised : Value}
    {f_common_bottom : Addr} {od_common_bottom an_common_bottom : Option Addr} {sl_common_bottom : Array (Option Value)} {oc_common_bottom kV_common_bottom dc_common_bottom pm_common_bottom cd_common_bottom ct_common_bottom : Value}
    {f_is_base : Addr} {od_is_base an_is_base : Option Addr} {sl_is_base : Array (Option Value)} {oc_is_base kV_is_base dc_is_base pm_is_base cd_is_base ct_is_base : Value}
    {f_check_bases : Addr} {od_check_bases an_check_bases : Option Addr} {sl_check_bases : Array (Option Value)} {oc_check_bases kV_check_bases dc_check_bases pm_check_bases cd_check_bases ct_check_bases : Value}
    {f_check_row : Addr} {od_check_row an_check_row : Option Addr} {sl_check_row : Array (Option Value)} {oc_check_row kV_check_row dc_check_row pm_check_row cd_check_row ct_check_row : Value}
    {f_check_place : Addr} {od_check_place an_check_place : Option Addr} {sl_check_place : Array (Option Value)} {oc_check_place kV_check_place dc_check_place pm_check_place cd_check_place ct_check_place : Value}
    {f_whole_bases : Addr} {od_whole_bases an_whole_bases : Option Addr} {sl_whole_bases : Array (Option Value)} {oc_whole_bases kV_whole_bases dc_whole_bases pm_whole_bases cd_whole_bases ct_whole_bases : Value}
    {f_scaled : Addr} {od_scaled an_scaled : Option Addr} {sl_scaled : Array (Option Value)} {oc_scaled kV_scaled dc_scaled pm_scaled cd_scaled ct_scaled : Value}
    {f_whole_values : Addr} {od_whole_values an_whole_values : Option Addr} {sl_whole_values : Array (Option Value)} {oc_whole_values kV_whole_values dc_whole_values pm_whole_values cd_whole_values ct_whole_values : Value}
    {f_first_levels : Addr} {od_first_levels an_first_levels : Option Addr} {sl_first_levels : Array (Option Value)} {oc_first_levels kV_first_levels dc_first_levels pm_first_levels cd_first_levels ct_first_levels : Value}
    {f_next_levels : Addr} {od_next_levels an_next_levels : Option Addr} {sl_next_levels : Array (Option Value)} {oc_next_levels kV_next_levels dc_next_levels pm_next_levels cd_next_levels ct_next_levels : Value}
    {f_whole_levels : Addr} {od_whole_levels an_whole_levels : Option Addr} {sl_whole_levels : Array (Option Value)} {oc_whole_levels kV_whole_levels dc_whole_levels pm_whole_levels cd_whole_levels ct_whole_levels : Value}
    {f_ratios_of : Addr} {od_ratios_of an_ratios_of : Option Addr} {sl_ratios_of : Array (Option Value)} {oc_ratios_of kV_ratios_of dc_ratios_of pm_ratios_of cd_ratios_of ct_ratios_of : Value}
    {f_bottom_at : Addr} {od_bottom_at an_bottom_at : Option Addr} {sl_bottom_at : Array (Option Value)} {oc_bottom_at kV_bottom_at dc_bottom_at pm_bottom_at cd_bottom_at ct_bottom_at : Value}
    {f_value_at : Addr} {od_value_at an_value_at : Option Addr} {sl_value_at : Array (Option Value)} {oc_value_at kV_value_at dc_value_at pm_value_at cd_value_at ct_value_at : Value}
    {f_levels_at : Addr} {od_levels_at an_levels_at : Option Addr} {sl_levels_at : Array (Option Value)} {oc_levels_at kV_levels_at dc_levels_at pm_levels_at cd_levels_at ct_levels_at : Value}
    {f__law_purse : Addr} {od__law_purse an__law_purse : Option Addr} {sl__law_purse : Array (Option Value)} {oc__law_purse kV__law_purse dc__law_purse pm__law_purse cd__law_purse ct__law_purse : Value}
    {f__law_take : Addr} {od__law_take an__law_take : Option Addr} {sl__law_take : Array (Option Value)} {oc__law_take kV__law_take dc__law_take pm__law_take cd__law_take ct__law_take : Value}
    {f__law_made : Addr} {od__law_made an__law_made : Option Addr} {sl__law_made : Array (Option Value)} {oc__law_made kV__law_made dc__law_made pm__law_made cd__law_made ct__law_made : Value}
    {f__law_add : Addr} {od__law_add an__law_add : Option Addr} {sl__law_add : Array (Option Value)} {oc__law_add kV__law_add dc__law_add pm__law_add cd__law_add ct__law_add : Value}
    {f__law_sub : Addr} {od__law_sub an__law_sub : Option Addr} {sl__law_sub : Array (Option Value)} {oc__law_sub kV__law_sub dc__law_sub pm__law_sub cd__law_sub ct__law_sub : Value}
    {f__law_mul : Addr} {od__law_mul an__law_mul : Option Addr} {sl__law_mul : Array (Option Value)} {oc__law_mul kV__law_mul dc__law_mul pm__law_mul cd__law_mul ct__law_mul : Value}
    {f__law_number : Addr} {od__law_number an__law_number : Option Addr} {sl__law_number : Array (Option Value)} {oc__law_number kV__law_number dc__law_number pm__law_number cd__law_number ct__law_number : Value}
    {f__law_pair : Addr} {od__law_pair an__law_pair : Option Addr} {sl__law_pair : Array (Option Value)} {oc__law_pair kV__law_pair dc__law_pair pm__law_pair cd__law_pair ct__law_pair : Value}
    {f__law_levels : Addr} {od__law_levels an__law_levels : Option Addr} {sl__law_levels : Array (Option Value)} {oc__law_levels kV__law_levels dc__law_levels pm__law_levels cd__law_levels ct__law_levels : Value}
    {f__law_next : Addr} {od__law_next an__law_next : Option Addr} {sl__law_next : Array (Option Value)} {oc__law_next kV__law_next dc__law_next pm__law_next cd__law_next ct__law_next : Value}
    {f__law_drawn_bases : Addr} {od__law_drawn_bases an__law_drawn_bases : Option Addr} {sl__law_drawn_bases : Array (Option Value)} {oc__law_drawn_bases kV__law_drawn_bases dc__law_drawn_bases pm__law_drawn_bases cd__law_drawn_bases ct__law_drawn_bases : Value}
    {f__law_drawn_values : Addr} {od__law_drawn_values an__law_drawn_values : Option Addr} {sl__law_drawn_values : Array (Option Value)} {oc__law_drawn_values kV__law_drawn_values dc__law_drawn_values pm__law_drawn_values cd__law_drawn_values ct__law_drawn_values : Value}
    {f__law_right : Addr} {od__law_right an__law_right : Option Addr} {sl__law_right : Array (Option Value)} {oc__law_right kV__law_right dc__law_right pm__law_right cd__law_right ct__law_right : Value}
    {f_law : Addr} {od_law an_law : Option Addr} {sl_law : Array (Option Value)} {oc_law kV_law dc_law pm_law cd_law ct_law : Value}
    {f_R_top : Addr} {od_R_top an_R_top : Option Addr} {sl_R_top : Array (Option Value)} {oc_R_top kV_R_top dc_R_top pm_R_top cd_R_top ct_R_top : Value}
    {f_R_bottom : Addr} {od_R_bottom an_R_bottom : Option Addr} {sl_R_bottom : Array (Option Value)} {oc_R_bottom kV_R_bottom dc_R_bottom pm_R_bottom cd_R_bottom ct_R_bottom : Value}
    {f_R_excess : Addr} {od_R_excess an_R_excess : Option Addr} {sl_R_excess : Array (Option Value)} {oc_R_excess kV_R_excess dc_R_excess pm_R_excess cd_R_excess ct_R_excess : Value}
    {f_R_lt : Addr} {od_R_lt an_R_lt : Option Addr} {sl_R_lt : Array (Option Value)} {oc_R_lt kV_R_lt dc_R_lt pm_R_lt cd_R_lt ct_R_lt : Value}
    {f_R_le : Addr} {od_R_le an_R_le : Option Addr} {sl_R_le : Array (Option Value)} {oc_R_le kV_R_le dc_R_le pm_R_le cd_R_le ct_R_le : Value}
    {f_R_gt : Addr} {od_R_gt an_R_gt : Option Addr} {sl_R_gt : Array (Option Value)} {oc_R_gt kV_R_gt dc_R_gt pm_R_gt cd_R_gt ct_R_gt : Value}
    {f_R_init : Addr} {od_R_init an_R_init : Option Addr} {sl_R_init : Array (Option Value)} {oc_R_init kV_R_init dc_R_init pm_R_init cd_R_init ct_R_init : Value}
    {C T_i : Addr} {od_T : Option Addr} {sl_T : Array (Option Value)} {oc_T : Value} {n_T : Nat} {tk_T : Tok}
    {p_top : Addr} {rest_top : List Value}
    {p_bottom : Addr} {rest_bottom : List Value}
    {tk_ROUNDS : Tok}
    {tk_BASES : Tok}
    {tk_MOST_BASE : Tok}
    (aC : PySem.W.nsIn K mainGlobals "Ratio" = some (some (.ref C)))
    (a_is_int : PySem.W.nsIn K mainGlobals "is_int" = some (some (.ref f_is_int)))
    (l_is_int : K.lookup f_is_int = some ⟨oc_is_int, od_is_int, .func (PySem.W.fnOf "is_int" "is_int" (defArgs s_is_int) (defBody s_is_int) (defScope s_is_int) .none kV_is_int dc_is_int pm_is_int an_is_int cd_is_int ct_is_int), sl_is_int⟩)
    (c_is_int : PySem.W.codeIn K cd_is_int "is_int" = true)
    (k_is_int : PySem.W.keepIn K (.ref f_is_int) = true)
    (a_is_int_within : PySem.W.nsIn K mainGlobals "is_int_within" = some (some (.ref f_is_int_within)))
    (l_is_int_within : K.lookup f_is_int_within = some ⟨oc_is_int_within, od_is_int_within, .func (PySem.W.fnOf "is_int_within" "is_int_within" (defArgs s_is_int_within) (defBody s_is_int_within) (defScope s_is_int_within) .none kV_is_int_within dc_is_int_within pm_is_int_within an_is_int_within cd_is_int_within ct_is_int_within), sl_is_int_within⟩)
    (c_is_int_within : PySem.W.codeIn K cd_is_int_within "is_int_within" = true)
    (k_is_int_within : PySem.W.keepIn K (.ref f_is_int_within) = true)
    (a_is_number : PySem.W.nsIn K mainGlobals "is_number" = some (some (.ref f_is_number)))
    (l_is_number : K.lookup f_is_number = some ⟨oc_is_number, od_is_number, .func (PySem.W.fnOf "is_number" "is_number" (defArgs s_is_number) (defBody s_is_number) (defScope s_is_number) .none kV_is_number dc_is_number pm_is_number an_is_number cd_is_number ct_is_number), sl_is_number⟩)
    (c_is_number : PySem.W.codeIn K cd_is_number "is_number" = true)
    (k_is_number : PySem.W.keepIn K (.ref f_is_number) = true)
    (a_as_ratio : PySem.W.nsIn K mainGlobals "as_ratio" = some (some (.ref f_as_ratio)))
    (l_as_ratio : K.lookup f_as_ratio = some ⟨oc_as_ratio, od_as_ratio, .func (PySem.W.fnOf "as_ratio" "as_ratio" (defArgs s_as_ratio) (defBody s_as_ratio) (defScope s_as_ratio) .none kV_as_ratio dc_as_ratio pm_as_ratio an_as_ratio cd_as_ratio ct_as_ratio), sl_as_ratio⟩)
    (c_as_ratio : PySem.W.codeIn K cd_as_ratio "as_ratio" = true)
    (k_as_ratio : PySem.W.keepIn K (.ref f_as_ratio) = true)
    (a_raised : PySem.W.nsIn K mainGlobals "raised" = some (some (.ref f_raised)))
    (l_raised : K.lookup f_raised = some ⟨oc_raised, od_raised, .func (PySem.W.fnOf "raised" "raised" (defArgs s_raised) (defBody s_raised) (defScope s_raised) .none kV_raised dc_raised pm_raised an_raised cd_raised ct_raised), sl_raised⟩)
    (c_raised : PySem.W.codeIn K cd_raised "raised" = true)
    (k_raised : PySem.W.keepIn K (.ref f_raised) = true)
    (a_common_bottom : PySem.W.nsIn K mainGlobals "common_bottom" = some (some (.ref f_common_bottom)))
    (l_common_bottom : K.lookup f_common_bottom = some ⟨oc_common_bottom, od_common_bottom, .func (PySem.W.fnOf "common_bottom" "common_bottom" (defArgs s_common_bottom) (defBody s_common_bottom) (defScope s_common_bottom) .none kV_common_bottom dc_common_bottom pm_common_bottom an_common_bottom cd_common_bottom ct_common_bottom), sl_common_bottom⟩)
    (c_common_bottom : PySem.W.codeIn K cd_common_bottom "common_bottom" = true)
    (k_common_bottom : PySem.W.keepIn K (.ref f_common_bottom) = true)
    (a_is_base : PySem.W.nsIn K mainGlobals "is_base" = some (some (.ref f_is_base)))
    (l_is_base : K.lookup f_is_base = some ⟨oc_is_base, od_is_base, .func (PySem.W.fnOf "is_base" "is_base" (defArgs s_is_base) (defBody s_is_base) (defScope s_is_base) .none kV_is_base dc_is_base pm_is_base an_is_base cd_is_base ct_is_base), sl_is_base⟩)
    (c_is_base : PySem.W.codeIn K cd_is_base "is_base" = true)
    (k_is_base : PySem.W.keepIn K (.ref f_is_base) = true)
    (a_check_bases : PySem.W.nsIn K mainGlobals "check_bases" = some (some (.ref f_check_bases)))
    (l_check_bases : K.lookup f_check_bases = some ⟨oc_check_bases, od_check_bases, .func (PySem.W.fnOf "check_bases" "check_bases" (defArgs s_check_bases) (defBody s_check_bases) (defScope s_check_bases) .none kV_check_bases dc_check_bases pm_check_bases an_check_bases cd_check_bases ct_check_bases), sl_check_bases⟩)
    (c_check_bases : PySem.W.codeIn K cd_check_bases "check_bases" = true)
    (k_check_bases : PySem.W.keepIn K (.ref f_check_bases) = true)
    (a_check_row : PySem.W.nsIn K mainGlobals "check_row" = some (some (.ref f_check_row)))
    (l_check_row : K.lookup f_check_row = some ⟨oc_check_row, od_check_row, .func (PySem.W.fnOf "check_row" "check_row" (defArgs s_check_row) (defBody s_check_row) (defScope s_check_row) .none kV_check_row dc_check_row pm_check_row an_check_row cd_check_row ct_check_row), sl_check_row⟩)
    (c_check_row : PySem.W.codeIn K cd_check_row "check_row" = true)
    (k_check_row : PySem.W.keepIn K (.ref f_check_row) = true)
    (a_check_place : PySem.W.nsIn K mainGlobals "check_place" = some (some (.ref f_check_place)))
    (l_check_place : K.lookup f_check_place = some ⟨oc_check_place, od_check_place, .func (PySem.W.fnOf "check_place" "check_place" (defArgs s_check_place) (defBody s_check_place) (defScope s_check_place) .none kV_check_place dc_check_place pm_check_place an_check_place cd_check_place ct_check_place), sl_check_place⟩)
    (c_check_place : PySem.W.codeIn K cd_check_place "check_place" = true)
    (k_check_place : PySem.W.keepIn K (.ref f_check_place) = true)
    (a_whole_bases : PySem.W.nsIn K mainGlobals "whole_bases" = some (some (.ref f_whole_bases)))
    (l_whole_bases : K.lookup f_whole_bases = some ⟨oc_whole_bases, od_whole_bases, .func (PySem.W.fnOf "whole_bases" "whole_bases" (defArgs s_whole_bases) (defBody s_whole_bases) (defScope s_whole_bases) .none kV_whole_bases dc_whole_bases pm_whole_bases an_whole_bases cd_whole_bases ct_whole_bases), sl_whole_bases⟩)
    (c_whole_bases : PySem.W.codeIn K cd_whole_bases "whole_bases" = true)
    (k_whole_bases : PySem.W.keepIn K (.ref f_whole_bases) = true)
    (a_scaled : PySem.W.nsIn K mainGlobals "scaled" = some (some (.ref f_scaled)))
    (l_scaled : K.lookup f_scaled = some ⟨oc_scaled, od_scaled, .func (PySem.W.fnOf "scaled" "scaled" (defArgs s_scaled) (defBody s_scaled) (defScope s_scaled) .none kV_scaled dc_scaled pm_scaled an_scaled cd_scaled ct_scaled), sl_scaled⟩)
    (c_scaled : PySem.W.codeIn K cd_scaled "scaled" = true)
    (k_scaled : PySem.W.keepIn K (.ref f_scaled) = true)
    (a_whole_values : PySem.W.nsIn K mainGlobals "whole_values" = some (some (.ref f_whole_values)))
    (l_whole_values : K.lookup f_whole_values = some ⟨oc_whole_values, od_whole_values, .func (PySem.W.fnOf "whole_values" "whole_values" (defArgs s_whole_values) (defBody s_whole_values) (defScope s_whole_values) .none kV_whole_values dc_whole_values pm_whole_values an_whole_values cd_whole_values ct_whole_values), sl_whole_values⟩)
    (c_whole_values : PySem.W.codeIn K cd_whole_values "whole_values" = true)
    (k_whole_values : PySem.W.keepIn K (.ref f_whole_values) = true)
    (a_first_levels : PySem.W.nsIn K mainGlobals "first_levels" = some (some (.ref f_first_levels)))
    (l_first_levels : K.lookup f_first_levels = some ⟨oc_first_levels, od_first_levels, .func (PySem.W.fnOf "first_levels" "first_levels" (defArgs s_first_levels) (defBody s_first_levels) (defScope s_first_levels) .none kV_first_levels dc_first_levels pm_first_levels an_first_levels cd_first_levels ct_first_levels), sl_first_levels⟩)
    (c_first_levels : PySem.W.codeIn K cd_first_levels "first_levels" = true)
    (k_first_levels : PySem.W.keepIn K (.ref f_first_levels) = true)
    (a_next_levels : PySem.W.nsIn K mainGlobals "next_levels" = some (some (.ref f_next_levels)))
    (l_next_levels : K.lookup f_next_levels = some ⟨oc_next_levels, od_next_levels, .func (PySem.W.fnOf "next_levels" "next_levels" (defArgs s_next_levels) (defBody s_next_levels) (defScope s_next_levels) .none kV_next_levels dc_next_levels pm_next_levels an_next_levels cd_next_levels ct_next_levels), sl_next_levels⟩)
    (c_next_levels : PySem.W.codeIn K cd_next_levels "next_levels" = true)
    (k_next_levels : PySem.W.keepIn K (.ref f_next_levels) = true)
    (a_whole_levels : PySem.W.nsIn K mainGlobals "whole_levels" = some (some (.ref f_whole_levels)))
    (l_whole_levels : K.lookup f_whole_levels = some ⟨oc_whole_levels, od_whole_levels, .func (PySem.W.fnOf "whole_levels" "whole_levels" (defArgs s_whole_levels) (defBody s_whole_levels) (defScope s_whole_levels) .none kV_whole_levels dc_whole_levels pm_whole_levels an_whole_levels cd_whole_levels ct_whole_levels), sl_whole_levels⟩)
    (c_whole_levels : PySem.W.codeIn K cd_whole_levels "whole_levels" = true)
    (k_whole_levels : PySem.W.keepIn K (.ref f_whole_levels) = true)
    (a_ratios_of : PySem.W.nsIn K mainGlobals "ratios_of" = some (some (.ref f_ratios_of)))
    (l_ratios_of : K.lookup f_ratios_of = some ⟨oc_ratios_of, od_ratios_of, .func (PySem.W.fnOf "ratios_of" "ratios_of" (defArgs s_ratios_of) (defBody s_ratios_of) (defScope s_ratios_of) .none kV_ratios_of dc_ratios_of pm_ratios_of an_ratios_of cd_ratios_of ct_ratios_of), sl_ratios_of⟩)
    (c_ratios_of : PySem.W.codeIn K cd_ratios_of "ratios_of" = true)
    (k_ratios_of : PySem.W.keepIn K (.ref f_ratios_of) = true)
    (a_bottom_at : PySem.W.nsIn K mainGlobals "bottom_at" = some (some (.ref f_bottom_at)))
    (l_bottom_at : K.lookup f_bottom_at = some ⟨oc_bottom_at, od_bottom_at, .func (PySem.W.fnOf "bottom_at" "bottom_at" (defArgs s_bottom_at) (defBody s_bottom_at) (defScope s_bottom_at) .none kV_bottom_at dc_bottom_at pm_bottom_at an_bottom_at cd_bottom_at ct_bottom_at), sl_bottom_at⟩)
    (c_bottom_at : PySem.W.codeIn K cd_bottom_at "bottom_at" = true)
    (k_bottom_at : PySem.W.keepIn K (.ref f_bottom_at) = true)
    (a_value_at : PySem.W.nsIn K mainGlobals "value_at" = some (some (.ref f_value_at)))
    (l_value_at : K.lookup f_value_at = some ⟨oc_value_at, od_value_at, .func (PySem.W.fnOf "value_at" "value_at" (defArgs s_value_at) (defBody s_value_at) (defScope s_value_at) .none kV_value_at dc_value_at pm_value_at an_value_at cd_value_at ct_value_at), sl_value_at⟩)
    (c_value_at : PySem.W.codeIn K cd_value_at "value_at" = true)
    (k_value_at : PySem.W.keepIn K (.ref f_value_at) = true)
    (a_levels_at : PySem.W.nsIn K mainGlobals "levels_at" = some (some (.ref f_levels_at)))
    (l_levels_at : K.lookup f_levels_at = some ⟨oc_levels_at, od_levels_at, .func (PySem.W.fnOf "levels_at" "levels_at" (defArgs s_levels_at) (defBody s_levels_at) (defScope s_levels_at) .none kV_levels_at dc_levels_at pm_levels_at an_levels_at cd_levels_at ct_levels_at), sl_levels_at⟩)
    (c_levels_at : PySem.W.codeIn K cd_levels_at "levels_at" = true)
    (k_levels_at : PySem.W.keepIn K (.ref f_levels_at) = true)
    (a__law_purse : PySem.W.nsIn K mainGlobals "_law_purse" = some (some (.ref f__law_purse)))
    (l__law_purse : K.lookup f__law_purse = some ⟨oc__law_purse, od__law_purse, .func (PySem.W.fnOf "_law_purse" "_law_purse" (defArgs s__law_purse) (defBody s__law_purse) (defScope s__law_purse) .none kV__law_purse dc__law_purse pm__law_purse an__law_purse cd__law_purse ct__law_purse), sl__law_purse⟩)
    (c__law_purse : PySem.W.codeIn K cd__law_purse "_law_purse" = true)
    (k__law_purse : PySem.W.keepIn K (.ref f__law_purse) = true)
    (a__law_take : PySem.W.nsIn K mainGlobals "_law_take" = some (some (.ref f__law_take)))
    (l__law_take : K.lookup f__law_take = some ⟨oc__law_take, od__law_take, .func (PySem.W.fnOf "_law_take" "_law_take" (defArgs s__law_take) (defBody s__law_take) (defScope s__law_take) .none kV__law_take dc__law_take pm__law_take an__law_take cd__law_take ct__law_take), sl__law_take⟩)
    (c__law_take : PySem.W.codeIn K cd__law_take "_law_take" = true)
    (k__law_take : PySem.W.keepIn K (.ref f__law_take) = true)
    (a__law_made : PySem.W.nsIn K mainGlobals "_law_made" = some (some (.ref f__law_made)))
    (l__law_made : K.lookup f__law_made = some ⟨oc__law_made, od__law_made, .func (PySem.W.fnOf "_law_made" "_law_made" (defArgs s__law_made) (defBody s__law_made) (defScope s__law_made) .none kV__law_made dc__law_made pm__law_made an__law_made cd__law_made ct__law_made), sl__law_made⟩)
    (c__law_made : PySem.W.codeIn K cd__law_made "_law_made" = true)
    (k__law_made : PySem.W.keepIn K (.ref f__law_made) = true)
    (a__law_add : PySem.W.nsIn K mainGlobals "_law_add" = some (some (.ref f__law_add)))
    (l__law_add : K.lookup f__law_add = some ⟨oc__law_add, od__law_add, .func (PySem.W.fnOf "_law_add" "_law_add" (defArgs s__law_add) (defBody s__law_add) (defScope s__law_add) .none kV__law_add dc__law_add pm__law_add an__law_add cd__law_add ct__law_add), sl__law_add⟩)
    (c__law_add : PySem.W.codeIn K cd__law_add "_law_add" = true)
    (k__law_add : PySem.W.keepIn K (.ref f__law_add) = true)
    (a__law_sub : PySem.W.nsIn K mainGlobals "_law_sub" = some (some (.ref f__law_sub)))
    (l__law_sub : K.lookup f__law_sub = some ⟨oc__law_sub, od__law_sub, .func (PySem.W.fnOf "_law_sub" "_law_sub" (defArgs s__law_sub) (defBody s__law_sub) (defScope s__law_sub) .none kV__law_sub dc__law_sub pm__law_sub an__law_sub cd__law_sub ct__law_sub), sl__law_sub⟩)
    (c__law_sub : PySem.W.codeIn K cd__law_sub "_law_sub" = true)
    (k__law_sub : PySem.W.keepIn K (.ref f__law_sub) = true)
    (a__law_mul : PySem.W.nsIn K mainGlobals "_law_mul" = some (some (.ref f__law_mul)))
    (l__law_mul : K.lookup f__law_mul = some ⟨oc__law_mul, od__law_mul, .func (PySem.W.fnOf "_law_mul" "_law_mul" (defArgs s__law_mul) (defBody s__law_mul) (defScope s__law_mul) .none kV__law_mul dc__law_mul pm__law_mul an__law_mul cd__law_mul ct__law_mul), sl__law_mul⟩)
    (c__law_mul : PySem.W.codeIn K cd__law_mul "_law_mul" = true)
    (k__law_mul : PySem.W.keepIn K (.ref f__law_mul) = true)
    (a__law_number : PySem.W.nsIn K mainGlobals "_law_number" = some (some (.ref f__law_number)))
    (l__law_number : K.lookup f__law_number = some ⟨oc__law_number, od__law_number, .func (PySem.W.fnOf "_law_number" "_law_number" (defArgs s__law_number) (defBody s__law_number) (defScope s__law_number) .none kV__law_number dc__law_number pm__law_number an__law_number cd__law_number ct__law_number), sl__law_number⟩)
    (c__law_number : PySem.W.codeIn K cd__law_number "_law_number" = true)
    (k__law_number : PySem.W.keepIn K (.ref f__law_number) = true)
    (a__law_pair : PySem.W.nsIn K mainGlobals "_law_pair" = some (some (.ref f__law_pair)))
    (l__law_pair : K.lookup f__law_pair = some ⟨oc__law_pair, od__law_pair, .func (PySem.W.fnOf "_law_pair" "_law_pair" (defArgs s__law_pair) (defBody s__law_pair) (defScope s__law_pair) .none kV__law_pair dc__law_pair pm__law_pair an__law_pair cd__law_pair ct__law_pair), sl__law_pair⟩)
    (c__law_pair : PySem.W.codeIn K cd__law_pair "_law_pair" = true)
    (k__law_pair : PySem.W.keepIn K (.ref f__law_pair) = true)
    (a__law_levels : PySem.W.nsIn K mainGlobals "_law_levels" = some (some (.ref f__law_levels)))
    (l__law_levels : K.lookup f__law_levels = some ⟨oc__law_levels, od__law_levels, .func (PySem.W.fnOf "_law_levels" "_law_levels" (defArgs s__law_levels) (defBody s__law_levels) (defScope s__law_levels) .none kV__law_levels dc__law_levels pm__law_levels an__law_levels cd__law_levels ct__law_levels), sl__law_levels⟩)
    (c__law_levels : PySem.W.codeIn K cd__law_levels "_law_levels" = true)
    (k__law_levels : PySem.W.keepIn K (.ref f__law_levels) = true)
    (a__law_next : PySem.W.nsIn K mainGlobals "_law_next" = some (some (.ref f__law_next)))
    (l__law_next : K.lookup f__law_next = some ⟨oc__law_next, od__law_next, .func (PySem.W.fnOf "_law_next" "_law_next" (defArgs s__law_next) (defBody s__law_next) (defScope s__law_next) .none kV__law_next dc__law_next pm__law_next an__law_next cd__law_next ct__law_next), sl__law_next⟩)
    (c__law_next : PySem.W.codeIn K cd__law_next "_law_next" = true)
    (k__law_next : PySem.W.keepIn K (.ref f__law_next) = true)
    (a__law_drawn_bases : PySem.W.nsIn K mainGlobals "_law_drawn_bases" = some (some (.ref f__law_drawn_bases)))
    (l__law_drawn_bases : K.lookup f__law_drawn_bases = some ⟨oc__law_drawn_bases, od__law_drawn_bases, .func (PySem.W.fnOf "_law_drawn_bases" "_law_drawn_bases" (defArgs s__law_drawn_bases) (defBody s__law_drawn_bases) (defScope s__law_drawn_bases) .none kV__law_drawn_bases dc__law_drawn_bases pm__law_drawn_bases an__law_drawn_bases cd__law_drawn_bases ct__law_drawn_bases), sl__law_drawn_bases⟩)
    (c__law_drawn_bases : PySem.W.codeIn K cd__law_drawn_bases "_law_drawn_bases" = true)
    (k__law_drawn_bases : PySem.W.keepIn K (.ref f__law_drawn_bases) = true)
    (a__law_drawn_values : PySem.W.nsIn K mainGlobals "_law_drawn_values" = some (some (.ref f__law_drawn_values)))
    (l__law_drawn_values : K.lookup f__law_drawn_values = some ⟨oc__law_drawn_values, od__law_drawn_values, .func (PySem.W.fnOf "_law_drawn_values" "_law_drawn_values" (defArgs s__law_drawn_values) (defBody s__law_drawn_values) (defScope s__law_drawn_values) .none kV__law_drawn_values dc__law_drawn_values pm__law_drawn_values an__law_drawn_values cd__law_drawn_values ct__law_drawn_values), sl__law_drawn_values⟩)
    (c__law_drawn_values : PySem.W.codeIn K cd__law_drawn_values "_law_drawn_values" = true)
    (k__law_drawn_values : PySem.W.keepIn K (.ref f__law_drawn_values) = true)
    (a__law_right : PySem.W.nsIn K mainGlobals "_law_right" = some (some (.ref f__law_right)))
    (l__law_right : K.lookup f__law_right = some ⟨oc__law_right, od__law_right, .func (PySem.W.fnOf "_law_right" "_law_right" (defArgs s__law_right) (defBody s__law_right) (defScope s__law_right) .none kV__law_right dc__law_right pm__law_right an__law_right cd__law_right ct__law_right), sl__law_right⟩)
    (c__law_right : PySem.W.codeIn K cd__law_right "_law_right" = true)
    (k__law_right : PySem.W.keepIn K (.ref f__law_right) = true)
    (a_law : PySem.W.nsIn K mainGlobals "law" = some (some (.ref f_law)))
    (l_law : K.lookup f_law = some ⟨oc_law, od_law, .func (PySem.W.fnOf "law" "law" (defArgs s_law) (defBody s_law) (defScope s_law) .none kV_law dc_law pm_law an_law cd_law ct_law), sl_law⟩)
    (c_law : PySem.W.codeIn K cd_law "law" = true)
    (k_law : PySem.W.keepIn K (.ref f_law) = true)
    (a_R_top : PySem.W.findIn K (.ref C) "top" = some (some (.ref p_top)))
    (g_R_top : PySem.W.specialIn K (.ref p_top) "__get__" = some (some (.builtin "property.__get__")))
    (t_R_top : PySem.W.takesIn K (.ref p_top) = some true)
    (r_R_top : PySem.W.recIn K p_top "property" = some (.ref f_R_top :: rest_top))
    (l_R_top : K.lookup f_R_top = some ⟨oc_R_top, od_R_top, .func (PySem.W.fnOf "top" "Ratio.top" (defArgs s_R_top) (defBody s_R_top) (defScope s_R_top) .none kV_R_top dc_R_top pm_R_top an_R_top cd_R_top ct_R_top), sl_R_top⟩)
    (c_R_top : PySem.W.codeIn K cd_R_top "Ratio.top" = true)
    (k_R_top : PySem.W.keepIn K (.ref f_R_top) = true)
    (a_R_bottom : PySem.W.findIn K (.ref C) "bottom" = some (some (.ref p_bottom)))
    (g_R_bottom : PySem.W.specialIn K (.ref p_bottom) "__get__" = some (some (.builtin "property.__get__")))
    (t_R_bottom : PySem.W.takesIn K (.ref p_bottom) = some true)
    (r_R_bottom : PySem.W.recIn K p_bottom "property" = some (.ref f_R_bottom :: rest_bottom))
    (l_R_bottom : K.lookup f_R_bottom = some ⟨oc_R_bottom, od_R_bottom, .func (PySem.W.fnOf "bottom" "Ratio.bottom" (defArgs s_R_bottom) (defBody s_R_bottom) (defScope s_R_bottom) .none kV_R_bottom dc_R_bottom pm_R_bottom an_R_bottom cd_R_bottom ct_R_bottom), sl_R_bottom⟩)
    (c_R_bottom : PySem.W.codeIn K cd_R_bottom "Ratio.bottom" = true)
    (k_R_bottom : PySem.W.keepIn K (.ref f_R_bottom) = true)
    (a_R_excess : PySem.W.findIn K (.ref C) "_excess" = some (some (.ref f_R_excess)))
    (i_R_excess : PySem.W.isFn K (.ref f_R_excess) = true)
    (l_R_excess : K.lookup f_R_excess = some ⟨oc_R_excess, od_R_excess, .func (PySem.W.fnOf "_excess" "Ratio._excess" (defArgs s_R_excess) (defBody s_R_excess) (defScope s_R_excess) .none kV_R_excess dc_R_excess pm_R_excess an_R_excess cd_R_excess ct_R_excess), sl_R_excess⟩)
    (c_R_excess : PySem.W.codeIn K cd_R_excess "Ratio._excess" = true)
    (k_R_excess : PySem.W.keepIn K (.ref f_R_excess) = true)
    (a_R_lt : PySem.W.findIn K (.ref C) "__lt__" = some (some (.ref f_R_lt)))
    (i_R_lt : PySem.W.isFn K (.ref f_R_lt) = true)
    (l_R_lt : K.lookup f_R_lt = some ⟨oc_R_lt, od_R_lt, .func (PySem.W.fnOf "__lt__" "Ratio.__lt__" (defArgs s_R_lt) (defBody s_R_lt) (defScope s_R_lt) .none kV_R_lt dc_R_lt pm_R_lt an_R_lt cd_R_lt ct_R_lt), sl_R_lt⟩)
    (c_R_lt : PySem.W.codeIn K cd_R_lt "Ratio.__lt__" = true)
    (k_R_lt : PySem.W.keepIn K (.ref f_R_lt) = true)
    (a_R_le : PySem.W.findIn K (.ref C) "__le__" = some (some (.ref f_R_le)))
    (i_R_le : PySem.W.isFn K (.ref f_R_le) = true)
    (l_R_le : K.lookup f_R_le = some ⟨oc_R_le, od_R_le, .func (PySem.W.fnOf "__le__" "Ratio.__le__" (defArgs s_R_le) (defBody s_R_le) (defScope s_R_le) .none kV_R_le dc_R_le pm_R_le an_R_le cd_R_le ct_R_le), sl_R_le⟩)
    (c_R_le : PySem.W.codeIn K cd_R_le "Ratio.__le__" = true)
    (k_R_le : PySem.W.keepIn K (.ref f_R_le) = true)
    (a_R_gt : PySem.W.findIn K (.ref C) "__gt__" = some (some (.ref f_R_gt)))
    (i_R_gt : PySem.W.isFn K (.ref f_R_gt) = true)
    (l_R_gt : K.lookup f_R_gt = some ⟨oc_R_gt, od_R_gt, .func (PySem.W.fnOf "__gt__" "Ratio.__gt__" (defArgs s_R_gt) (defBody s_R_gt) (defScope s_R_gt) .none kV_R_gt dc_R_gt pm_R_gt an_R_gt cd_R_gt ct_R_gt), sl_R_gt⟩)
    (c_R_gt : PySem.W.codeIn K cd_R_gt "Ratio.__gt__" = true)
    (k_R_gt : PySem.W.keepIn K (.ref f_R_gt) = true)
    (a_R_init : PySem.W.findIn K (.ref C) "__init__" = some (some (.ref f_R_init)))
    (i_R_init : PySem.W.isFn K (.ref f_R_init) = true)
    (l_R_init : K.lookup f_R_init = some ⟨oc_R_init, od_R_init, .func (PySem.W.fnOf "__init__" "Ratio.__init__" (defArgs s_R_init) (defBody s_R_init) (defScope s_R_init) (.ref T_i) kV_R_init dc_R_init pm_R_init an_R_init cd_R_init ct_R_init), sl_R_init⟩)
    (c_R_init : PySem.W.codeIn K cd_R_init "Ratio.__init__" = true)
    (k_R_init : PySem.W.keepIn K (.ref f_R_init) = true)
    (lT : K.lookup T_i = some ⟨oc_T, od_T, .seq #[.int 1 tk_T] n_T, sl_T⟩)
    (pg : PySem.W.plainGet K C Str.empty = true)
    (hd : PySem.W.hasDictIn K C = true)
    (po : PySem.W.plainOver K C = true)
    (sa : PySem.W.findIn K (.ref C) "__setattr__" = some (some (.builtin "object.__setattr__")))
    (mk : PySem.W.makesIn K C = true)
    (kc : PySem.W.keepIn K (.ref C) = true)
    (n_top : PySem.W.findIn K (.ref C) "_top" = some none)
    (n_bot : PySem.W.findIn K (.ref C) "_bottom" = some none)
    (sf : PySem.W.selfFirst K C = true)
    (sI : PySem.W.subIn K (.ref C) (.type "int") = some false)
    (sT : PySem.W.subIn K (.type "int") (.ref C) = some false)
    (gk_ROUNDS : PySem.W.nsIn K mainGlobals "ROUNDS" = some (some (.int 1000 tk_ROUNDS)))
    (gk_BASES : PySem.W.nsIn K mainGlobals "BASES" = some (some (.int 12 tk_BASES)))
    (gk_MOST_BASE : PySem.W.nsIn K mainGlobals "MOST_BASE" = some (some (.int 1000000000000 tk_MOST_BASE)))
    (gm_gcd : PySem.W.nsIn K mainGlobals "gcd" = some (some (.builtin "math.gcd")))
    (gm_lcm : PySem.W.nsIn K mainGlobals "lcm" = some (some (.builtin "math.lcm")))
    (z_isinstance : PySem.W.nsIn K mainGlobals "isinstance" = some none)
    (z_int : PySem.W.nsIn K mainGlobals "int" = some none)
    (z_bool : PySem.W.nsIn K mainGlobals "bool" = some none)
    (z_abs : PySem.W.nsIn K mainGlobals "abs" = some none)
    (z_len : PySem.W.nsIn K mainGlobals "len" = some none)
    (z_max : PySem.W.nsIn K mainGlobals "max" = some none)
    (z_min : PySem.W.nsIn K mainGlobals "min" = some none)
    (z_all : PySem.W.nsIn K mainGlobals "all" = some none)
    (z_range : PySem.W.nsIn K mainGlobals "range" = some none)
    (z_enumerate : PySem.W.nsIn K mainGlobals "enumerate" = some none)
    (z_zip : PySem.W.nsIn K mainGlobals "zip" = some none)
    (z_list : PySem.W.nsIn K mainGlobals "list" = some none)
    (z_tuple : PySem.W.nsIn K mainGlobals "tuple" = some none)
    (hcl : PySem.W.findIn K (.ref C) "__class__" = some (some (.builtin "object.__class__")))
    (hgs : PySem.W.specialIn K (.builtin "object.__class__") "__get__" = some (some (.builtin "getset_descriptor.__get__")))
    (htk : PySem.W.takesIn K (.builtin "object.__class__") = some true)
    (hmr : PySem.W.mroIn K C (.type "object") = some true)
    (kCC : PySem.W.kitOne K (.ref C) (.ref C) = some true)
    (kTC_int : PySem.W.kitOne K (.type "int") (.ref C) = some false)
    (kTC_bool : PySem.W.kitOne K (.type "bool") (.ref C) = some false)
    (kTC_str : PySem.W.kitOne K (.type "str") (.ref C) = some false)
    (kTC_NoneType : PySem.W.kitOne K (.type "NoneType") (.ref C) = some false)
    (kTC_tuple : PySem.W.kitOne K (.type "tuple") (.ref C) = some false)
    (kTC_list : PySem.W.kitOne K (.type "list") (.ref C) = some false)
    (kTC_dict : PySem.W.kitOne K (.type "dict") (.ref C) = some false)
    (kCT_int : PySem.W.kitOne K (.ref C) (.type "int") = some false)
    (kCT_bool : PySem.W.kitOne K (.ref C) (.type "bool") = some false)
    (kCT_str : PySem.W.kitOne K (.ref C) (.type "str") = some false) :
    ∃ fd : FuncData, (∀ (s : Shared) (v : Value), BindsTo s fd ⟨[v], []⟩ [("cells", v)]) ∧ ∀ base : Heap, K.In base → base.Ns mainGlobals mg → FnG l.prog w K mg base 16 fa fd ["cells"] (spW ⟨K, mg⟩ 1 w_law) := by
  have e := hfa.symm.trans (PySem.W.mg_of X G a_law)
  cases e
  have gC : mg "Ratio" = some (.ref C) := PySem.W.mg_of X G aC
  have I : IsiT K ⟨K, mg⟩ kt := by
    refine ⟨fun a b r va vb hk ha hb => ?_, fun c b r C' hk hc => ?_⟩
    · cases a with
      | ty a =>
        cases b with
        | ty b =>
          have ha : va = .type a := ha
          have hb : vb = .type b := hb
          subst ha hb
          exact kit_ty hk
        | cls d =>
          have ha : va = .type a := ha
          subst ha
          have hk : (if (a = "int" ∨ a = "bool" ∨ a = "str" ∨ a = "NoneType" ∨ a = "tuple" ∨ a = "list" ∨ a = "dict") ∧ d = "Ratio" then some false else none) = some r := hk
          · obtain ⟨⟨z, rfl⟩, rfl⟩ := if_some hk
            obtain ⟨hb, _⟩ := hb
            have e : vb = .ref C := Option.some.inj (hb.symm.trans gC)
            subst e
            rcases z with rfl | rfl | rfl | rfl | rfl | rfl | rfl
            · exact kTC_int
            · exact kTC_bool
            · exact kTC_str
            · exact kTC_NoneType
            · exact kTC_tuple
            · exact kTC_list
            · exact kTC_dict
      | cls c =>
        cases b with
        | ty b =>
          have hb : vb = .type b := hb
          subst hb
          have hk : (if c = "Ratio" ∧ (b = "int" ∨ b = "bool" ∨ b = "str") then some false else none) = some r := hk
          · obtain ⟨⟨rfl, z⟩, rfl⟩ := if_some hk
            obtain ⟨ha, _⟩ := ha
            have e : va = .ref C := Option.some.inj (ha.symm.trans gC)
            subst e
            rcases z with rfl | rfl | rfl
            · exact kCT_int
            · exact kCT_bool
            · exact kCT_str
        | cls d =>
          have hk : (if c = "Ratio" ∧ d = "Ratio" then some true else none) = some r := hk
          · obtain ⟨⟨rfl, rfl⟩, rfl⟩ := if_some hk
            obtain ⟨ha, _⟩ := ha
            obtain ⟨hb, _⟩ := hb
            have e : va = .ref C := Option.some.inj (ha.symm.trans gC)
            subst e
            have e : vb = .ref C := Option.some.inj (hb.symm.trans gC)
            subst e
            exact kCC
    · have hc : mg c = some (.ref C') := hc
      have ec : c = "Ratio" := by
        cases b with
        | ty b =>
          have hk : (if c = "Ratio" ∧ (b = "int" ∨ b = "bool" ∨ b = "str") then some false else none) = some r := hk
          exact (if_some hk).1.1
        | cls d =>
          have hk : (if c = "Ratio" ∧ d = "Ratio" then some true else none) = some r := hk
          exact (if_some hk).1.1
      subst ec
      have e := Option.some.inj (hc.symm.trans gC)
      cases e
      exact ⟨⟨pg, hd, po, sa⟩, hcl, hgs, htk, hmr⟩
  have F_is_int := fun_mk (x := "is_int") (qual := "is_int") (st := s_is_int) l_is_int c_is_int k_is_int
  have b_is_int := F_is_int.binds (ps := ["value"]) fun _ _ _ _ _ _ us hl => match us, hl with | [_], _ => rfl
  have F_is_int_within := fun_mk (x := "is_int_within") (qual := "is_int_within") (st := s_is_int_within) l_is_int_within c_is_int_within k_is_int_within
  have b_is_int_within := F_is_int_within.binds (ps := ["value", "least", "most"]) fun _ _ _ _ _ _ us hl => match us, hl with | [_, _, _], _ => rfl
  have F_is_number := fun_mk (x := "is_number") (qual := "is_number") (st := s_is_number) l_is_number c_is_number k_is_number
  have b_is_number := F_is_number.binds (ps := ["value"]) fun _ _ _ _ _ _ us hl => match us, hl with | [_], _ => rfl
  have F_as_ratio := fun_mk (x := "as_ratio") (qual := "as_ratio") (st := s_as_ratio) l_as_ratio c_as_ratio k_as_ratio
  have b_as_ratio := F_as_ratio.binds (ps := ["number"]) fun _ _ _ _ _ _ us hl => match us, hl with | [_], _ => rfl
  have F_raised := fun_mk (x := "raised") (qual := "raised") (st := s_raised) l_raised c_raised k_raised
  have b_raised := F_raised.binds (ps := ["number", "exponent"]) fun _ _ _ _ _ _ us hl => match us, hl with | [_, _], _ => rfl
  have F_common_bottom := fun_mk (x := "common_bottom") (qual := "common_bottom") (st := s_common_bottom) l_common_bottom c_common_bottom k_common_bottom
  have b_common_bottom := F_common_bottom.binds (ps := ["ratios"]) fun _ _ _ _ _ _ us hl => match us, hl with | [_], _ => rfl
  have F_is_base := fun_mk (x := "is_base") (qual := "is_base") (st := s_is_base) l_is_base c_is_base k_is_base
  have b_is_base := F_is_base.binds (ps := ["value"]) fun _ _ _ _ _ _ us hl => match us, hl with | [_], _ => rfl
  have F_check_bases := fun_mk (x := "check_bases") (qual := "check_bases") (st := s_check_bases) l_check_bases c_check_bases k_check_bases
  have b_check_bases := F_check_bases.binds (ps := ["bases"]) fun _ _ _ _ _ _ us hl => match us, hl with | [_], _ => rfl
  have F_check_row := fun_mk (x := "check_row") (qual := "check_row") (st := s_check_row) l_check_row c_check_row k_check_row
  have b_check_row := F_check_row.binds (ps := ["bases", "values"]) fun _ _ _ _ _ _ us hl => match us, hl with | [_, _], _ => rfl
  have F_check_place := fun_mk (x := "check_place") (qual := "check_place") (st := s_check_place) l_check_place c_check_place k_check_place
  have b_check_place := F_check_place.binds (ps := ["place"]) fun _ _ _ _ _ _ us hl => match us, hl with | [_], _ => rfl
  have F_whole_bases := fun_mk (x := "whole_bases") (qual := "whole_bases") (st := s_whole_bases) l_whole_bases c_whole_bases k_whole_bases
  have b_whole_bases := F_whole_bases.binds (ps := ["bases"]) fun _ _ _ _ _ _ us hl => match us, hl with | [_], _ => rfl
  have F_scaled := fun_mk (x := "scaled") (qual := "scaled") (st := s_scaled) l_scaled c_scaled k_scaled
  have b_scaled := F_scaled.binds (ps := ["values", "bottom", "step"]) fun _ _ _ _ _ _ us hl => match us, hl with | [_, _, _], _ => rfl
  have F_whole_values := fun_mk (x := "whole_values") (qual := "whole_values") (st := s_whole_values) l_whole_values c_whole_values k_whole_values
  have b_whole_values := F_whole_values.binds (ps := ["bases", "values"]) fun _ _ _ _ _ _ us hl => match us, hl with | [_, _], _ => rfl
  have F_first_levels := fun_mk (x := "first_levels") (qual := "first_levels") (st := s_first_levels) l_first_levels c_first_levels k_first_levels
  have b_first_levels := F_first_levels.binds (ps := ["bases", "values"]) fun _ _ _ _ _ _ us hl => match us, hl with | [_, _], _ => rfl
  have F_next_levels := fun_mk (x := "next_levels") (qual := "next_levels") (st := s_next_levels) l_next_levels c_next_levels k_next_levels
  have b_next_levels := F_next_levels.binds (ps := ["bases", "levels"]) fun _ _ _ _ _ _ us hl => match us, hl with | [_, _], _ => rfl
  have F_whole_levels := fun_mk (x := "whole_levels") (qual := "whole_levels") (st := s_whole_levels) l_whole_levels c_whole_levels k_whole_levels
  have b_whole_levels := F_whole_levels.binds (ps := ["bases", "values", "place"]) fun _ _ _ _ _ _ us hl => match us, hl with | [_, _, _], _ => rfl
  have F_ratios_of := fun_mk (x := "ratios_of") (qual := "ratios_of") (st := s_ratios_of) l_ratios_of c_ratios_of k_ratios_of
  have b_ratios_of := F_ratios_of.binds (ps := ["numbers"]) fun _ _ _ _ _ _ us hl => match us, hl with | [_], _ => rfl
  have F_bottom_at := fun_mk (x := "bottom_at") (qual := "bottom_at") (st := s_bottom_at) l_bottom_at c_bottom_at k_bottom_at
  have b_bottom_at := F_bottom_at.binds (ps := ["bases", "values", "place"]) fun _ _ _ _ _ _ us hl => match us, hl with | [_, _, _], _ => rfl
  have F_value_at := fun_mk (x := "value_at") (qual := "value_at") (st := s_value_at) l_value_at c_value_at k_value_at
  have b_value_at := F_value_at.binds (ps := ["bases", "values", "place"]) fun _ _ _ _ _ _ us hl => match us, hl with | [_, _, _], _ => rfl
  have F_levels_at := fun_mk (x := "levels_at") (qual := "levels_at") (st := s_levels_at) l_levels_at c_levels_at k_levels_at
  have b_levels_at := F_levels_at.binds (ps := ["bases", "values", "place"]) fun _ _ _ _ _ _ us hl => match us, hl with | [_, _, _], _ => rfl
  have F__law_purse := fun_mk (x := "_law_purse") (qual := "_law_purse") (st := s__law_purse) l__law_purse c__law_purse k__law_purse
  have b__law_purse := F__law_purse.binds (ps := ["cells", "at"]) fun _ _ _ _ _ _ us hl => match us, hl with | [_, _], _ => rfl
  have F__law_take := fun_mk (x := "_law_take") (qual := "_law_take") (st := s__law_take) l__law_take c__law_take k__law_take
  have b__law_take := F__law_take.binds (ps := ["draws", "many"]) fun _ _ _ _ _ _ us hl => match us, hl with | [_, _], _ => rfl
  have F__law_made := fun_mk (x := "_law_made") (qual := "_law_made") (st := s__law_made) l__law_made c__law_made k__law_made
  have b__law_made := F__law_made.binds (ps := ["top", "bottom"]) fun _ _ _ _ _ _ us hl => match us, hl with | [_, _], _ => rfl
  have F__law_add := fun_mk (x := "_law_add") (qual := "_law_add") (st := s__law_add) l__law_add c__law_add k__law_add
  have b__law_add := F__law_add.binds (ps := ["a", "b"]) fun _ _ _ _ _ _ us hl => match us, hl with | [_, _], _ => rfl
  have F__law_sub := fun_mk (x := "_law_sub") (qual := "_law_sub") (st := s__law_sub) l__law_sub c__law_sub k__law_sub
  have b__law_sub := F__law_sub.binds (ps := ["a", "b"]) fun _ _ _ _ _ _ us hl => match us, hl with | [_, _], _ => rfl
  have F__law_mul := fun_mk (x := "_law_mul") (qual := "_law_mul") (st := s__law_mul) l__law_mul c__law_mul k__law_mul
  have b__law_mul := F__law_mul.binds (ps := ["a", "b"]) fun _ _ _ _ _ _ us hl => match us, hl with | [_, _], _ => rfl
  have F__law_number := fun_mk (x := "_law_number") (qual := "_law_number") (st := s__law_number) l__law_number c__law_number k__law_number
  have b__law_number := F__law_number.binds (ps := ["pair", "draws"]) fun _ _ _ _ _ _ us hl => match us, hl with | [_, _], _ => rfl
  have F__law_pair := fun_mk (x := "_law_pair") (qual := "_law_pair") (st := s__law_pair) l__law_pair c__law_pair k__law_pair
  have b__law_pair := F__law_pair.binds (ps := ["ratio"]) fun _ _ _ _ _ _ us hl => match us, hl with | [_], _ => rfl
  have F__law_levels := fun_mk (x := "_law_levels") (qual := "_law_levels") (st := s__law_levels) l__law_levels c__law_levels k__law_levels
  have b__law_levels := F__law_levels.binds (ps := ["roots", "worths"]) fun _ _ _ _ _ _ us hl => match us, hl with | [_, _], _ => rfl
  have F__law_next := fun_mk (x := "_law_next") (qual := "_law_next") (st := s__law_next) l__law_next c__law_next k__law_next
  have b__law_next := F__law_next.binds (ps := ["roots", "levels"]) fun _ _ _ _ _ _ us hl => match us, hl with | [_, _], _ => rfl
  have F__law_drawn_bases := fun_mk (x := "_law_drawn_bases") (qual := "_law_drawn_bases") (st := s__law_drawn_bases) l__law_drawn_bases c__law_drawn_bases k__law_drawn_bases
  have b__law_drawn_bases := F__law_drawn_bases.binds (ps := ["draws", "most"]) fun _ _ _ _ _ _ us hl => match us, hl with | [_, _], _ => rfl
  have F__law_drawn_values := fun_mk (x := "_law_drawn_values") (qual := "_law_drawn_values") (st := s__law_drawn_values) l__law_drawn_values c__law_drawn_values k__law_drawn_values
  have b__law_drawn_values := F__law_drawn_values.binds (ps := ["draws", "many"]) fun _ _ _ _ _ _ us hl => match us, hl with | [_, _], _ => rfl
  have F__law_right := fun_mk (x := "_law_right") (qual := "_law_right") (st := s__law_right) l__law_right c__law_right k__law_right
  have b__law_right := F__law_right.binds (ps := ["draws"]) fun _ _ _ _ _ _ us hl => match us, hl with | [_], _ => rfl
  have F_law := fun_mk (x := "law") (qual := "law") (st := s_law) l_law c_law k_law
  have b_law := F_law.binds (ps := ["cells"]) fun _ _ _ _ _ _ us hl => match us, hl with | [_], _ => rfl
  have F_R_top := fun_mk (x := "top") (qual := "Ratio.top") (st := s_R_top) l_R_top c_R_top k_R_top
  have b_R_top := F_R_top.binds (ps := ["self"]) fun _ _ _ _ _ _ us hl => match us, hl with | [_], _ => rfl
  have F_R_bottom := fun_mk (x := "bottom") (qual := "Ratio.bottom") (st := s_R_bottom) l_R_bottom c_R_bottom k_R_bottom
  have b_R_bottom := F_R_bottom.binds (ps := ["self"]) fun _ _ _ _ _ _ us hl => match us, hl with | [_], _ => rfl
  have F_R_excess := fun_mk (x := "_excess") (qual := "Ratio._excess") (st := s_R_excess) l_R_excess c_R_excess k_R_excess
  have b_R_excess := F_R_excess.binds (ps := ["self", "number"]) fun _ _ _ _ _ _ us hl => match us, hl with | [_, _], _ => rfl
  have F_R_lt := fun_mk (x := "__lt__") (qual := "Ratio.__lt__") (st := s_R_lt) l_R_lt c_R_lt k_R_lt
  have b_R_lt := F_R_lt.binds (ps := ["self", "other"]) fun _ _ _ _ _ _ us hl => match us, hl with | [_, _], _ => rfl
  have F_R_le := fun_mk (x := "__le__") (qual := "Ratio.__le__") (st := s_R_le) l_R_le c_R_le k_R_le
  have b_R_le := F_R_le.binds (ps := ["self", "other"]) fun _ _ _ _ _ _ us hl => match us, hl with | [_, _], _ => rfl
  have F_R_gt := fun_mk (x := "__gt__") (qual := "Ratio.__gt__") (st := s_R_gt) l_R_gt c_R_gt k_R_gt
  have b_R_gt := F_R_gt.binds (ps := ["self", "other"]) fun _ _ _ _ _ _ us hl => match us, hl with | [_, _], _ => rfl
  have F_R_init : FunD K "__init__" "Ratio.__init__" (defArgs s_R_init) (defBody s_R_init) (defScope s_R_init) [.int 1] [] f_R_init (PySem.W.fnOf "__init__" "Ratio.__init__" (defArgs s_R_init) (defBody s_R_init) (defScope s_R_init) (.ref T_i) kV_R_init dc_R_init pm_R_init an_R_init cd_R_init ct_R_init) := ⟨⟨_, _, _, _, _, _, _, _, _, _, rfl, l_R_init, c_R_init, .inr ⟨by simp, T_i, _, [.int 1 tk_T], n_T, rfl, lT, rfl, .cons ⟨_, rfl⟩ .nil⟩, .inl rfl⟩, k_R_init⟩
  obtain ⟨ds1, v1, b1⟩ := F_R_init.binds1 (ps := ["self", "top", "bottom"]) 2 0 (by simp) rfl fun _ _ _ _ _ _ _ us its hl hi => match us, its, hl, hi with | [_, _], [_], _, _ => ⟨_, rfl, rfl⟩
  obtain ⟨ds2, v2, b2⟩ := F_R_init.binds1 (ps := ["self", "top", "bottom"]) 3 1 (by simp) rfl fun _ _ _ _ _ _ _ us its hl hi => match us, its, hl, hi with | [_, _, _], [_], _, _ => ⟨_, rfl, rfl⟩
  cases v2
  have kb_value_at_rev : KBinds K _ ["bases", "values", "place"] ["place", "values", "bases"] (perm3V p3rev) (perm3V p3rev) := ⟨fun s us ws X' hl => by
    obtain ⟨a, b, c, rfl, rfl⟩ := perm3_len (f := p3rev) hl
    exact BindsTo.of_eq (fd := (PySem.W.fnOf "value_at" "value_at" (defArgs s_value_at) (defBody s_value_at) (defScope s_value_at) .none kV_value_at dc_value_at pm_value_at an_value_at cd_value_at ct_value_at)) rfl, perm3_rev⟩
  have kb_levels_at_mid : KBinds K _ ["bases", "values", "place"] ["bases", "place", "values"] (perm3V p3mid) (perm3V p3mid) := ⟨fun s us ws X' hl => by
    obtain ⟨a, b, c, rfl, rfl⟩ := perm3_len (f := p3mid) hl
    exact BindsTo.of_eq (fd := (PySem.W.fnOf "levels_at" "levels_at" (defArgs s_levels_at) (defBody s_levels_at) (defScope s_levels_at) .none kV_levels_at dc_levels_at pm_levels_at an_levels_at cd_levels_at ct_levels_at)) rfl, perm3_mid⟩
  let T : Tx K mg := {
    C := C
    f_is_int := f_is_int
    fd_is_int := _
    F_is_int := F_is_int
    b_is_int := b_is_int
    m_is_int := PySem.W.mg_of X G a_is_int
    f_is_int_within := f_is_int_within
    fd_is_int_within := _
    F_is_int_within := F_is_int_within
    b_is_int_within := b_is_int_within
    m_is_int_within := PySem.W.mg_of X G a_is_int_within
    f_is_number := f_is_number
    fd_is_number := _
    F_is_number := F_is_number
    b_is_number := b_is_number
    m_is_number := PySem.W.mg_of X G a_is_number
    f_as_ratio := f_as_ratio
    fd_as_ratio := _
    F_as_ratio := F_as_ratio
    b_as_ratio := b_as_ratio
    m_as_ratio := PySem.W.mg_of X G a_as_ratio
    f_raised := f_raised
    fd_raised := _
    F_raised := F_raised
    b_raised := b_raised
    m_raised := PySem.W.mg_of X G a_raised
    f_common_bottom := f_common_bottom
    fd_common_bottom := _
    F_common_bottom := F_common_bottom
    b_common_bottom := b_common_bottom
    m_common_bottom := PySem.W.mg_of X G a_common_bottom
    f_is_base := f_is_base
    fd_is_base := _
    F_is_base := F_is_base
    b_is_base := b_is_base
    m_is_base := PySem.W.mg_of X G a_is_base
    f_check_bases := f_check_bases
    fd_check_bases := _
    F_check_bases := F_check_bases
    b_check_bases := b_check_bases
    m_check_bases := PySem.W.mg_of X G a_check_bases
    f_check_row := f_check_row
    fd_check_row := _
    F_check_row := F_check_row
    b_check_row := b_check_row
    m_check_row := PySem.W.mg_of X G a_check_row
    f_check_place := f_check_place
    fd_check_place := _
    F_check_place := F_check_place
    b_check_place := b_check_place
    m_check_place := PySem.W.mg_of X G a_check_place
    f_whole_bases := f_whole_bases
    fd_whole_bases := _
    F_whole_bases := F_whole_bases
    b_whole_bases := b_whole_bases
    m_whole_bases := PySem.W.mg_of X G a_whole_bases
    f_scaled := f_scaled
    fd_scaled := _
    F_scaled := F_scaled
    b_scaled := b_scaled
    m_scaled := PySem.W.mg_of X G a_scaled
    f_whole_values := f_whole_values
    fd_whole_values := _
    F_whole_values := F_whole_values
    b_whole_values := b_whole_values
    m_whole_values := PySem.W.mg_of X G a_whole_values
    f_first_levels := f_first_levels
    fd_first_levels := _
    F_first_levels := F_first_levels
    b_first_levels := b_first_levels
    m_first_levels := PySem.W.mg_of X G a_first_levels
    f_next_levels := f_next_levels
    fd_next_levels := _
    F_next_levels := F_next_levels
    b_next_levels := b_next_levels
    m_next_levels := PySem.W.mg_of X G a_next_levels
    f_whole_levels := f_whole_levels
    fd_whole_levels := _
    F_whole_levels := F_whole_levels
    b_whole_levels := b_whole_levels
    m_whole_levels := PySem.W.mg_of X G a_whole_levels
    f_ratios_of := f_ratios_of
    fd_ratios_of := _
    F_ratios_of := F_ratios_of
    b_ratios_of := b_ratios_of
    m_ratios_of := PySem.W.mg_of X G a_ratios_of
    f_bottom_at := f_bottom_at
    fd_bottom_at := _
    F_bottom_at := F_bottom_at
    b_bottom_at := b_bottom_at
    m_bottom_at := PySem.W.mg_of X G a_bottom_at
    f_value_at := f_value_at
    fd_value_at := _
    F_value_at := F_value_at
    b_value_at := b_value_at
    m_value_at := PySem.W.mg_of X G a_value_at
    f_levels_at := f_levels_at
    fd_levels_at := _
    F_levels_at := F_levels_at
    b_levels_at := b_levels_at
    m_levels_at := PySem.W.mg_of X G a_levels_at
    f__law_purse := f__law_purse
    fd__law_purse := _
    F__law_purse := F__law_purse
    b__law_purse := b__law_purse
    m__law_purse := PySem.W.mg_of X G a__law_purse
    f__law_take := f__law_take
    fd__law_take := _
    F__law_take := F__law_take
    b__law_take := b__law_take
    m__law_take := PySem.W.mg_of X G a__law_take
    f__law_made := f__law_made
    fd__law_made := _
    F__law_made := F__law_made
    b__law_made := b__law_made
    m__law_made := PySem.W.mg_of X G a__law_made
    f__law_add := f__law_add
    fd__law_add := _
    F__law_add := F__law_add
    b__law_add := b__law_add
    m__law_add := PySem.W.mg_of X G a__law_add
    f__law_sub := f__law_sub
    fd__law_sub := _
    F__law_sub := F__law_sub
    b__law_sub := b__law_sub
    m__law_sub := PySem.W.mg_of X G a__law_sub
    f__law_mul := f__law_mul
    fd__law_mul := _
    F__law_mul := F__law_mul
    b__law_mul := b__law_mul
    m__law_mul := PySem.W.mg_of X G a__law_mul
    f__law_number := f__law_number
    fd__law_number := _
    F__law_number := F__law_number
    b__law_number := b__law_number
    m__law_number := PySem.W.mg_of X G a__law_number
    f__law_pair := f__law_pair
    fd__law_pair := _
    F__law_pair := F__law_pair
    b__law_pair := b__law_pair
    m__law_pair := PySem.W.mg_of X G a__law_pair
    f__law_levels := f__law_levels
    fd__law_levels := _
    F__law_levels := F__law_levels
    b__law_levels := b__law_levels
    m__law_levels := PySem.W.mg_of X G a__law_levels
    f__law_next := f__law_next
    fd__law_next := _
    F__law_next := F__law_next
    b__law_next := b__law_next
    m__law_next := PySem.W.mg_of X G a__law_next
    f__law_drawn_bases := f__law_drawn_bases
    fd__law_drawn_bases := _
    F__law_drawn_bases := F__law_drawn_bases
    b__law_drawn_bases := b__law_drawn_bases
    m__law_drawn_bases := PySem.W.mg_of X G a__law_drawn_bases
    f__law_drawn_values := f__law_drawn_values
    fd__law_drawn_values := _
    F__law_drawn_values := F__law_drawn_values
    b__law_drawn_values := b__law_drawn_values
    m__law_drawn_values := PySem.W.mg_of X G a__law_drawn_values
    f__law_right := f__law_right
    fd__law_right := _
    F__law_right := F__law_right
    b__law_right := b__law_right
    m__law_right := PySem.W.mg_of X G a__law_right
    f_law := fa
    fd_law := _
    F_law := F_law
    b_law := b_law
    m_law := PySem.W.mg_of X G a_law
    f_R_top := f_R_top
    fd_R_top := _
    F_R_top := F_R_top
    b_R_top := b_R_top
    pa_top := p_top
    p_top := ⟨a_R_top, g_R_top, t_R_top, _, r_R_top⟩
    f_R_bottom := f_R_bottom
    fd_R_bottom := _
    F_R_bottom := F_R_bottom
    b_R_bottom := b_R_bottom
    pa_bottom := p_bottom
    p_bottom := ⟨a_R_bottom, g_R_bottom, t_R_bottom, _, r_R_bottom⟩
    f_R_excess := f_R_excess
    fd_R_excess := _
    F_R_excess := F_R_excess
    b_R_excess := b_R_excess
    M_R_excess := ⟨a_R_excess, i_R_excess, k_R_excess⟩
    f_R_lt := f_R_lt
    fd_R_lt := _
    F_R_lt := F_R_lt
    b_R_lt := b_R_lt
    M_R_lt := ⟨a_R_lt, i_R_lt⟩
    f_R_le := f_R_le
    fd_R_le := _
    F_R_le := F_R_le
    b_R_le := b_R_le
    M_R_le := ⟨a_R_le, i_R_le⟩
    f_R_gt := f_R_gt
    fd_R_gt := _
    F_R_gt := F_R_gt
    b_R_gt := b_R_gt
    M_R_gt := ⟨a_R_gt, i_R_gt⟩
    f_R_init := f_R_init
    fd_R_init := _
    ds_R_init1 := ds1
    F_R_init := F_R_init
    b_R_init1 := b1
    v_R_init1 := v1
    b_R_init2 := b2
    v_R_init2 := .nil
    g_Ratio := gC
    cl := ⟨pg, hd, po, sa⟩
    na_top := n_top
    na_bottom := n_bot
    own := ⟨sf, sI, sT⟩
    mkk := ⟨mk, a_R_init, i_R_init, kc⟩
    isi := I
    tk_ROUNDS := tk_ROUNDS
    g_ROUNDS := PySem.W.mg_of X G gk_ROUNDS
    tk_BASES := tk_BASES
    g_BASES := PySem.W.mg_of X G gk_BASES
    tk_MOST_BASE := tk_MOST_BASE
    g_MOST_BASE := PySem.W.mg_of X G gk_MOST_BASE
    g_gcd := PySem.W.mg_of X G gm_gcd
    g_lcm := PySem.W.mg_of X G gm_lcm
    z_isinstance := PySem.W.mg_none_of X G z_isinstance
    z_int := PySem.W.mg_none_of X G z_int
    z_bool := PySem.W.mg_none_of X G z_bool
    z_abs := PySem.W.mg_none_of X G z_abs
    z_len := PySem.W.mg_none_of X G z_len
    z_max := PySem.W.mg_none_of X G z_max
    z_min := PySem.W.mg_none_of X G z_min
    z_all := PySem.W.mg_none_of X G z_all
    z_range := PySem.W.mg_none_of X G z_range
    z_enumerate := PySem.W.mg_none_of X G z_enumerate
    z_zip := PySem.W.mg_none_of X G z_zip
    z_list := PySem.W.mg_none_of X G z_list
    z_tuple := PySem.W.mg_none_of X G z_tuple
    kb_value_at_rev := kb_value_at_rev
    kb_levels_at_mid := kb_levels_at_mid }
  exact ⟨_, fun s v => .of_eq (fd := (PySem.W.fnOf "law" "law" (defArgs s_law) (defBody s_law) (defScope s_law) .none kV_law dc_law pm_law an_law cd_law ct_law)) rfl, fun base _ _ => FnG.of (ok_law T)⟩

end K1
set_option Elab.async false
set_option linter.all false
set_option maxRecDepth 100000
namespace K1
open PySem PySem.Spec PyProof.Rows L2 DL
theorem ints_is {mg : MG} {H : Hp} : ∀ ns : List Int, IsL mg [] H (ns.map V.int) (ns.map D.int)
  | [] => .nil
  | n :: ns => .cons (.int n) (ints_is ns)
def spLaw (K : PySem.W.Frag) : Sp := fun vs H Q _ => ∃ (a : Addr) (ns : List Int), vs = [.ref a] ∧ SqL K H a (ns.map V.int) ∧ ∀ H', Q (.bl true) H'
theorem law_sp {K : PySem.W.Frag} {mg : Str → Option Value} {vs : List V} {H : Hp} {Q : VK} {E : XK} (h : spLaw K vs H Q E) : spW ⟨K, mg⟩ 1 w_law vs H Q E := by
  obtain ⟨a, ns, rfl, hs, k⟩ := h
  have hi : Is ⟨K, mg⟩ [] H (.ref a) (.scr (ns.map D.int)) := by
    rcases hs with r | r
    · exact .scr (by simp) r (ints_is ns)
    · exact .scrK (fun H' => .inr r) (ints_is ns)
  refine ⟨[], [], [.scr (ns.map D.int)], fun d _ => d = .bl true, ⟨rfl, List.nodup_nil, fun i a ds e => by simp at e⟩, .cons hi .nil, rfl, ⟨fun d hd => ?_, fun S' => rfl⟩, fun d S' A' v H' g R hd e => ?_⟩
  · obtain ⟨i, _, rfl⟩ := List.mem_map.mp hd
    exact ⟨i, rfl⟩
  · subst e
    cases hd
    exact k H'
theorem walk {l : PySem.W.OpenLaw} {q : Program} {loose : List Str} {XP : (Str → Option Value) → Heap → Prop} {YP : World → Heap → Prop} {d : DefRec} {K : Params → PySem.W.Frag} (hn : l.most = some 63) (hdf : d.params.defaults = [])
    (hY : ∀ (w : World) (h : Heap), YP w h → (K w.params).In h)
    (F : ∀ (w : World) (mg : Str → Option Value) (fa : Addr) (h : Heap), (K w.params).In h → h.Ns mainGlobals mg → mg d.name = some (.ref fa) →
      ∃ fd : FuncData, (∀ (s : Shared) (u : Value), BindsTo s fd ⟨[u], []⟩ [("cells", u)]) ∧ ∀ base : Heap, (K w.params).In base → base.Ns mainGlobals mg → FnG l.prog w (K w.params) mg base 16 fa fd ["cells"] (spW ⟨K w.params, mg⟩ 1 w_law)) :
    PySem.W.WalkO q loose XP YP l.row.toRowW d [] (fun f vs => PySem.call f vs) := by
  refine walkG (n := 63) (k := 16) (x := "cells") (sp := fun w => spLaw (K w.params)) hn (by decide) hdf ⟨rfl, by decide, by decide⟩ hY (fun w mg fa h a b c => ?_) (fun _ _ a ns hl _ hS => ⟨a, ns, rfl, hS, fun _ => rfl⟩)
  obtain ⟨fd, h1, h2⟩ := F w mg fa h a b c
  exact ⟨fd, h1, fun base h3 h4 => (h2 base h3 h4).impG fun vs H Q h => law_sp h⟩
end K1
open PySem PySem.W PyProof.Rows
set_option maxRecDepth 100000 in
set_option maxHeartbeats 0 in
theorem PySem.Challenge.cw_loopbounds_k46_rows_by_their_levels_holds : PySem.Challenge.rw_loopbounds_k46_rows_by_their_levels.Holds := by
  w_on; o_law; k_head; (case hw => w_witness2)
  k_fill
  refine K1.walk (l := PySem.Challenge.rw_loopbounds_k46_rows_by_their_levels) rfl rfl (fun w h Y => PySem.W.kIn_of Y) ?F
  case F =>
    intro w mg fa h KX G hmg
    refine' K1.all_mk KX G hmg ?x_aC ?x_a_is_int ?x_l_is_int ?x_c_is_int ?x_k_is_int ?x_a_is_int_within ?x_l_is_int_within ?x_c_is_int_within ?x_k_is_int_within ?x_a_is_number ?x_l_is_number ?x_c_is_number ?x_k_is_number ?x_a_as_ratio ?x_l_as_ratio ?x_c_as_ratio ?x_k_as_ratio ?x_a_raised ?x_l_raised ?x_c_raised ?x_k_raised ?x_a_common_bottom ?x_l_common_bottom ?x_c_common_bottom ?x_k_common_bottom ?x_a_is_base ?x_l_is_base ?x_c_is_base ?x_k_is_base ?x_a_check_bases ?x_l_check_bases ?x_c_check_bases ?x_k_check_bases ?x_a_check_row ?x_l_check_row ?x_c_check_row ?x_k_check_row ?x_a_check_place ?x_l_check_place ?x_c_check_place ?x_k_check_place ?x_a_whole_bases ?x_l_whole_bases ?x_c_whole_bases ?x_k_whole_bases ?x_a_scaled ?x_l_scaled ?x_c_scaled ?x_k_scaled ?x_a_whole_values ?x_l_whole_values ?x_c_whole_values ?x_k_whole_values ?x_a_first_levels ?x_l_first_levels ?x_c_first_levels ?x_k_first_levels ?x_a_next_levels ?x_l_next_levels ?x_c_next_levels ?x_k_next_levels ?x_a_whole_levels ?x_l_whole_levels ?x_c_whole_levels ?x_k_whole_levels ?x_a_ratios_of ?x_l_ratios_of ?x_c_ratios_of ?x_k_ratios_of ?x_a_bottom_at ?x_l_bottom_at ?x_c_bottom_at ?x_k_bottom_at ?x_a_value_at ?x_l_value_at ?x_c_value_at ?x_k_value_at ?x_a_levels_at ?x_l_levels_at ?x_c_levels_at ?x_k_levels_at ?x_a__law_purse ?x_l__law_purse ?x_c__law_purse ?x_k__law_purse ?x_a__law_take ?x_l__law_take ?x_c__law_take ?x_k__law_take ?x_a__law_made ?x_l__law_made ?x_c__law_made ?x_k__law_made ?x_a__law_add ?x_l__law_add ?x_c__law_add ?x_k__law_add ?x_a__law_sub ?x_l__law_sub ?x_c__law_sub ?x_k__law_sub ?x_a__law_mul ?x_l__law_mul ?x_c__law_mul ?x_k__law_mul ?x_a__law_number ?x_l__law_number ?x_c__law_number ?x_k__law_number ?x_a__law_pair ?x_l__law_pair ?x_c__law_pair ?x_k__law_pair ?x_a__law_levels ?x_l__law_levels ?x_c__law_levels ?x_k__law_levels ?x_a__law_next ?x_l__law_next ?x_c__law_next ?x_k__law_next ?x_a__law_drawn_bases ?x_l__law_drawn_bases ?x_c__law_drawn_bases ?x_k__law_drawn_bases ?x_a__law_drawn_values ?x_l__law_drawn_values ?x_c__law_drawn_values ?x_k__law_drawn_values ?x_a__law_right ?x_l__law_right ?x_c__law_right ?x_k__law_right ?x_a_law ?x_l_law ?x_c_law ?x_k_law ?x_a_R_top ?x_g_R_top ?x_t_R_top ?x_r_R_top ?x_l_R_top ?x_c_R_top ?x_k_R_top ?x_a_R_bottom ?x_g_R_bottom ?x_t_R_bottom ?x_r_R_bottom ?x_l_R_bottom ?x_c_R_bottom ?x_k_R_bottom ?x_a_R_excess ?x_i_R_excess ?x_l_R_excess ?x_c_R_excess ?x_k_R_excess ?x_a_R_lt ?x_i_R_lt ?x_l_R_lt ?x_c_R_lt ?x_k_R_lt ?x_a_R_le ?x_i_R_le ?x_l_R_le ?x_c_R_le ?x_k_R_le ?x_a_R_gt ?x_i_R_gt ?x_l_R_gt ?x_c_R_gt ?x_k_R_gt ?x_a_R_init ?x_i_R_init ?x_l_R_init ?x_c_R_init ?x_k_R_init ?x_lT ?x_pg ?x_hd ?x_po ?x_sa ?x_mk ?x_kc ?x_n_top ?x_n_bot ?x_sf ?x_sI ?x_sT ?x_gk_ROUNDS ?x_gk_BASES ?x_gk_MOST_BASE ?x_gm_gcd ?x_gm_lcm ?x_z_isinstance ?x_z_int ?x_z_bool ?x_z_abs ?x_z_len ?x_z_max ?x_z_min ?x_z_all ?x_z_range ?x_z_enumerate ?x_z_zip ?x_z_list ?x_z_tuple ?x_hcl ?x_hgs ?x_htk ?x_hmr ?x_kCC ?x_kTC_int ?x_kTC_bool ?x_kTC_str ?x_kTC_NoneType ?x_kTC_tuple ?x_kTC_list ?x_kTC_dict ?x_kCT_int ?x_kCT_bool ?x_kCT_str
    (case x_aC => k_is)
    (case x_a_is_int => k_is)
    (case x_l_is_int => k_is)
    (case x_c_is_int => k_is)
    (case x_k_is_int => k_is)
    (case x_a_is_int_within => k_is)
    (case x_l_is_int_within => k_is)
    (case x_c_is_int_within => k_is)
    (case x_k_is_int_within => k_is)
    (case x_a_is_number => k_is)
    (case x_l_is_number => k_is)
    (case x_c_is_number => k_is)
    (case x_k_is_number => k_is)
    (case x_a_as_ratio => k_is)
    (case x_l_as_ratio => k_is)
    (case x_c_as_ratio => k_is)
    (case x_k_as_ratio => k_is)
    (case x_a_raised => k_is)
    (case x_l_raised => k_is)
    (case x_c_raised => k_is)
    (case x_k_raised => k_is)
    (case x_a_common_bottom => k_is)
    (case x_l_common_bottom => k_is)
    (case x_c_common_bottom => k_is)
    (case x_k_common_bottom => k_is)
    (case x_a_is_base => k_is)
    (case x_l_is_base => k_is)
    (case x_c_is_base => k_is)
    (case x_k_is_base => k_is)
    (case x_a_check_bases => k_is)
    (case x_l_check_bases => k_is)
    (case x_c_check_bases => k_is)
    (case x_k_check_bases => k_is)
    (case x_a_check_row => k_is)
    (case x_l_check_row => k_is)
    (case x_c_check_row => k_is)
    (case x_k_check_row => k_is)
    (case x_a_check_place => k_is)
    (case x_l_check_place => k_is)
    (case x_c_check_place => k_is)
    (case x_k_check_place => k_is)
    (case x_a_whole_bases => k_is)
    (case x_l_whole_bases => k_is)
    (case x_c_whole_bases => k_is)
    (case x_k_whole_bases => k_is)
    (case x_a_scaled => k_is)
    (case x_l_scaled => k_is)
    (case x_c_scaled => k_is)
    (case x_k_scaled => k_is)
    (case x_a_whole_values => k_is)
    (case x_l_whole_values => k_is)
    (case x_c_whole_values => k_is)
    (case x_k_whole_values => k_is)
    (case x_a_first_levels => k_is)
    (case x_l_first_levels => k_is)
    (case x_c_first_levels => k_is)
    (case x_k_first_levels => k_is)
    (case x_a_next_levels => k_is)
    (case x_l_next_levels => k_is)
    (case x_c_next_levels => k_is)
    (case x_k_next_levels => k_is)
    (case x_a_whole_levels => k_is)
    (case x_l_whole_levels => k_is)
    (case x_c_whole_levels => k_is)
    (case x_k_whole_levels => k_is)
    (case x_a_ratios_of => k_is)
    (case x_l_ratios_of => k_is)
    (case x_c_ratios_of => k_is)
    (case x_k_ratios_of => k_is)
    (case x_a_bottom_at => k_is)
    (case x_l_bottom_at => k_is)
    (case x_c_bottom_at => k_is)
    (case x_k_bottom_at => k_is)
    (case x_a_value_at => k_is)
    (case x_l_value_at => k_is)
    (case x_c_value_at => k_is)
    (case x_k_value_at => k_is)
    (case x_a_levels_at => k_is)
    (case x_l_levels_at => k_is)
    (case x_c_levels_at => k_is)
    (case x_k_levels_at => k_is)
    (case x_a__law_purse => k_is)
    (case x_l__law_purse => k_is)
    (case x_c__law_purse => k_is)
    (case x_k__law_purse => k_is)
    (case x_a__law_take => k_is)
    (case x_l__law_take => k_is)
    (case x_c__law_take => k_is)
    (case x_k__law_take => k_is)
    (case x_a__law_made => k_is)
    (case x_l__law_made => k_is)
    (case x_c__law_made => k_is)
    (case x_k__law_made => k_is)
    (case x_a__law_add => k_is)
    (case x_l__law_add => k_is)
    (case x_c__law_add => k_is)
    (case x_k__law_add => k_is)
    (case x_a__law_sub => k_is)
    (case x_l__law_sub => k_is)
    (case x_c__law_sub => k_is)
    (case x_k__law_sub => k_is)
    (case x_a__law_mul => k_is)
    (case x_l__law_mul => k_is)
    (case x_c__law_mul => k_is)
    (case x_k__law_mul => k_is)
    (case x_a__law_number => k_is)
    (case x_l__law_number => k_is)
    (case x_c__law_number => k_is)
    (case x_k__law_number => k_is)
    (case x_a__law_pair => k_is)
    (case x_l__law_pair => k_is)
    (case x_c__law_pair => k_is)
    (case x_k__law_pair => k_is)
    (case x_a__law_levels => k_is)
    (case x_l__law_levels => k_is)
    (case x_c__law_levels => k_is)
    (case x_k__law_levels => k_is)
    (case x_a__law_next => k_is)
    (case x_l__law_next => k_is)
    (case x_c__law_next => k_is)
    (case x_k__law_next => k_is)
    (case x_a__law_drawn_bases => k_is)
    (case x_l__law_drawn_bases => k_is)
    (case x_c__law_drawn_bases => k_is)
    (case x_k__law_drawn_bases => k_is)
    (case x_a__law_drawn_values => k_is)
    (case x_l__law_drawn_values => k_is)
    (case x_c__law_drawn_values => k_is)
    (case x_k__law_drawn_values => k_is)
    (case x_a__law_right => k_is)
    (case x_l__law_right => k_is)
    (case x_c__law_right => k_is)
    (case x_k__law_right => k_is)
    (case x_a_law => k_is)
    (case x_l_law => k_is)
    (case x_c_law => k_is)
    (case x_k_law => k_is)
    (case x_a_R_top => k_is)
    (case x_g_R_top => k_is)
    (case x_t_R_top => k_is)
    (case x_r_R_top => k_is)
    (case x_l_R_top => k_is)
    (case x_c_R_top => k_is)
    (case x_k_R_top => k_is)
    (case x_a_R_bottom => k_is)
    (case x_g_R_bottom => k_is)
    (case x_t_R_bottom => k_is)
    (case x_r_R_bottom => k_is)
    (case x_l_R_bottom => k_is)
    (case x_c_R_bottom => k_is)
    (case x_k_R_bottom => k_is)
    (case x_a_R_excess => k_is)
    (case x_i_R_excess => k_is)
    (case x_l_R_excess => k_is)
    (case x_c_R_excess => k_is)
    (case x_k_R_excess => k_is)
    (case x_a_R_lt => k_is)
    (case x_i_R_lt => k_is)
    (case x_l_R_lt => k_is)
    (case x_c_R_lt => k_is)
    (case x_k_R_lt => k_is)
    (case x_a_R_le => k_is)
    (case x_i_R_le => k_is)
    (case x_l_R_le => k_is)
    (case x_c_R_le => k_is)
    (case x_k_R_le => k_is)
    (case x_a_R_gt => k_is)
    (case x_i_R_gt => k_is)
    (case x_l_R_gt => k_is)
    (case x_c_R_gt => k_is)
    (case x_k_R_gt => k_is)
    (case x_a_R_init => k_is)
    (case x_i_R_init => k_is)
    (case x_l_R_init => k_is)
    (case x_c_R_init => k_is)
    (case x_k_R_init => k_is)
    (case x_lT => k_is)
    (case x_pg => k_is)
    (case x_hd => k_is)
    (case x_po => k_is)
    (case x_sa => k_is)
    (case x_mk => k_is)
    (case x_kc => k_is)
    (case x_n_top => k_is)
    (case x_n_bot => k_is)
    (case x_sf => k_is)
    (case x_sI => k_is)
    (case x_sT => k_is)
    (case x_gk_ROUNDS => k_is)
    (case x_gk_BASES => k_is)
    (case x_gk_MOST_BASE => k_is)
    (case x_gm_gcd => k_is)
    (case x_gm_lcm => k_is)
    (case x_z_isinstance => k_is)
    (case x_z_int => k_is)
    (case x_z_bool => k_is)
    (case x_z_abs => k_is)
    (case x_z_len => k_is)
    (case x_z_max => k_is)
    (case x_z_min => k_is)
    (case x_z_all => k_is)
    (case x_z_range => k_is)
    (case x_z_enumerate => k_is)
    (case x_z_zip => k_is)
    (case x_z_list => k_is)
    (case x_z_tuple => k_is)
    (case x_hcl => k_is)
    (case x_hgs => k_is)
    (case x_htk => k_is)
    (case x_hmr => k_is)
    (case x_kCC => kit_is)
    (case x_kTC_int => kit_is)
    (case x_kTC_bool => kit_is)
    (case x_kTC_str => kit_is)
    (case x_kTC_NoneType => kit_is)
    (case x_kTC_tuple => kit_is)
    (case x_kTC_list => kit_is)
    (case x_kTC_dict => kit_is)
    (case x_kCT_int => kit_is)
    (case x_kCT_bool => kit_is)
    (case x_kCT_str => kit_is)
