import PyProof.Rows.All
import Wide.All
import OpenK.AllK
import Wide.FinOn
import HandS.ForMost
import HandS.Wide
import HandS.WideBits
import HandS.Gcd
import HandS.IsInst
import HandS.Property
import HandS.MakeKw
import HandS.FStr
import HandS.MakeKwOnly
import HandS.SetFor
import HandS.StrMore
import HandS.ClsMeth
import PyProof.EqKinds
import HandS.RaiseMore
import HandS.Codes
import KE.IntTextLaws
import PySem.Challenge.RW_loopbounds_k05_whole_rules_of_ratios
import HandS.Style
set_option Elab.async false
set_option linter.all false
set_option maxRecDepth 100000
/-! A layer of data over the hand layer: values without heaps, and what a piece of the text does with them. -/
namespace DL
open PySem PySem.Spec PyProof.Rows L2

/-- data: what a value stands for; mut i: the i-th list that may change -/
inductive D where
  | non | bl (b : Bool) | int (i : Int) | str (x : Str) | ty (n : String) | cls (c : Str)
  | tup (ds : List D) | lst (ds : List D) | scr (ds : List D) | ins (c : Str) (fs : List (Str × D)) | mut (i : Nat) | obj (a : Addr) | dct (kvs : List (Key × D)) | exc (a : Addr) (d : Addr) (fs : List (Str × D))
/-- the written part, and what the module's names hold -/
structure MG where
  K : PySem.W.Frag
  f : Str → Option Value
abbrev _root_.L2.Cx.G (X : Cx) : MG := ⟨X.K, X.mg⟩
abbrev DEnv := List (Option D)
abbrev MS := List (List D)

mutual
inductive Is (mg : MG) (A : List Addr) (H : Hp) : V → D → Prop where
  | non : Is mg A H .non .non
  | bl (b : Bool) : Is mg A H (.bl b) (.bl b)
  | int (i : Int) : Is mg A H (.int i) (.int i)
  | str (x : Str) : Is mg A H (.str x) (.str x)
  | ty (n : String) : Is mg A H (.ty n) (.ty n)
  | cls {c : Str} {C : Addr} (e : mg.f c = some (.ref C)) : Is mg A H (.ref C) (.cls c)
  | tup {a : Addr} {vs : List V} {ds : List D} (n : a ∉ A) (r : Rd H a (.tup vs)) (l : IsL mg A H vs ds) : Is mg A H (.ref a) (.tup ds)
  | lst {a : Addr} {vs : List V} {ds : List D} (n : a ∉ A) (r : H a = some (.lst vs)) (l : IsL mg A H vs ds) : Is mg A H (.ref a) (.lst ds)
  | scr {a : Addr} {vs : List V} {ds : List D} (n : a ∉ A) (r : Rd H a (.lst vs)) (l : IsL mg A H vs ds) : Is mg A H (.ref a) (.scr ds)
  | scrK {a : Addr} {vs : List V} {ds : List D} (r : ∀ H' : Hp, SqL mg.K H' a vs) (l : IsL mg A H vs ds) : Is mg A H (.ref a) (.scr ds)
  | ins {a C dx : Addr} {c : Str} {fs : List (Str × V)} {fds : List (Str × D)} (n : a ∉ A) (e : mg.f c = some (.ref C)) (r : H a = some (.ins C dx fs)) (l : IsF mg A H fs fds) : Is mg A H (.ref a) (.ins c fds)
  | mut {a : Addr} {i : Nat} (e : A[i]? = some a) : Is mg A H (.ref a) (.mut i)
  /-- an object of which nothing is told -/
  | obj (a : Addr) : Is mg A H (.ref a) (.obj a)
  /-- a dict that never changes -/
  | dct {a : Addr} {kvs : List (Key × V)} {kds : List (Key × D)} (n : a ∉ A) (r : H a = some (.dK kvs)) (l : IsK mg A H kvs kds) : Is mg A H (.ref a) (.dct kds)
  /-- a caught exception at a, its fields in its own dict at d -/
  | exc {a d : Addr} {fs : List (Str × V)} {fds : List (Str × D)} (n : d ∉ A) (r : H d = some (.xd fs)) (l : IsF mg A H fs fds) : Is mg A H (.ref a) (.exc a d fds)
inductive IsL (mg : MG) (A : List Addr) (H : Hp) : List V → List D → Prop where
  | nil : IsL mg A H [] []
  | cons {v : V} {d : D} {vs : List V} {ds : List D} (h : Is mg A H v d) (t : IsL mg A H vs ds) : IsL mg A H (v :: vs) (d :: ds)
inductive IsF (mg : MG) (A : List Addr) (H : Hp) : List (Str × V) → List (Str × D) → Prop where
  | nil : IsF mg A H [] []
  | cons {f : Str} {v : V} {d : D} {fs : List (Str × V)} {fds : List (Str × D)} (h : Is mg A H v d) (t : IsF mg A H fs fds) : IsF mg A H ((f, v) :: fs) ((f, d) :: fds)
inductive IsK (mg : MG) (A : List Addr) (H : Hp) : List (Key × V) → List (Key × D) → Prop where
  | nil : IsK mg A H [] []
  | cons {f : Key} {v : V} {d : D} {fs : List (Key × V)} {fds : List (Key × D)} (h : Is mg A H v d) (t : IsK mg A H fs fds) : IsK mg A H ((f, v) :: fs) ((f, d) :: fds)
end

structure Grow (A A' : List Addr) (H H' : Hp) : Prop where
  pre : ∀ (i : Nat) (a : Addr), A[i]? = some a → A'[i]? = some a
  keep : ∀ (b : Addr) (o : HO), b ∉ A → H b = some o → H' b = some o ∧ b ∉ A'
theorem Grow.refl {A : List Addr} {H : Hp} : Grow A A H H := ⟨fun _ _ h => h, fun _ _ n h => ⟨h, n⟩⟩
theorem Grow.trans {A A1 A2 : List Addr} {H H1 H2 : Hp} (g : Grow A A1 H H1) (g' : Grow A1 A2 H1 H2) : Grow A A2 H H2 :=
  ⟨fun i a h => g'.pre i a (g.pre i a h), fun b o n h => g'.keep b o (g.keep b o n h).2 (g.keep b o n h).1⟩
theorem Grow.rd {A A' : List Addr} {H H' : Hp} (g : Grow A A' H H') {a : Addr} {u : HO} (n : a ∉ A) (r : Rd H a u) : a ∉ A' ∧ Rd H' a u := by
  rcases r with r | ⟨o, r⟩
  · exact ⟨(g.keep a _ n r).2, .inl (g.keep a _ n r).1⟩
  · exact ⟨(g.keep a _ n r).2, .inr ⟨o, (g.keep a _ n r).1⟩⟩

section
variable {mg : MG} {A A' : List Addr} {H H' : Hp}
mutual
theorem Is.mono (g : Grow A A' H H') : ∀ {v : V} {d : D}, Is mg A H v d → Is mg A' H' v d
  | _, _, .non => .non
  | _, _, .bl b => .bl b
  | _, _, .int i => .int i
  | _, _, .str x => .str x
  | _, _, .ty n => .ty n
  | _, _, .cls e => .cls e
  | _, _, .tup n r l => .tup (g.rd n r).1 (g.rd n r).2 (IsL.mono g l)
  | _, _, .lst n r l => .lst (g.keep _ _ n r).2 (g.keep _ _ n r).1 (IsL.mono g l)
  | _, _, .scr n r l => .scr (g.rd n r).1 (g.rd n r).2 (IsL.mono g l)
  | _, _, .scrK r l => .scrK r (IsL.mono g l)
  | _, _, .ins n e r l => .ins (g.keep _ _ n r).2 e (g.keep _ _ n r).1 (IsF.mono g l)
  | _, _, .mut e => .mut (g.pre _ _ e)
  | _, _, .obj a => .obj a
  | _, _, .dct n r l => .dct (g.keep _ _ n r).2 (g.keep _ _ n r).1 (IsK.mono g l)
  | _, _, .exc n r l => .exc (g.keep _ _ n r).2 (g.keep _ _ n r).1 (IsF.mono g l)
theorem IsL.mono (g : Grow A A' H H') : ∀ {vs : List V} {ds : List D}, IsL mg A H vs ds → IsL mg A' H' vs ds
  | _, _, .nil => .nil
  | _, _, .cons h t => .cons (Is.mono g h) (IsL.mono g t)
theorem IsF.mono (g : Grow A A' H H') : ∀ {fs : List (Str × V)} {fds : List (Str × D)}, IsF mg A H fs fds → IsF mg A' H' fs fds
  | _, _, .nil => .nil
  | _, _, .cons h t => .cons (Is.mono g h) (IsF.mono g t)
theorem IsK.mono (g : Grow A A' H H') : ∀ {fs : List (Key × V)} {fds : List (Key × D)}, IsK mg A H fs fds → IsK mg A' H' fs fds
  | _, _, .nil => .nil
  | _, _, .cons h t => .cons (Is.mono g h) (IsK.mono g t)
end
theorem IsL.length : ∀ {vs : List V} {ds : List D}, IsL mg A H vs ds → vs.length = ds.length
  | _, _, .nil => rfl
  | _, _, .cons _ t => congrArg Nat.succ (IsL.length t)
theorem IsL.get : ∀ {vs : List V} {ds : List D} {i : Nat} {d : D}, IsL mg A H vs ds → ds[i]? = some d → ∃ v, vs[i]? = some v ∧ Is mg A H v d
  | _, _, _, _, .nil, e => by simp at e
  | _, _, 0, _, .cons h _, e => by simp at e; subst e; exact ⟨_, rfl, h⟩
  | _, _, i + 1, d, .cons _ t, e => by
    obtain ⟨v, h1, h2⟩ := IsL.get (i := i) (d := d) t (by simpa using e)
    exact ⟨v, by simpa using h1, h2⟩
theorem IsL.getV : ∀ {vs : List V} {ds : List D} {i : Nat} {v : V}, IsL mg A H vs ds → vs[i]? = some v → ∃ d, ds[i]? = some d ∧ Is mg A H v d
  | _, _, _, _, .nil, e => by simp at e
  | _, _, 0, _, .cons h _, e => by simp at e; subst e; exact ⟨_, rfl, h⟩
  | _, _, i + 1, d, .cons _ t, e => by
    obtain ⟨v, h1, h2⟩ := IsL.getV (i := i) (v := d) t (by simpa using e)
    exact ⟨v, by simpa using h1, h2⟩
theorem IsL.append : ∀ {vs ws : List V} {ds es : List D}, IsL mg A H vs ds → IsL mg A H ws es → IsL mg A H (vs ++ ws) (ds ++ es)
  | _, _, _, _, .nil, q => q
  | _, _, _, _, .cons h t, q => .cons h (IsL.append t q)
theorem IsL.set {v : V} {d : D} (r : Is mg A H v d) : ∀ {vs : List V} {ds : List D} (i : Nat), IsL mg A H vs ds → IsL mg A H (vs.set i v) (ds.set i d)
  | _, _, _, .nil => .nil
  | _, _, 0, .cons _ t => .cons r t
  | _, _, i + 1, .cons q t => .cons q (IsL.set r i t)
theorem IsF.lookup : ∀ {fs : List (Str × V)} {fds : List (Str × D)} {f : Str} {d : D}, IsF mg A H fs fds → fds.lookup f = some d → ∃ v, fs.lookup f = some v ∧ Is mg A H v d
  | _, _, _, _, .nil, e => by simp at e
  | _, _, f, d, .cons (f := g) h t, e => by
    rw [List.lookup_cons] at e ⊢
    by_cases hb : (f == g) = true
    · rw [hb] at e ⊢; cases e; exact ⟨_, rfl, h⟩
    · have hb' : (f == g) = false := by simpa using hb
      rw [hb'] at e ⊢
      exact IsF.lookup t e
theorem IsF.no : ∀ {fs : List (Str × V)} {fds : List (Str × D)} {f : Str}, IsF mg A H fs fds → fds.lookup f = none → fs.lookup f = none
  | _, _, _, .nil, e => rfl
  | _, _, f, .cons (f := g) h t, e => by
    rw [List.lookup_cons] at e ⊢
    by_cases hb : (f == g) = true
    · rw [hb] at e; cases e
    · have hb' : (f == g) = false := by simpa using hb
      rw [hb'] at e ⊢
      exact IsF.no t e
end

/-- a list that is read: it stays -/
theorem Is.scrAt {mg : MG} {A : List Addr} {H : Hp} {v : V} {ds : List D} (h : Is mg A H v (.scr ds)) : ∃ a vs, v = .ref a ∧ (∀ A' H', Grow A A' H H' → SqL mg.K H' a vs) ∧ IsL mg A H vs ds := by
  cases h with
  | @scr a vs ds n r l => exact ⟨a, vs, rfl, fun A' H' g => .inl (g.rd n r).2, l⟩
  | @scrK a vs ds r l => exact ⟨a, vs, rfl, fun A' H' g => r H', l⟩
/-- the lists that may change, as they stand -/
structure Rep (mg : MG) (A : List Addr) (S : MS) (H : Hp) : Prop where
  len : A.length = S.length
  nd : A.Nodup
  at_ : ∀ (i : Nat) (a : Addr) (ds : List D), A[i]? = some a → S[i]? = some ds → ∃ vs, H a = some (.lst vs) ∧ IsL mg A H vs ds

section
variable {mg : MG} {A A' : List Addr} {S : MS} {H H' : Hp}
theorem Rep.gets {i : Nat} {a : Addr} (R : Rep mg A S H) (e : A[i]? = some a) : ∃ ds, S[i]? = some ds := by
  have hl : i < S.length := by rw [← R.len]; exact (List.getElem?_eq_some_iff.mp e).1
  exact ⟨S[i], List.getElem?_eq_getElem hl⟩
theorem Rep.addr {i : Nat} {ds : List D} (R : Rep mg A S H) (e : S[i]? = some ds) : ∃ a, A[i]? = some a := by
  have hl : i < A.length := by rw [R.len]; exact (List.getElem?_eq_some_iff.mp e).1
  exact ⟨A[i], List.getElem?_eq_getElem hl⟩
theorem Rep.here {a : Addr} (R : Rep mg A S H) (h : a ∈ A) : ∃ o, H a = some o := by
  obtain ⟨i, hi⟩ := List.getElem?_of_mem h
  obtain ⟨ds, hd⟩ := R.gets hi
  obtain ⟨vs, h1, _⟩ := R.at_ i a ds hi hd
  exact ⟨_, h1⟩
theorem Rep.fresh {p : Addr} (R : Rep mg A S H) (h : H p = none) : p ∉ A := fun z => by
  obtain ⟨o, e⟩ := R.here z
  rw [h] at e; cases e
/-- a new object that never changes -/
theorem grow_new {p : Addr} {o : HO} (R : Rep mg A S H) (h : H p = none) : Grow A A H (upd H p o) :=
  ⟨fun _ _ e => e, fun b u n e => ⟨by rw [upd_ne (ne_of_none e h)]; exact e, n⟩⟩
theorem Rep.new {p : Addr} {o : HO} (R : Rep mg A S H) (h : H p = none) : Rep mg A S (upd H p o) :=
  ⟨R.len, R.nd, fun i a ds e1 e2 => by
    obtain ⟨vs, h1, h2⟩ := R.at_ i a ds e1 e2
    exact ⟨vs, by rw [upd_ne (ne_of_none h1 h)]; exact h1, h2.mono (grow_new R h)⟩⟩
/-- a new list that may change -/
theorem grow_mut {p : Addr} {o : HO} (R : Rep mg A S H) (h : H p = none) : Grow A (A ++ [p]) H (upd H p o) :=
  ⟨fun i a e => by rw [List.getElem?_append_left (List.getElem?_eq_some_iff.mp e).1]; exact e, fun b u n e => ⟨by rw [upd_ne (ne_of_none e h)]; exact e, fun z => by
    rcases List.mem_append.mp z with z | z
    · exact n z
    · exact ne_of_none e h (List.mem_singleton.mp z)⟩⟩
theorem Rep.newMut {p : Addr} {vs : List V} {ds : List D} (R : Rep mg A S H) (h : H p = none) (l : IsL mg A H vs ds) : Rep mg (A ++ [p]) (S ++ [ds]) (upd H p (.lst vs)) := by
  have g := grow_mut (o := .lst vs) R h
  refine ⟨by rw [List.length_append, List.length_append, R.len]; rfl, ?_, fun i a es e1 e2 => ?_⟩
  · rw [List.nodup_append]
    exact ⟨R.nd, by simp, fun x hx y hy => by rw [List.mem_singleton.mp hy]; intro z; exact R.fresh h (z ▸ hx)⟩
  · by_cases hi : i < A.length
    · rw [List.getElem?_append_left hi] at e1
      rw [List.getElem?_append_left (by rw [← R.len]; exact hi)] at e2
      obtain ⟨ws, h1, h2⟩ := R.at_ i a es e1 e2
      exact ⟨ws, by rw [upd_ne (ne_of_none h1 h)]; exact h1, h2.mono g⟩
    · rw [List.getElem?_append_right (by omega)] at e1
      rw [List.getElem?_append_right (by rw [← R.len]; omega)] at e2
      have z : i - A.length = 0 := by
        have := (List.getElem?_eq_some_iff.mp e1).1
        simp at this; omega
      have z2 : i - S.length = 0 := by rw [← R.len]; exact z
      rw [z] at e1; rw [z2] at e2
      simp at e1 e2
      subst e1 e2
      exact ⟨vs, upd_same, l.mono g⟩
/-- one of them is changed -/
theorem grow_write {i : Nat} {a : Addr} {o : HO} (e : A[i]? = some a) : Grow A A H (upd H a o) :=
  ⟨fun _ _ e => e, fun b u n eb => ⟨by rw [upd_ne (show b ≠ a from fun z => n (by rw [z]; exact List.mem_of_getElem? e))]; exact eb, n⟩⟩
theorem Rep.write {i : Nat} {a : Addr} {vs : List V} {ds : List D} (R : Rep mg A S H) (e : A[i]? = some a) (l : IsL mg A H vs ds) : Rep mg A (S.set i ds) (upd H a (.lst vs)) := by
  have g := grow_write (H := H) (o := .lst vs) e
  refine ⟨by rw [List.length_set]; exact R.len, R.nd, fun j b es e1 e2 => ?_⟩
  by_cases hj : j = i
  · subst hj
    rw [e] at e1; cases e1
    have hl : j < S.length := by rw [← R.len]; exact (List.getElem?_eq_some_iff.mp e).1
    rw [List.getElem?_set_self hl] at e2; cases e2
    exact ⟨vs, upd_same, l.mono g⟩
  · rw [List.getElem?_set_ne (fun z => hj z.symm)] at e2
    obtain ⟨ws, h1, h2⟩ := R.at_ j b es e1 e2
    have hb : b ≠ a := fun z => by
      subst z
      exact hj ((List.getElem?_inj (List.getElem?_eq_some_iff.mp e1).1 R.nd).mp (e1.trans e.symm))
    exact ⟨ws, by rw [upd_ne hb]; exact h1, h2.mono g⟩
end

/-- the names of a frame -/
structure EnvD (mg : MG) (A : List Addr) (H : Hp) (σ : L2.St) (ρ : DEnv) : Prop where
  len : σ.length = ρ.length
  at_ : ∀ (i : Nat) (d : D), ρ[i]? = some (some d) → ∃ v, σ[i]? = some (some v) ∧ Is mg A H v d
section
variable {mg : MG} {A A' : List Addr} {S : MS} {H H' : Hp} {σ : L2.St} {ρ : DEnv}
theorem EnvD.mono (g : Grow A A' H H') (e : EnvD mg A H σ ρ) : EnvD mg A' H' σ ρ := ⟨e.len, fun i d h => by
  obtain ⟨v, h1, h2⟩ := e.at_ i d h
  exact ⟨v, h1, h2.mono g⟩⟩
theorem EnvD.set {v : V} {d : D} (e : EnvD mg A H σ ρ) (i : Nat) (h : Is mg A H v d) : EnvD mg A H (σ.set i (some v)) (ρ.set i (some d)) := by
  refine ⟨by simp [e.len], fun j d' hj => ?_⟩
  by_cases hji : i = j
  · subst hji
    by_cases hl : i < ρ.length
    · rw [List.getElem?_set_self hl] at hj; cases hj
      exact ⟨v, by rw [List.getElem?_set_self (by rw [e.len]; exact hl)], h⟩
    · rw [List.getElem?_eq_none (by simp; omega)] at hj; cases hj
  · rw [List.getElem?_set_ne hji] at hj ⊢
    exact e.at_ j d' hj
end

/-! ### what a piece does, by data -/
abbrev WD := DEnv → MS → (D → MS → Prop) → Prop
abbrev WB := DEnv → MS → (Bool → MS → Prop) → Prop
abbrev WL := DEnv → MS → (List D → MS → Prop) → Prop
structure DEnds where
  nx : DEnv → MS → Prop
  rt : D → MS → Prop
  bk : DEnv → MS → Prop := fun _ _ => False
  ct : DEnv → MS → Prop := fun _ _ => False
abbrev WS := DEnds → DEnv → MS → Prop
/-- an end by values behind A, H is reached by an end by data -/
def EndV (mg : MG) (A : List Addr) (H : Hp) (Q : VK) (Q' : D → MS → Prop) : Prop := ∀ d S' A' v H', Grow A A' H H' → Rep mg A' S' H' → Is mg A' H' v d → Q' d S' → Q v H'
def EndB (mg : MG) (A : List Addr) (H : Hp) (Q : Bool → Hp → Prop) (Q' : Bool → MS → Prop) : Prop := ∀ d S' A' H', Grow A A' H H' → Rep mg A' S' H' → Q' d S' → Q d H'
def EndL (mg : MG) (A : List Addr) (H : Hp) (Q : List V → Hp → Prop) (Q' : List D → MS → Prop) : Prop := ∀ d S' A' v H', Grow A A' H H' → Rep mg A' S' H' → IsL mg A' H' v d → Q' d S' → Q v H'
def EndN (mg : MG) (A : List Addr) (H : Hp) (Q : L2.St → Hp → Prop) (Q' : DEnv → MS → Prop) : Prop := ∀ ρ S' A' σ H', Grow A A' H H' → Rep mg A' S' H' → EnvD mg A' H' σ ρ → Q' ρ S' → Q σ H'
structure EndS (mg : MG) (A : List Addr) (H : Hp) (E : Ends) (E' : DEnds) : Prop where
  nx : EndN mg A H E.nx E'.nx
  rt : EndV mg A H E.rt E'.rt
  bk : EndN mg A H E.bk E'.bk
  ct : EndN mg A H E.ct E'.ct
section
variable {mg : MG} {A A' : List Addr} {H H' : Hp}
theorem EndV.mono {Q Q'} (e : EndV mg A H Q Q') (g : Grow A A' H H') : EndV mg A' H' Q Q' := fun d S' A2 v H2 g2 => e d S' A2 v H2 (g.trans g2)
theorem EndB.mono {Q Q'} (e : EndB mg A H Q Q') (g : Grow A A' H H') : EndB mg A' H' Q Q' := fun d S' A2 H2 g2 => e d S' A2 H2 (g.trans g2)
theorem EndL.mono {Q Q'} (e : EndL mg A H Q Q') (g : Grow A A' H H') : EndL mg A' H' Q Q' := fun d S' A2 v H2 g2 => e d S' A2 v H2 (g.trans g2)
theorem EndN.mono {Q Q'} (e : EndN mg A H Q Q') (g : Grow A A' H H') : EndN mg A' H' Q Q' := fun d S' A2 v H2 g2 => e d S' A2 v H2 (g.trans g2)
theorem EndS.mono {E E'} (e : EndS mg A H E E') (g : Grow A A' H H') : EndS mg A' H' E E' := ⟨e.nx.mono g, e.rt.mono g, e.bk.mono g, e.ct.mono g⟩
end
def SndE (mg : MG) (t : TE) (w : WD) : Prop := ∀ A S σ H ρ Q Q', Rep mg A S H → EnvD mg A H σ ρ → w ρ S Q' → EndV mg A H Q Q' → t σ H Q
def SndT (mg : MG) (t : TT) (w : WB) : Prop := ∀ A S σ H ρ Q Q', Rep mg A S H → EnvD mg A H σ ρ → w ρ S Q' → EndB mg A H Q Q' → t σ H Q
def SndA (mg : MG) (t : TA) (w : WL) : Prop := ∀ A S σ H ρ Q Q', Rep mg A S H → EnvD mg A H σ ρ → w ρ S Q' → EndL mg A H Q Q' → t σ H Q
def SndS (mg : MG) (t : TS) (w : WS) : Prop := ∀ A S σ H ρ E E', Rep mg A S H → EnvD mg A H σ ρ → w E' ρ S → EndS mg A H E E' → t E σ H

structure PD (X : Cx) (e : Expr) (t : TE) (w : WD) : Prop where
  pe : PE X e t
  sd : SndE X.G t w
structure PDT (X : Cx) (e : Expr) (t : TT) (w : WB) : Prop where
  pe : PT X e t
  sd : SndT X.G t w
structure PDW (X : Cx) (e : Expr) (t : TT) (w : WB) : Prop where
  pe : PW X e t
  sd : SndT X.G t w
structure PDA (X : Cx) (es : List Expr) (t : TA) (w : WL) : Prop where
  pe : PA X es t
  sd : SndA X.G t w
structure PDS (X : Cx) (st : Stmt) (t : TS) (w : WS) : Prop where
  pe : PS X st t
  sd : SndS X.G t w
structure PDSs (X : Cx) (st : List Stmt) (t : TS) (w : WS) : Prop where
  pe : PSs X st t
  sd : SndS X.G t w

/-! ### names, constants -/
def wVar (i : Nat) : WD := fun ρ S Q => match ρ[i]? with
  | some (some d) => Q d S
  | _ => False
def wC (d : D) : WD := fun _ S Q => Q d S
section
variable {X : Cx} {mg : MG}
theorem snd_var {i : Nat} : SndE mg (tVar i) (wVar i) := by
  intro A S σ H ρ Q Q' R E q k
  unfold wVar at q
  split at q
  case h_2 => exact q.elim
  rename_i d hd
  obtain ⟨v, h1, h2⟩ := E.at_ i d hd
  exact ⟨v, h1, k d S A v H .refl R h2 q⟩
theorem snd_c {v : V} {d : D} (h : ∀ A H, Is mg A H v d) : SndE mg (tC v) (wC d) := fun A S σ H ρ Q Q' R E q k => k d S A v H .refl R (h A H) q
theorem dv (i : Nat) {x : Str} {pos : Pos} (hN : X.N[i]? = some x := by rfl) (hv : Vis X.env.scope x := by first | exact Or.inl rfl | exact Or.inr (Or.inl rfl) | exact Or.inr (Or.inr rfl)) (hd : (x == ("__debug__" : Str)) = false := by decide)
    (hcd : (x == ("__classdict__" : Str)) = false := by decide) : PD X (.Name x pos) (tVar i) (wVar i) := ⟨pe_var hN hv hd hcd, snd_var⟩
theorem d_int {i j pos} : PD X (.Constant (.int i) j pos) (tC (.int i)) (wC (.int i)) := ⟨pe_int, snd_c fun _ _ => .int i⟩
theorem d_bl {b j pos} : PD X (.Constant (.bool b) j pos) (tC (.bl b)) (wC (.bl b)) := ⟨pe_bl, snd_c fun _ _ => .bl b⟩
theorem d_non {j pos} : PD X (.Constant .none j pos) (tC .non) (wC .non) := ⟨pe_non, snd_c fun _ _ => .non⟩
theorem d_str {x j pos} : PD X (.Constant (.str x) j pos) (tC (.str x)) (wC (.str x)) := ⟨pe_str, snd_c fun _ _ => .str x⟩
/-- a module's name for a class -/
theorem d_cls {x : Str} {C : Addr} {pos : Pos} (hm : X.mg x = some (.ref C)) (hg : Gl X x := by rfl) (hd : (x == ("__debug__" : Str)) = false := by decide) : PD X (.Name x pos) (tC (.ref C)) (wC (.cls x)) :=
  ⟨pe_glob hg hm rfl hd, snd_c fun _ _ => .cls hm⟩
theorem d_ty {x : Str} {n : String} {pos : Pos} (hm : X.mg x = none) (hv : bootBuiltins x = some (.type n) := by decide +kernel) (hg : Gl X x := by rfl) (hn : x ≠ "__name__" := by decide) (hd : (x == ("__debug__" : Str)) = false := by decide) :
    PD X (.Name x pos) (tC (.ty n)) (wC (.ty n)) := ⟨pe_bltn hg hm hv rfl hn hd, snd_c fun _ _ => .ty n⟩
theorem d_globI {x : Str} {i : Int} {t : Tok} {pos : Pos} (hm : X.mg x = some (.int i t)) (hg : Gl X x := by rfl) (hd : (x == ("__debug__" : Str)) = false := by decide) : PD X (.Name x pos) (tC (.int i)) (wC (.int i)) :=
  ⟨pe_glob hg hm ⟨_, rfl⟩ hd, snd_c fun _ _ => .int i⟩
end
end DL

set_option Elab.async false
set_option linter.all false
set_option maxRecDepth 100000
/-! Operators of an own class by its methods, over the hand layer. -/
namespace DL
open PySem PySem.Spec PyProof.Rows L2
open PySem.W (InstAt Looks findIn isFn subIn selfFirst notFirst)

section
variable {prog : Program} {w : World} {A : Around} {E : Value → Shared → Prop} {s : Shared} {K : PySem.W.Frag} {x C L f : Addr} {h₀ : Heap} {m : Str → Option Value} {ox : Obj} {od : Option Obj}

/-- int.__op__ with an object that is none -/
theorem int_declines {name : Str} {id nm : String} {g : Int → Int → Sem PySem.Fin} {B : Builtin} {i : Int} {t : Tok} {Q : Value → Shared → Prop} (hs : Slot "int" name id) (he : entryFor table id = some B) (ha : argsOk id ⟨[.int i t, .ref x], []⟩)
    (hB : B = PySem.Builtin.Int.intBinary nm g) (ho : s.heap.get? x = some ox) (hd : ox.data = .plain) (q : Q .notImplemented s) :
    wpAny (model prog w) A (call (.builtin id) [.int i t, .ref x]) Q E s := by
  refine wpAny_call_entry hs (typeIs_int s i t) he ?_ ha
  rw [hB]
  unfold PySem.Builtin.Int.intBinary
  refine wpAny_bind (m := slotArgs nm 1 _) (wpAny_pure ?_)
  refine wpAny_bind (m := PySem.Builtin.Int.intOfSelf _) ?_
  unfold PySem.Builtin.Int.intOfSelf
  refine wpAny_bind (m := asInt? _) (wpAny_pure (wpAny_pure ?_))
  refine wpAny_bind (m := asInt? _) ?_
  show wpAny _ _ (asInt? (.ref x)) _ _ _
  unfold asInt?
  refine wpAny_bind (wpAny_load ho ?_)
  rw [hd]
  refine wpAny_pure ?_
  refine wpAny_bind (wpAny_rule ?_)
  exact wpAny_pure ⟨_, rfl, q⟩

/-- int // own declines, too -/
theorem int_fdeclines {i : Int} {t : Tok} {Q : Value → Shared → Prop} (ho : s.heap.get? x = some ox) (hd : ox.data = .plain) (q : Q .notImplemented s) :
    wpAny (model prog w) A (call (.builtin "int.__floordiv__") [.int i t, .ref x]) Q E s := by
  refine wpAny_call_entry F.slot_int_floordiv (typeIs_int s i t) F.entry_int_floordiv ?_ (F.args_int_floordiv_2 _ _)
  unfold Builtin.«int.__floordiv__»
  refine wpAny_bind (m := PySem.Builtin.exactOperandsForPylong false _) ?_
  unfold PySem.Builtin.exactOperandsForPylong
  rw [if_pos (by rfl)]
  dsimp only
  refine wpAny_bind (m := asInt? _) (wpAny_pure ?_)
  refine wpAny_bind (m := asInt? _) ?_
  unfold asInt?
  refine wpAny_bind (wpAny_load ho ?_)
  rw [hd]
  refine wpAny_pure ?_
  dsimp only
  refine wpAny_pure ?_
  unfold PySem.Builtin.Int.intBinary
  refine wpAny_bind (m := slotArgs _ 1 _) (wpAny_pure ?_)
  refine wpAny_bind (m := PySem.Builtin.Int.intOfSelf _) ?_
  unfold PySem.Builtin.Int.intOfSelf
  refine wpAny_bind (m := asInt? _) (wpAny_pure (wpAny_pure ?_))
  refine wpAny_bind (m := asInt? _) ?_
  show wpAny _ _ (asInt? (.ref x)) _ _ _
  unfold asInt?
  refine wpAny_bind (wpAny_load ho ?_)
  rw [hd]
  refine wpAny_pure ?_
  refine wpAny_bind (wpAny_rule ?_)
  exact wpAny_pure ⟨_, rfl, q⟩

/-- int op own: by the own class's reflected method -/
theorem binI_K {op : Operator} {id : String} {i : Int} {t : Tok} {fl : Addr} {Q : Value → Shared → Prop} (X : K.In s.heap) (I : InstAt s.heap x ox C od) (hc : selfFirst K C = true)
    (hl : findIn K (.ref C) (PySem.dunder op.info.2) = some (some (.ref fl))) (hs : findIn K (.ref C) (dunderR op.info.2) = some (some (.ref f))) (hf : isFn K (.ref f) = true)
    (hsub : subIn K (.ref C) (.type "int") = some false) (slot : Slot "int" (PySem.dunder op.info.2) id) (fills : fillsNumberSlot (.type "int") op.info.2 = pure true)
    (dec : ∀ Q' : Value → Shared → Prop, Q' .notImplemented s → wpAny (model prog w) A (call (.builtin id) [.int i t, .ref x]) Q' E s)
    (h : wpAny (model prog w) A (call (.ref f) [.ref x, .int i t]) (PySem.W.CmpBack Q) E s) : wpAny (model prog w) A (binaryOp op (.int i t) (.ref x)) Q E s := by
  obtain ⟨cd, rest, hcd, hm⟩ := PySem.W.ksp_first hc
  rcases hi : op.info with ⟨sym, nm'⟩
  rw [hi] at hl hs slot fills
  dsimp only at hl hs slot fills
  have one := PySem.W.ksp_try X I hs hf h
  have L3 : Looks (model prog w) s.heap (fillsNumberSlot (.ref C) nm') true := PySem.W.fills_K X hcd hm hl
  have L5 : Looks (model prog w) s.heap (isSubtype (.ref C) (.type "int")) false := PySem.W.looks_subIn X hsub
  have hne : (Value.type "int" == Value.ref C) = false := Bool.eq_false_iff.mpr fun q => by cases beq_iff_eq.mp q
  have hpy : numberSlotInPython (.type "int") nm' = pure false := rfl
  simp only [binaryOp, hi]
  refine wpAny_holding (wpAny_bind ?_)
  unfold binaryOp1
  refine wpAny_bind (wpAny_typeOf (typeIs_int s i t) (wpAny_bind (I.type.here (wpAny_bind (wpAny_of_eq fills ?_)))))
  simp only [hne, Bool.false_eq_true, if_false]
  refine wpAny_bind (L3.here ?_)
  simp only [Bool.and_self, if_true]
  refine wpAny_bind (L5.here ?_)
  simp only [Bool.false_eq_true, if_false, pure_bind, Bool.not_false, Bool.and_self, if_true, hpy]
  refine wpAny_bind (wpAny_tryMethod_declines (typeIs_int s i t) slot (dec _ ⟨rfl, ?_⟩))
  dsimp only
  refine wpAny_bind (wpAny_mono one (fun r s' hr => ?_) fun _ _ e => e)
  obtain ⟨v, rfl, hq⟩ := hr
  dsimp only
  exact wpAny_bind (wpAny_rule (wpAny_pure (wpAny_pure hq)))

/-- int cmp own: by the own class's reflected method -/
theorem cmpI_K {op : CmpOp} {id : String} {i : Int} {t : Tok} {Q : Value → Shared → Prop} (hu : A.units < cLine) (X : K.In s.heap) (I : InstAt s.heap x ox C od)
    (hs : findIn K (.ref C) (cmpInfo op).2.2 = some (some (.ref f))) (hf : isFn K (.ref f) = true) (hsub : subIn K (.ref C) (.type "int") = some false) (slot : Slot "int" (cmpInfo op).2.1 id)
    (dec : ∀ Q' : Value → Shared → Prop, Q' .notImplemented s → wpAny (model prog w) A (call (.builtin id) [.int i t, .ref x]) Q' E s)
    (h : wpAny (model prog w) A (call (.ref f) [.ref x, .int i t]) (PySem.W.CmpBack Q) E s) : wpAny (model prog w) A (richCompare op (.int i t) (.ref x)) Q E s := by
  have one : wpAny (model prog w) A (tryCompare (.ref x) (cmpInfo op).2.2 (.int i t)) (fun r s' => ∃ v, r = some v ∧ Q v s') E s := by
    unfold tryCompare
    refine wpAny_bind (PySem.W.ifBound_K X I hs hf (wpAny_mono h (fun v s' hv => ?_) fun _ _ e => e))
    cases v <;> first | exact hv.elim | exact wpAny_pure ⟨_, rfl, hv⟩
  have L5 : Looks (model prog w) s.heap (isSubtype (.ref C) (.type "int")) false := PySem.W.looks_subIn X hsub
  have hne : (Value.type "int" != Value.ref C) = true := by
    rw [bne, Bool.not_eq_true']
    exact Bool.eq_false_iff.mpr fun q => by cases beq_iff_eq.mp q
  rcases hi : cmpInfo op with ⟨sym, f', r'⟩
  rw [hi] at one slot
  unfold richCompare
  simp only [hi, (typeIs_int s i t).oneThing_none]
  refine wpAny_holding (wpAny_bind (wpAny_cRoomFor hu ?_))
  refine wpAny_bind (wpAny_typeOf (typeIs_int s i t) (wpAny_bind (I.type.here ?_)))
  simp only [hne, if_true]
  refine wpAny_bind (L5.here ?_)
  simp only [Bool.false_eq_true, if_false]
  refine wpAny_bind (wpAny_tryCompare_declines (typeIs_int s i t) slot (dec _ ⟨rfl, ?_⟩))
  simp only [Bool.not_false, if_true]
  refine wpAny_bind (wpAny_mono one (fun r s' z => ?_) fun _ _ e => e)
  obtain ⟨v, rfl, hq⟩ := z
  exact wpAny_pure hq
end
end DL
namespace DL
open PySem PySem.Spec PyProof.Rows L2
/-- what the operators ask of a class -/
structure OwnC (K : PySem.W.Frag) (C : Addr) : Prop where
  first : PySem.W.selfFirst K C = true
  subI : PySem.W.subIn K (.ref C) (.type "int") = some false
  subT : PySem.W.subIn K (.type "int") (.ref C) = some false
/-- a method of it -/
structure OwnM (K : PySem.W.Frag) (C : Addr) (nm : Str) (f : Addr) : Prop where
  at_ : PySem.W.findIn K (.ref C) nm = some (some (.ref f))
  fn : PySem.W.isFn K (.ref f) = true
theorem cmpback {P : Value → Shared → Prop} {z : V} {v : Value} {s' : Shared} (r : RelV z v) (h : P v s') : PySem.W.CmpBack P v s' := by
  cases z with
  | non => cases (show v = Value.none from r); exact h
  | bl b => cases (show v = Value.bool b from r); exact h
  | int i => obtain ⟨t, e⟩ := (show ∃ t, v = Value.int i t from r); cases e; exact h
  | str x => obtain ⟨t, e⟩ := (show ∃ t, v = Value.str x t from r); cases e; exact h
  | byt x => obtain ⟨t, e⟩ := (show ∃ t, v = Value.bytes x t from r); cases e; exact h
  | flt x => obtain ⟨t, e⟩ := (show ∃ t, v = Value.float x t from r); cases e; exact h
  | ref a => cases (show v = Value.ref a from r); exact h
  | ty n => cases (show v = Value.type n from r); exact h
section
variable {X : Cx} {CX : CXT} {k : Nat} {C g gl : Addr} {fd : FuncData} {ps : List Str} {sp : Sp} {E : XK}

def Ins (C : Addr) (H : Hp) (x : V) : Prop := ∃ a dx fs, x = .ref a ∧ H a = some (.ins C dx fs)
def rOwnB (C : Addr) (sp : Sp) (E : XK) : R2 := fun x y H Q => Ins C H x ∧ (Ins C H y ∨ ∃ i, y = .int i) ∧ sp [x, y] H Q E
def rOwnI (C : Addr) (sp : Sp) (E : XK) : R2 := fun x y H Q => (∃ i, x = .int i) ∧ Ins C H y ∧ sp [y, x] H Q E
def rOwnU (C : Addr) (sp : Sp) (E : XK) : V → Hp → VK → Prop := fun x H Q => Ins C H x ∧ sp [x] H Q E

theorem op_ownB {op : Operator} {rc fo ro : Option Value} (O : OwnC X.K C) (M : OwnM X.K C (PySem.dunder op.info.2) g) (hr' : PySem.W.findIn X.K (.ref C) (dunderR op.info.2) = some rc) (hp : rc = none ∨ ∃ g : Addr, rc = some (.ref g))
    (h1 : PySem.W.findIn X.K (.type "int") (PySem.dunder op.info.2) = some fo) (h2 : PySem.W.findIn X.K (.type "int") (dunderR op.info.2) = some ro)
    (F : FnOk X.prog X.w X.K X.mg X.base CX k g fd ps sp) (hr : Room k X.A) (hb : Binds X.K fd ps []) (hx : Passes CX X E) : OpR X (binaryOp op) (rOwnB C sp E) := by
  intro pins s σ H x y v u Q I rx ry h
  obtain ⟨⟨a, dx, fs, rfl, ha⟩, hy, q⟩ := h
  cases (show v = Value.ref a from rx)
  obtain ⟨mA, OM, _⟩ := ins_get I.hok ha
  obtain ⟨od, J, _⟩ := OM.look
  obtain ⟨m, hF⟩ := I.fr
  have run := run_fn (us := [.ref a, u]) (vs := [.ref a, y]) F hr hb .nil hx I (.cons rfl (.cons ry .nil)) (by simpa using q)
  have run' := wpAny_mono run (fun w s' (z : EP X pins σ Q w s') => (show PySem.W.CmpBack (EP X pins σ Q) w s' from by
    obtain ⟨z', H', I', rz, qz⟩ := z
    exact cmpback rz ⟨z', H', I', rz, qz⟩)) fun _ _ e => e
  rcases hy with ⟨b, dy, gs, rfl, hb'⟩ | ⟨i, rfl⟩
  · cases (show u = Value.ref b from ry)
    obtain ⟨mB, OM', _⟩ := ins_get I.hok hb'
    obtain ⟨od', J', _⟩ := OM'.look
    exact PySem.W.binop_K hF I.ok.mod.kin J J'.type O.first M.at_ M.fn run'
  · obtain ⟨t, rfl⟩ := ry
    exact PySem.W.ksp_binT (T := "int") hF I.ok.mod.kin J rfl O.first M.at_ M.fn hr' hp h1 h2 O.subT run'
theorem op_ownI {op : Operator} {id : String} (O : OwnC X.K C) (M : OwnM X.K C (PySem.dunder op.info.2) gl) (MR : OwnM X.K C (dunderR op.info.2) g) (slot : Slot "int" (PySem.dunder op.info.2) id) (fills : fillsNumberSlot (.type "int") op.info.2 = pure true)
    (dec : ∀ {A : Around} {E : Value → Shared → Prop} {s : Shared} {i : Int} {t : Tok} {x : Addr} {ox : Obj} (Q' : Value → Shared → Prop), s.heap.get? x = some ox → ox.data = .plain → Q' .notImplemented s → wpAny (model X.prog X.w) A (call (.builtin id) [.int i t, .ref x]) Q' E s)
    (F : FnOk X.prog X.w X.K X.mg X.base CX k g fd ps sp) (hr : Room k X.A) (hb : Binds X.K fd ps []) (hx : Passes CX X E) : OpR X (binaryOp op) (rOwnI C sp E) := by
  intro pins s σ H x y v u Q I rx ry h
  obtain ⟨⟨i, rfl⟩, ⟨b, dy, gs, rfl, hb'⟩, q⟩ := h
  obtain ⟨t, rfl⟩ := rx
  cases (show u = Value.ref b from ry)
  obtain ⟨mB, OM', _⟩ := ins_get I.hok hb'
  obtain ⟨od', J', _⟩ := OM'.look
  have run := run_fn (us := [.ref b, .int i t]) (vs := [.ref b, .int i]) F hr hb .nil hx I (.cons rfl (.cons ⟨t, rfl⟩ .nil)) (by simpa using q)
  refine binI_K I.kIn J' O.first M.at_ MR.at_ MR.fn O.subI slot fills (fun Q' q' => dec Q' J'.at_ rfl q') (wpAny_mono run (fun w s' z => ?_) fun _ _ e => e)
  obtain ⟨z', H', I', rz, qz⟩ := z
  exact cmpback rz ⟨z', H', I', rz, qz⟩
theorem un_ownNeg (M : OwnM X.K C "__neg__" g) (F : FnOk X.prog X.w X.K X.mg X.base CX k g fd ps sp) (hr : Room k X.A) (hb : Binds X.K fd ps []) (hx : Passes CX X E) : UnR X (unaryOp .USub) (rOwnU C sp E) := by
  intro pins s σ H x v Q I rx h
  obtain ⟨⟨a, dx, fs, rfl, ha⟩, q⟩ := h
  cases (show v = Value.ref a from rx)
  obtain ⟨mA, OM, _⟩ := ins_get I.hok ha
  obtain ⟨od, J, _⟩ := OM.look
  obtain ⟨m, hF⟩ := I.fr
  exact PySem.W.ksp_neg hF I.ok.mod.kin J M.at_ M.fn (run_fn (us := [.ref a]) (vs := [.ref a]) F hr hb .nil hx I (.cons rfl .nil) (by simpa using q))
theorem op_ownCmp {op : CmpOp} (hop : ∀ a b, compareOp op a b = richCompare op a b) (O : OwnC X.K C) (M : OwnM X.K C (cmpInfo op).2.1 g)
    (F : FnOk X.prog X.w X.K X.mg X.base CX k g fd ps sp) (hr : Room k X.A) (hb : Binds X.K fd ps []) (hx : Passes CX X E) : OpR X (compareOp op) (rOwnB C sp E) := by
  intro pins s σ H x y v u Q I rx ry h
  obtain ⟨⟨a, dx, fs, rfl, ha⟩, hy, q⟩ := h
  cases (show v = Value.ref a from rx)
  obtain ⟨mA, OM, _⟩ := ins_get I.hok ha
  obtain ⟨od, J, _⟩ := OM.look
  obtain ⟨m, hF⟩ := I.fr
  have run := run_fn (us := [.ref a, u]) (vs := [.ref a, y]) F hr hb .nil hx I (.cons rfl (.cons ry .nil)) (by simpa using q)
  have run' := wpAny_mono run (fun w s' (z : EP X pins σ Q w s') => (show PySem.W.CmpBack (EP X pins σ Q) w s' from by
    obtain ⟨z', H', I', rz, qz⟩ := z
    exact cmpback rz ⟨z', H', I', rz, qz⟩)) fun _ _ e => e
  rw [hop]
  rcases hy with ⟨b, dy, gs, rfl, hb'⟩ | ⟨i, rfl⟩
  · cases (show u = Value.ref b from ry)
    obtain ⟨mB, OM', _⟩ := ins_get I.hok hb'
    obtain ⟨od', J', _⟩ := OM'.look
    exact PySem.W.cmp_K (tb := .ref C) hr.units0 hF I.ok.mod.kin J J'.type (by simp [PySem.W.notFirst]) M.at_ M.fn run'
  · obtain ⟨t, rfl⟩ := ry
    exact PySem.W.cmp_K (tb := .type "int") hr.units0 hF I.ok.mod.kin J (PySem.W.Looks.of_pure rfl) (by simp [PySem.W.notFirst, O.subT]) M.at_ M.fn run'
theorem op_ownCmpI {op : CmpOp} {id : String} (hop : ∀ a b, compareOp op a b = richCompare op a b) (O : OwnC X.K C) (M : OwnM X.K C (cmpInfo op).2.2 g) (slot : Slot "int" (cmpInfo op).2.1 id)
    (dec : ∀ {A : Around} {E : Value → Shared → Prop} {s : Shared} {i : Int} {t : Tok} {x : Addr} {ox : Obj} (Q' : Value → Shared → Prop), s.heap.get? x = some ox → ox.data = .plain → Q' .notImplemented s → wpAny (model X.prog X.w) A (call (.builtin id) [.int i t, .ref x]) Q' E s)
    (F : FnOk X.prog X.w X.K X.mg X.base CX k g fd ps sp) (hr : Room k X.A) (hb : Binds X.K fd ps []) (hx : Passes CX X E) : OpR X (compareOp op) (rOwnI C sp E) := by
  intro pins s σ H x y v u Q I rx ry h
  obtain ⟨⟨i, rfl⟩, ⟨b, dy, gs, rfl, hb'⟩, q⟩ := h
  obtain ⟨t, rfl⟩ := rx
  cases (show u = Value.ref b from ry)
  obtain ⟨mB, OM', _⟩ := ins_get I.hok hb'
  obtain ⟨od', J', _⟩ := OM'.look
  have run := run_fn (us := [.ref b, .int i t]) (vs := [.ref b, .int i]) F hr hb .nil hx I (.cons rfl (.cons ⟨t, rfl⟩ .nil)) (by simpa using q)
  rw [hop]
  refine cmpI_K hr.units0 I.kIn J' M.at_ M.fn O.subI slot (fun Q' q' => dec Q' J'.at_ rfl q') (wpAny_mono run (fun w s' z => ?_) fun _ _ e => e)
  obtain ⟨z', H', I', rz, qz⟩ := z
  exact cmpback rz ⟨z', H', I', rz, qz⟩
end
end DL

set_option Elab.async false
set_option linter.all false
set_option maxRecDepth 100000
/-! Rules: each piece of the text by data. -/
namespace DL
open PySem PySem.Spec PyProof.Rows L2
abbrev OD := D → D → MS → (D → MS → Prop) → Prop
abbrev UD := D → MS → (D → MS → Prop) → Prop
abbrev LD := List D → MS → (D → MS → Prop) → Prop
def SndR (mg : MG) (r : R2) (o : OD) : Prop := ∀ A S H x y dx dy Q Q', Rep mg A S H → Is mg A H x dx → Is mg A H y dy → o dx dy S Q' → EndV mg A H Q Q' → r x y H Q
def SndU (mg : MG) (r : V → Hp → VK → Prop) (o : UD) : Prop := ∀ A S H x dx Q Q', Rep mg A S H → Is mg A H x dx → o dx S Q' → EndV mg A H Q Q' → r x H Q
def SndC (mg : MG) (r : List V → Hp → VK → Prop) (o : LD) : Prop := ∀ A S H xs ds Q Q', Rep mg A S H → IsL mg A H xs ds → o ds S Q' → EndV mg A H Q Q' → r xs H Q
def wOp (o : OD) (wa wb : WD) : WD := fun ρ S Q => wa ρ S fun x S1 => wb ρ S1 fun y S2 => o x y S2 Q
def wUn (o : UD) (wa : WD) : WD := fun ρ S Q => wa ρ S fun x S1 => o x S1 Q
def wNil : WL := fun _ S Q => Q [] S
def wCons (wa : WD) (wr : WL) : WL := fun ρ S Q => wa ρ S fun x S1 => wr ρ S1 fun xs S2 => Q (x :: xs) S2
def wCB (o : LD) (wl : WL) : WD := fun ρ S Q => wl ρ S fun xs S1 => o xs S1 Q
section
variable {mg : MG} {ta tb te : TE} {wa wb we : WD} {t : TA} {wl : WL} {r : R2} {o : OD}
theorem snd_op (hr : SndR mg r o) (ha : SndE mg ta wa) (hb : SndE mg tb wb) : SndE mg (tOp r ta tb) (wOp o wa wb) := by
  intro A S σ H ρ Q Q' R E h k
  refine ha A S σ H ρ _ _ R E h fun x S1 A1 vx H1 g1 R1 hx h1 => ?_
  refine hb A1 S1 σ H1 ρ _ _ R1 (E.mono g1) h1 fun y S2 A2 vy H2 g2 R2 hy h2 => ?_
  exact hr A2 S2 H2 vx vy x y Q Q' R2 (hx.mono g2) hy h2 (k.mono (g1.trans g2))
theorem snd_un {r : V → Hp → VK → Prop} {o : UD} (hr : SndU mg r o) (ha : SndE mg ta wa) : SndE mg (tUn r ta) (wUn o wa) := by
  intro A S σ H ρ Q Q' R E h k
  exact ha A S σ H ρ _ _ R E h fun x S1 A1 vx H1 g1 R1 hx h1 => hr A1 S1 H1 vx x Q Q' R1 hx h1 (k.mono g1)
theorem snd_nil : SndA mg tNil wNil := fun A S σ H ρ Q Q' R E h k => k [] S A [] H .refl R .nil h
theorem snd_cons (ha : SndE mg ta wa) (hr : SndA mg t wl) : SndA mg (tCons ta t) (wCons wa wl) := by
  intro A S σ H ρ Q Q' R E h k
  refine ha A S σ H ρ _ _ R E h fun x S1 A1 vx H1 g1 R1 hx h1 => ?_
  refine hr A1 S1 σ H1 ρ _ _ R1 (E.mono g1) h1 fun xs S2 A2 vxs H2 g2 R2 hxs h2 => ?_
  exact k (x :: xs) S2 A2 (vx :: vxs) H2 (g1.trans g2) R2 (.cons (hx.mono g2) hxs) h2
theorem snd_cb {r : List V → Hp → VK → Prop} {o : LD} (hr : SndC mg r o) (hl : SndA mg t wl) : SndE mg (tCB r t) (wCB o wl) := by
  intro A S σ H ρ Q Q' R E h k
  exact hl A S σ H ρ _ _ R E h fun xs S1 A1 vxs H1 g1 R1 hxs h1 => hr A1 S1 H1 vxs xs Q Q' R1 hxs h1 (k.mono g1)
theorem SndR.or {r' : R2} {o' : OD} (h : SndR mg r o) (h' : SndR mg r' o') : SndR mg (fun x y H Q => r x y H Q ∨ r' x y H Q) (fun x y S Q => o x y S Q ∨ o' x y S Q) := by
  intro A S H x y dx dy Q Q' R hx hy q k
  rcases q with q | q
  · exact .inl (h A S H x y dx dy Q Q' R hx hy q k)
  · exact .inr (h' A S H x y dx dy Q Q' R hx hy q k)
/-- a reading by data may be weakened -/
theorem SndR.imp {o' : OD} (h : SndR mg r o) (i : ∀ x y S Q, o' x y S Q → o x y S Q) : SndR mg r o' := fun A S H x y dx dy Q Q' R hx hy q k => h A S H x y dx dy Q Q' R hx hy (i _ _ _ _ q) k
end
/-! ### ints -/
def oI (C : Int → Int → Prop) (g : Int → Int → D) : OD := fun x y S Q => match x, y with
  | .int i, .int j => C i j ∧ Q (g i j) S
  | _, _ => False
def oI0 (g : Int → Int → D) : OD := fun x y S Q => match x, y with
  | .int i, .int j => Q (g i j) S
  | _, _ => False
def oU (g : Int → D) : UD := fun x S Q => match x with
  | .int i => Q (g i) S
  | _ => False
section
variable {mg : MG}
theorem snd_rI {C : Int → Int → Prop} {g : Int → Int → V} {g' : Int → Int → D} (hg : ∀ i j A H, Is mg A H (g i j) (g' i j)) : SndR mg (rI C g) (oI C g') := by
  intro A S H x y dx dy Q Q' R hx hy q k
  cases hx <;> cases hy <;> first | exact q.elim | skip
  exact ⟨_, _, rfl, rfl, q.1, k _ S A _ H .refl R (hg _ _ _ _) q.2⟩
theorem snd_rI0 {g : Int → Int → V} {g' : Int → Int → D} (hg : ∀ i j A H, Is mg A H (g i j) (g' i j)) : SndR mg (rI0 g) (oI0 g') := by
  intro A S H x y dx dy Q Q' R hx hy q k
  cases hx <;> cases hy <;> first | exact q.elim | skip
  exact ⟨_, _, rfl, rfl, k _ S A _ H .refl R (hg _ _ _ _) q⟩
theorem snd_rU {g : Int → V} {g' : Int → D} (hg : ∀ i A H, Is mg A H (g i) (g' i)) : SndU mg (rU g) (oU g') := by
  intro A S H x dx Q Q' R hx q k
  cases hx <;> first | exact q.elim | skip
  exact ⟨_, rfl, k _ S A _ H .refl R (hg _ _ _) q⟩
/-- // and % by any number but 0 -/
def CDivWN (_ j : Int) : Prop := j ≠ 0 ∧ j.natAbs.log2 < 9000
theorem op_fdivWN {X : Cx} : OpR X (binaryOp .FloorDiv) (rI CDivWN fun i j => .int (i.fdiv j)) := opI fun _ _ _ _ _ _ _ hc q => floordiv_int hc.1 q (.inl (PyProof.noPylong_of_log2 hc.2))
end
section
variable {X : Cx} {a b c : Expr} {ta tb tc : TE} {wa wb wc : WD} {pos : Pos}
theorem d_op {op : Operator} {r : R2} {o : OD} (ho : OpR X (binaryOp op) r) (hs : SndR X.G r o) (ha : PD X a ta wa) (hb : PD X b tb wb) : PD X (.BinOp a op b pos) (tOp r ta tb) (wOp o wa wb) := ⟨pe_op ho ha.pe hb.pe, snd_op hs ha.sd hb.sd⟩
theorem d_un {op : UnaryOp} {r : V → Hp → VK → Prop} {o : UD} (ho : UnR X (unaryOp op) r) (hs : SndU X.G r o) (ha : PD X a ta wa) : PD X (.UnaryOp op a pos) (tUn r ta) (wUn o wa) := ⟨pe_un ho ha.pe, snd_un hs ha.sd⟩
theorem d_cmp {op : CmpOp} {r : R2} {o : OD} (ho : OpR X (compareOp op) r) (hs : SndR X.G r o) (ha : PD X a ta wa) (hb : PD X b tb wb) (hm : behindInMarks op b = false) : PD X (.Compare a [op] [b] pos) (tOp r ta tb) (wOp o wa wb) :=
  ⟨pe_cmpR ho ha.pe hb.pe hm, snd_op hs ha.sd hb.sd⟩
/-- a value that is a truth value, as a test -/
def wTest (w : WD) : WB := fun ρ S Q => w ρ S fun x S1 => match x with
  | .bl k => Q k S1
  | _ => False
theorem snd_test {mg : MG} {t : TE} {w : WD} (h : SndE mg t w) : SndT mg (tTest t) (wTest w) := by
  intro A S σ H ρ Q Q' R E hw k
  refine h A S σ H ρ _ _ R E hw fun x S1 A1 vx H1 g1 R1 hx h1 => ?_
  cases hx <;> first | exact h1.elim | skip
  exact ⟨_, rfl, k _ S1 A1 H1 g1 R1 h1⟩
theorem dt_cmp {op : CmpOp} {r : R2} {o : OD} (ho : OpR X (compareOp op) r) (hs : SndR X.G r o) (ha : PD X a ta wa) (hb : PD X b tb wb) (hm : behindInMarks op b = false) : PDT X (.Compare a [op] [b] pos) (tTest (tOp r ta tb)) (wTest (wOp o wa wb)) :=
  ⟨pt_cmpR ho ha.pe hb.pe hm, snd_test (snd_op hs ha.sd hb.sd)⟩
theorem dt_val {e : Expr} {t : TE} {w : WD} (h : PD X e t w) (he : ∀ whole, isTrue e X.env whole = (do let v ← whole; standAt e.pos; holding [v] (truthy v)) := by intro _; rfl) : PDT X e (tB t) (wTest w) := ⟨pt_val h.pe he, snd_test h.sd⟩
/-- a op b op' c -/
def wChain (o o' : OD) (wa wb wc : WD) : WD := fun ρ S Q => wa ρ S fun x S1 => wb ρ S1 fun y S2 => o x y S2 fun z S3 => match z with
  | .bl k => if k = true then wc ρ S3 fun w' S4 => o' y w' S4 Q else Q (.bl false) S3
  | _ => False
theorem snd_chain {mg : MG} {r r' : R2} {o o' : OD} (hr : SndR mg r o) (hr' : SndR mg r' o') (ha : SndE mg ta wa) (hb : SndE mg tb wb) (hc : SndE mg tc wc) : SndE mg (tChain r r' ta tb tc) (wChain o o' wa wb wc) := by
  intro A S σ H ρ Q Q' R E h k
  refine ha A S σ H ρ _ _ R E h fun x S1 A1 vx H1 g1 R1 hx h1 => ?_
  refine hb A1 S1 σ H1 ρ _ _ R1 (E.mono g1) h1 fun y S2 A2 vy H2 g2 R2 hy h2 => ?_
  refine hr A2 S2 H2 vx vy x y _ _ R2 (hx.mono g2) hy h2 fun z S3 A3 vz H3 g3 R3 hz h3 => ?_
  cases hz <;> first | exact h3.elim | skip
  rename_i kb
  refine ⟨kb, rfl, ?_⟩
  cases kb with
  | false =>
    exact iteF (k _ S3 A3 _ H3 (g1.trans (g2.trans g3)) R3 (.bl false) (by simpa using h3))
  | true =>
    refine iteT ?_
    have h3 : wc ρ S3 (fun w' S4 => o' y w' S4 Q') := by simpa using h3
    refine hc A3 S3 σ H3 ρ _ _ R3 (E.mono (g1.trans (g2.trans g3))) h3 fun w' S4 A4 vw H4 g4 R4 hw h4 => ?_
    exact hr' A4 S4 H4 vy vw y w' Q Q' R4 (hy.mono (g3.trans g4)) hw h4 (k.mono (g1.trans (g2.trans (g3.trans g4))))
theorem d_chain {op op' : CmpOp} {r r' : R2} {o o' : OD} (ho : OpR X (compareOp op) r) (hs : SndR X.G r o) (ho' : OpR X (compareOp op') r') (hs' : SndR X.G r' o') (ha : PD X a ta wa) (hb : PD X b tb wb) (hc : PD X c tc wc)
    (hm : lastMarks [op, op'] [b, c] = false := by with_unfolding_all rfl) : PD X (.Compare a [op, op'] [b, c] pos) (tChain r r' ta tb tc) (wChain o o' wa wb wc) := ⟨pe_chain ho ho' ha.pe hb.pe hc.pe hm, snd_chain hs hs' ha.sd hb.sd hc.sd⟩
theorem dt_chain {op op' : CmpOp} {r r' : R2} {o o' : OD} (ho : OpR X (compareOp op) r) (hs : SndR X.G r o) (ho' : OpR X (compareOp op') r') (hs' : SndR X.G r' o') (ha : PD X a ta wa) (hb : PD X b tb wb) (hc : PD X c tc wc)
    (hm : lastMarks [op, op'] [b, c] = false := by with_unfolding_all rfl) : PDT X (.Compare a [op, op'] [b, c] pos) (tTest (tChain r r' ta tb tc)) (wTest (wChain o o' wa wb wc)) := ⟨pt_chain ho ho' ha.pe hb.pe hc.pe hm, snd_test (snd_chain hs hs' ha.sd hb.sd hc.sd)⟩
/-! ### and, or, not -/
variable {tA tB' : TT} {wA wB : WB} {rest : List Expr}
def wAnd (t u : WB) : WB := fun ρ S Q => t ρ S fun c S1 => if c = true then u ρ S1 Q else Q false S1
def wOr (t u : WB) : WB := fun ρ S Q => t ρ S fun c S1 => if c = true then Q true S1 else u ρ S1 Q
def wNot (t : WB) : WB := fun ρ S Q => t ρ S fun c S1 => Q (!c) S1
theorem dw_and1 (ha : PDT X a tA wA) : PDW X (.BoolOp .And [a] pos) tA wA := ⟨pw_and1 ha.pe, ha.sd⟩
theorem dw_or1 (ha : PDT X a tA wA) : PDW X (.BoolOp .Or [a] pos) tA wA := ⟨pw_or1 ha.pe, ha.sd⟩
theorem dw_and (ha : PDT X a tA wA) (hb : PDW X (.BoolOp .And (b :: rest) pos) tB' wB) : PDW X (.BoolOp .And (a :: b :: rest) pos) (tAnd tA tB') (wAnd wA wB) := by
  refine ⟨pw_and ha.pe hb.pe, fun A S σ H ρ Q Q' R E h k => ?_⟩
  refine ha.sd A S σ H ρ _ _ R E h fun c S1 A1 H1 g1 R1 h1 => ?_
  cases c with
  | true => exact iteT (hb.sd A1 S1 σ H1 ρ _ _ R1 (E.mono g1) (by rw [if_pos rfl] at h1; exact h1) (k.mono g1))
  | false => exact iteF (k _ S1 A1 H1 g1 R1 (by rw [if_neg Bool.false_ne_true] at h1; exact h1))
theorem dw_or (ha : PDT X a tA wA) (hb : PDW X (.BoolOp .Or (b :: rest) pos) tB' wB) : PDW X (.BoolOp .Or (a :: b :: rest) pos) (tOr tA tB') (wOr wA wB) := by
  refine ⟨pw_or ha.pe hb.pe, fun A S σ H ρ Q Q' R E h k => ?_⟩
  refine ha.sd A S σ H ρ _ _ R E h fun c S1 A1 H1 g1 R1 h1 => ?_
  cases c with
  | true => exact iteT (k _ S1 A1 H1 g1 R1 (by rw [if_pos rfl] at h1; exact h1))
  | false => exact iteF (hb.sd A1 S1 σ H1 ρ _ _ R1 (E.mono g1) (by rw [if_neg Bool.false_ne_true] at h1; exact h1) (k.mono g1))
theorem PDW.pt {e : Expr} (h : PDW X e tA wA) : PDT X e tA wA := ⟨h.pe.pt, h.sd⟩
theorem dt_not (ha : PDT X a tA wA) : PDT X (.UnaryOp .Not a pos) (tNot tA) (wNot wA) := ⟨pt_not ha.pe, fun A S σ H ρ Q Q' R E h k => ha.sd A S σ H ρ _ _ R E h fun c S1 A1 H1 g1 R1 h1 => k _ S1 A1 H1 g1 R1 h1⟩
def wAndV (wa wb : WD) : WD := fun ρ S Q => wa ρ S fun x S1 => match x with
  | .bl c => if c = true then wb ρ S1 Q else Q (.bl false) S1
  | _ => False
def wOrV (wa wb : WD) : WD := fun ρ S Q => wa ρ S fun x S1 => match x with
  | .bl c => if c = true then Q (.bl true) S1 else wb ρ S1 Q
  | _ => False
def wNotV (wa : WD) : WD := fun ρ S Q => wa ρ S fun x S1 => match x with
  | .bl c => Q (.bl (!c)) S1
  | _ => False
theorem d_one {op} {t : TE} {w : WD} (h : PD X a t w) : PD X (.BoolOp op [a] pos) t w := ⟨pe_one h.pe, h.sd⟩
theorem d_and (ha : PD X a ta wa) (hb : PD X (.BoolOp .And (b :: rest) pos) tb wb) : PD X (.BoolOp .And (a :: b :: rest) pos) (tAndV ta tb) (wAndV wa wb) := by
  refine ⟨pe_and ha.pe hb.pe, fun A S σ H ρ Q Q' R E h k => ?_⟩
  refine ha.sd A S σ H ρ _ _ R E h fun x S1 A1 vx H1 g1 R1 hx h1 => ?_
  cases hx <;> first | exact h1.elim | skip
  rename_i c
  refine ⟨c, rfl, ?_⟩
  cases c with
  | true => exact iteT (hb.sd A1 S1 σ H1 ρ _ _ R1 (E.mono g1) (by simpa using h1) (k.mono g1))
  | false => exact iteF (k _ S1 A1 _ H1 g1 R1 (.bl false) (by simpa using h1))
theorem d_or (ha : PD X a ta wa) (hb : PD X (.BoolOp .Or (b :: rest) pos) tb wb) : PD X (.BoolOp .Or (a :: b :: rest) pos) (tOrV ta tb) (wOrV wa wb) := by
  refine ⟨pe_or ha.pe hb.pe, fun A S σ H ρ Q Q' R E h k => ?_⟩
  refine ha.sd A S σ H ρ _ _ R E h fun x S1 A1 vx H1 g1 R1 hx h1 => ?_
  cases hx <;> first | exact h1.elim | skip
  rename_i c
  refine ⟨c, rfl, ?_⟩
  cases c with
  | true => exact iteT (k _ S1 A1 _ H1 g1 R1 (.bl true) (by simpa using h1))
  | false => exact iteF (hb.sd A1 S1 σ H1 ρ _ _ R1 (E.mono g1) (by simpa using h1) (k.mono g1))
theorem d_not (ha : PD X a ta wa) : PD X (.UnaryOp .Not a pos) (tNotV ta) (wNotV wa) := by
  refine ⟨pe_not ha.pe, fun A S σ H ρ Q Q' R E h k => ?_⟩
  refine ha.sd A S σ H ρ _ _ R E h fun x S1 A1 vx H1 g1 R1 hx h1 => ?_
  cases hx <;> first | exact h1.elim | skip
  exact ⟨_, rfl, k _ S1 A1 _ H1 g1 R1 (.bl _) h1⟩
def wIf (t : WB) (wa wb : WD) : WD := fun ρ S Q => t ρ S fun c S1 => if c = true then wa ρ S1 Q else wb ρ S1 Q
theorem d_if {c : Expr} (hc : PDT X c tA wA) (ha : PD X a ta wa) (hb : PD X b tb wb) : PD X (.IfExp c a b pos) (tIf tA ta tb) (wIf wA wa wb) := by
  refine ⟨pe_ifExp hc.pe ha.pe hb.pe, fun A S σ H ρ Q Q' R E h k => ?_⟩
  refine hc.sd A S σ H ρ _ _ R E h fun c S1 A1 H1 g1 R1 h1 => ?_
  cases c with
  | true => exact iteT (ha.sd A1 S1 σ H1 ρ _ _ R1 (E.mono g1) (by rw [if_pos rfl] at h1; exact h1) (k.mono g1))
  | false => exact iteF (hb.sd A1 S1 σ H1 ρ _ _ R1 (E.mono g1) (by rw [if_neg Bool.false_ne_true] at h1; exact h1) (k.mono g1))
end
/-! ### displays -/
section
variable {X : Cx} {e : Expr} {es : List Expr} {te : TE} {we : WD} {t : TA} {wl : WL} {pos : Pos}
theorem da_nil : PDA X [] tNil wNil := ⟨pa_nil, snd_nil⟩
theorem da_cons (ha : PD X e te we) (hr : PDA X es t wl) (hs : starEach (e :: es) X.env = (false, eval e X.env) :: starEach es X.env := by rfl) : PDA X (e :: es) (tCons te t) (wCons we wl) := ⟨pa_cons ha.pe hr.pe hs, snd_cons ha.sd hr.sd⟩
def wTup (wl : WL) : WD := fun ρ S Q => wl ρ S fun xs S1 => xs.length ≤ sizeLine ∧ Q (.tup xs) S1
def wLst (wl : WL) : WD := fun ρ S Q => wl ρ S fun xs S1 => xs.length ≤ sizeLine ∧ Q (.lst xs) S1
/-- a list that may change -/
def wLstM (wl : WL) : WD := fun ρ S Q => wl ρ S fun xs S1 => xs.length ≤ sizeLine ∧ Q (.mut S1.length) (S1 ++ [xs])
theorem d_tup {x1} (h : PDA X es t wl) : PD X (.Tuple es x1 pos) (tTup t) (wTup wl) := by
  refine ⟨pe_tup h.pe, fun A S σ H ρ Q Q' R E hw k => ?_⟩
  refine h.sd A S σ H ρ _ _ R E hw fun xs S1 A1 vxs H1 g1 R1 hxs h1 => ⟨by rw [hxs.length]; exact h1.1, fun p hp => ?_⟩
  have g := grow_new (o := .tup vxs) R1 hp
  exact k _ S1 A1 _ _ (g1.trans g) (R1.new hp) (.tup (R1.fresh hp) (.inl upd_same) (hxs.mono g)) h1.2
theorem d_lst (h : PDA X es t wl) : PD X (.List es pos) (tLst t) (wLst wl) := by
  refine ⟨pe_lst h.pe, fun A S σ H ρ Q Q' R E hw k => ?_⟩
  refine h.sd A S σ H ρ _ _ R E hw fun xs S1 A1 vxs H1 g1 R1 hxs h1 => ⟨by rw [hxs.length]; exact h1.1, fun p hp => ?_⟩
  have g := grow_new (o := .lst vxs) R1 hp
  exact k _ S1 A1 _ _ (g1.trans g) (R1.new hp) (.lst (R1.fresh hp) upd_same (hxs.mono g)) h1.2
theorem d_lstM (h : PDA X es t wl) : PD X (.List es pos) (tLst t) (wLstM wl) := by
  refine ⟨pe_lst h.pe, fun A S σ H ρ Q Q' R E hw k => ?_⟩
  refine h.sd A S σ H ρ _ _ R E hw fun xs S1 A1 vxs H1 g1 R1 hxs h1 => ⟨by rw [hxs.length]; exact h1.1, fun p hp => ?_⟩
  refine k _ _ (A1 ++ [p]) _ _ (g1.trans (grow_mut R1 hp)) (R1.newMut hp hxs) (.mut ?_) h1.2
  rw [← R1.len, List.getElem?_append_right (Nat.le_refl _), Nat.sub_self]
  rfl
end
end DL

set_option Elab.async false
set_option linter.all false
set_option maxRecDepth 100000
/-! Rules: subscripts, targets, statements, loops, comprehensions, calls. -/
namespace DL
open PySem PySem.Spec PyProof.Rows L2
/-! ### subscripts -/
def oIx : OD := fun x y S Q => match x, y with
  | .lst ds, .int i => match atI ds i with | some d => Q d S | none => False
  | .scr ds, .int i => match atI ds i with | some d => Q d S | none => False
  | .tup ds, .int i => match atI ds i with | some d => Q d S | none => False
  | .mut m, .int i => match S[m]? with | some ds => (match atI ds i with | some d => Q d S | none => False) | none => False
  | .str z, .int i => z.length ≤ sizeLine ∧ ∃ c, atI z.cps.toList i = some c ∧ Q (.str ⟨#[c]⟩) S
  | _, _ => False
section
variable {mg : MG} {A : List Addr} {S : MS} {H : Hp}
theorem IsL.atI {vs : List V} {ds : List D} {i : Int} {d : D} (l : IsL mg A H vs ds) (e : L2.atI ds i = some d) : ∃ v, L2.atI vs i = some v ∧ Is mg A H v d := by
  unfold L2.atI at e ⊢
  rw [l.length]
  cases q : ixN ds.length i with
  | none => rw [q] at e; cases e
  | some j =>
    rw [q] at e
    exact l.get e
theorem snd_ix : SndR mg (rIx mg.K) oIx := by
  intro A S H x y dx dy Q Q' R hx hy q k
  cases hy with
  | int i =>
    cases hx with
    | str z =>
      obtain ⟨hz, c, e, q⟩ := q
      exact .inr (.inr ⟨_, _, c, rfl, rfl, hz, e, k _ S A _ H .refl R (.str _) q⟩)
    | @tup a vs ds n r l =>
      unfold oIx at q
      dsimp only at q
      split at q
      · rename_i d e
        obtain ⟨v, e', hv⟩ := l.atI e
        exact .inr (.inl ⟨a, vs, i, v, rfl, rfl, .inl r, e', k d S A v H .refl R hv q⟩)
      · exact q.elim
    | @lst a vs ds n r l =>
      unfold oIx at q
      dsimp only at q
      split at q
      · rename_i d e
        obtain ⟨v, e', hv⟩ := l.atI e
        exact .inl ⟨a, vs, i, v, rfl, rfl, .of r, e', k d S A v H .refl R hv q⟩
      · exact q.elim
    | @scr a vs ds n r l =>
      unfold oIx at q
      dsimp only at q
      split at q
      · rename_i d e
        obtain ⟨v, e', hv⟩ := l.atI e
        exact .inl ⟨a, vs, i, v, rfl, rfl, .inl r, e', k d S A v H .refl R hv q⟩
      · exact q.elim
    | @scrK a vs ds r l =>
      unfold oIx at q
      dsimp only at q
      split at q
      · rename_i d e
        obtain ⟨v, e', hv⟩ := l.atI e
        exact .inl ⟨a, vs, i, v, rfl, rfl, r H, e', k d S A v H .refl R hv q⟩
      · exact q.elim
    | @«mut» a m ea =>
      unfold oIx at q
      dsimp only at q
      split at q
      · rename_i ds es
        split at q
        · rename_i d e
          obtain ⟨vs, h1, l⟩ := R.at_ m a ds ea es
          obtain ⟨v, e', hv⟩ := l.atI e
          exact .inl ⟨a, vs, i, v, rfl, rfl, .of h1, e', k d S A v H .refl R hv q⟩
        · exact q.elim
      · exact q.elim
    | _ => exact q.elim
  | _ => cases hx <;> exact q.elim
end
theorem d_ix {X : Cx} {a b : Expr} {ta tb : TE} {wa wb : WD} {pos : Pos} (ha : PD X a ta wa) (hb : PD X b tb wb) (hs : PlainIx b := by intro _ _; rfl) : PD X (.Subscript a b pos) (tOp (rIx X.G.K) ta tb) (wOp oIx wa wb) := ⟨pe_ix ix_seq ha.pe hb.pe hs, snd_op snd_ix ha.sd hb.sd⟩

/-! ### targets -/
abbrev WG := D → DEnv → MS → (DEnv → MS → Prop) → Prop
abbrev WGs := List D → DEnv → MS → (DEnv → MS → Prop) → Prop
def SndG (mg : MG) (g : TG) (w : WG) : Prop := ∀ A S σ H ρ v d Q Q', Rep mg A S H → EnvD mg A H σ ρ → Is mg A H v d → w d ρ S Q' → EndN mg A H Q Q' → g v σ H Q
def SndGs (mg : MG) (g : TGs) (w : WGs) : Prop := ∀ A S σ H ρ vs ds Q Q', Rep mg A S H → EnvD mg A H σ ρ → IsL mg A H vs ds → w ds ρ S Q' → EndN mg A H Q Q' → g vs σ H Q
structure PDG (X : Cx) (e : Expr) (t : TG) (w : WG) : Prop where
  pe : PG X e t
  sd : SndG X.G t w
structure PDGs (X : Cx) (es : List Expr) (t : TGs) (w : WGs) : Prop where
  pe : PGs X es t
  sd : SndGs X.G t w
def gwName (i : Nat) : WG := fun d ρ S Q => Q (ρ.set i (some d)) S
def gwNil : WGs := fun ds ρ S Q => match ds with
  | [] => Q ρ S
  | _ => False
def gwCons (w : WG) (r : WGs) : WGs := fun ds ρ S Q => match ds with
  | d :: ds => w d ρ S fun ρ1 S1 => r ds ρ1 S1 Q
  | [] => False
def gwTup (n : Nat) (ws : WGs) : WG := fun d ρ S Q => match d with
  | .tup ds => ds.length = n ∧ ws ds ρ S Q
  | _ => False
def gwSub (wo wi : WD) : WG := fun d ρ S Q => wo ρ S fun o S1 => wi ρ S1 fun i S2 => match o, i with
  | .mut m, .int k => ∃ ds j, S2[m]? = some ds ∧ ixN ds.length k = some j ∧ Q ρ (S2.set m (ds.set j d))
  | _, _ => False
section
variable {X : Cx} {pos : Pos}
theorem sndg_name {mg : MG} {i : Nat} : SndG mg (gName i) (gwName i) := fun A S σ H ρ v d Q Q' R E hv q k => k _ S A _ H .refl R (E.set i hv) q
theorem dg_name {i : Nat} {x : Str} (hN : X.N.Nodup) (hi : X.N[i]? = some x := by rfl) (hx : Loc X.env.scope x := by first | exact Or.inl rfl | exact Or.inr rfl) (hf : X.fn x = true ∨ X.env.scope.names.lookup x = some .local := by first | exact .inl rfl | exact .inr rfl) : PDG X (.Name x pos) (gName i) (gwName i) :=
  ⟨pg_name hN hi hx hf, sndg_name⟩
theorem dgs_nil : PDGs X [] gNil gwNil := ⟨pgs_nil, fun A S σ H ρ vs ds Q Q' R E hv q k => by
  cases hv with
  | nil => exact ⟨rfl, k _ S A _ H .refl R E q⟩
  | cons _ _ => exact q.elim⟩
theorem dgs_cons {e : Expr} {es : List Expr} {t : TG} {u : TGs} {w : WG} {ws : WGs} (h1 : PDG X e t w) (h2 : PDGs X es u ws)
    (hs : (assignEach (e :: es) X.env).map (·.2) = assign e X.env :: (assignEach es X.env).map (·.2) := by rfl) : PDGs X (e :: es) (gCons t u) (gwCons w ws) := by
  refine ⟨pgs_cons h1.pe h2.pe hs, fun A S σ H ρ vs ds Q Q' R E hv q k => ?_⟩
  cases hv with
  | nil => exact q.elim
  | cons hv tv =>
    refine ⟨_, _, rfl, h1.sd A S σ H ρ _ _ _ _ R E hv q fun ρ1 S1 A1 σ1 H1 g1 R1 E1 q1 => ?_⟩
    exact h2.sd A1 S1 σ1 H1 ρ1 _ _ _ _ R1 E1 (tv.mono g1) q1 (k.mono g1)
theorem dg_tup {es : List Expr} {n0 : Nat} {t : TGs} {ws : WGs} {n : Nat} (hc : X.calm = true) (h : PDGs X es t ws)
    (hn : (assignEach es X.env).length = n := by rfl) (hst : (assignEach es X.env).findIdx? (·.1) = none := by rfl) : PDG X (.Tuple es n0 pos) (gTup X.K n t) (gwTup n ws) := by
  refine ⟨pg_tup hc h.pe hn hst, fun A S σ H ρ v d Q Q' R E hv q k => ?_⟩
  cases hv <;> first | exact q.elim | skip
  rename_i a vs ds na r l
  exact ⟨a, vs, rfl, .inl r, by rw [l.length]; exact q.1, h.sd A S σ H ρ _ _ _ _ R E l q.2 k⟩
theorem dg_sub {o i : Expr} {to ti : TE} {wo wi : WD} (ho : PD X o to wo) (hi : PD X i ti wi)
    (ha : ∀ v, assign (.Subscript o i pos) X.env v = (do
      let ov ← holding [v] (eval o X.env)
      let iv ← holding [v, ov] (eval i X.env)
      standAt pos
      holding [v, ov, iv] (setItem ov iv v)
      release [v, ov, iv] []) := by intro _; rfl) : PDG X (.Subscript o i pos) (gSub to ti rSetL) (gwSub wo wi) := by
  refine ⟨pg_sub ho.pe hi.pe set_list ha, fun A S σ H ρ v d Q Q' R E hv q k => ?_⟩
  refine ho.sd A S σ H ρ _ _ R E q fun o S1 A1 vo H1 g1 R1 hoo q1 => ?_
  refine hi.sd A1 S1 σ H1 ρ _ _ R1 (E.mono g1) q1 fun i S2 A2 vi H2 g2 R2 hi2 q2 => ?_
  have ho2 := hoo.mono g2
  cases ho2 <;> cases hi2 <;> first | exact q2.elim | skip
  rename_i a m ea i
  obtain ⟨ds, j, e1, e2, q2⟩ := q2
  obtain ⟨vs, h1, l⟩ := R2.at_ m a ds ea e1
  have l2 : IsL X.G A2 H2 (vs.set j v) (ds.set j d) := l.set (hv.mono (g1.trans g2)) j
  refine ⟨a, vs, i, j, rfl, rfl, h1, by rw [l.length]; exact e2, ?_⟩
  have g3 : Grow A A2 H (upd H2 a (.lst (vs.set j v))) := (g1.trans g2).trans (grow_write ea)
  exact k ρ _ A2 σ _ g3 (R2.write ea l2) (E.mono g3) q2
end

/-! ### statements -/
def sNext : WS := fun DD ρ S => DD.nx ρ S
def sSeq (t u : WS) : WS := fun DD ρ S => t { DD with nx := u DD } ρ S
def sBreak : WS := fun DD ρ S => DD.bk ρ S
def sCont : WS := fun DD ρ S => DD.ct ρ S
def sDrop (w : WD) : WS := fun DD ρ S => w ρ S fun _ S1 => DD.nx ρ S1
def sRet (w : WD) : WS := fun DD ρ S => w ρ S DD.rt
def sRetN : WS := fun DD _ S => DD.rt .non S
def sIf (c : WB) (t u : WS) : WS := fun DD ρ S => c ρ S fun b S1 => if b = true then t DD ρ S1 else u DD ρ S1
def sNever : WS := fun _ _ _ => False
def sAsg (w : WD) (g : WG) : WS := fun DD ρ S => w ρ S fun x S1 => g x ρ S1 DD.nx
def sPar (i j : Nat) (wl : WL) : WS := fun DD ρ S => wl ρ S fun ds S1 => match ds with
  | [d, e] => DD.nx ((ρ.set i (some d)).set j (some e)) S1
  | _ => False
def sWhile (c : WB) (b : WS) : WS := fun DD ρ S => ∃ W : Nat → DEnv → MS → Prop, (∃ m, W m ρ S) ∧ ∀ m ρ S, W m ρ S →
  c ρ S fun bl S1 => if bl = true then b { DD with nx := fun ρ' S' => ∃ m', m' < m ∧ W m' ρ' S', ct := fun ρ' S' => ∃ m', m' < m ∧ W m' ρ' S', bk := DD.nx } ρ S1 else DD.nx ρ S1
section
variable {X : Cx} {st : Stmt} {rest : List Stmt} {t u : TS} {w w' : WS} {e : Expr} {te : TE} {we : WD} {pos : Pos}
theorem dss_nil : PDSs X [] tNext sNext := ⟨pss_nil, fun A S σ H ρ D D' R E h k => k.nx ρ S A σ H .refl R E h⟩
theorem dss_cons (h1 : PDS X st t w) (h2 : PDSs X rest u w') : PDSs X (st :: rest) (tSeq t u) (sSeq w w') := by
  refine ⟨pss_cons h1.pe h2.pe, fun A S σ H ρ D D' R E h k => ?_⟩
  refine h1.sd A S σ H ρ _ _ R E h ⟨fun ρ1 S1 A1 σ1 H1 g1 R1 E1 q1 => ?_, k.rt, k.bk, k.ct⟩
  exact h2.sd A1 S1 σ1 H1 ρ1 D D' R1 E1 q1 (k.mono g1)
theorem dss_one (h1 : PDS X st t w) : PDSs X [st] t w := ⟨pss_one h1.pe, h1.sd⟩
theorem ds_pass : PDS X (.Pass pos) tNext sNext := ⟨ps_pass, fun A S σ H ρ D D' R E h k => k.nx ρ S A σ H .refl R E h⟩
theorem ds_break : PDS X (.Break pos) tBreak sBreak := ⟨ps_break, fun A S σ H ρ D D' R E h k => k.bk ρ S A σ H .refl R E h⟩
theorem ds_cont : PDS X (.Continue pos) tCont sCont := ⟨ps_continue, fun A S σ H ρ D D' R E h k => k.ct ρ S A σ H .refl R E h⟩
theorem ds_expr (he : PD X e te we) (hs : swapsWith e none pos.line X.env = pure false := by rfl) : PDS X (.Expr e pos) (tDrop te) (sDrop we) :=
  ⟨ps_expr he.pe hs, fun A S σ H ρ D D' R E h k => he.sd A S σ H ρ _ _ R E h fun d S1 A1 v H1 g1 R1 _ q1 => k.nx ρ S1 A1 σ H1 g1 R1 (E.mono g1) q1⟩
theorem ds_ret (he : PD X e te we) : PDS X (.Return (some e) pos) (tRet te) (sRet we) := ⟨ps_ret he.pe, fun A S σ H ρ D D' R E h k => he.sd A S σ H ρ _ _ R E h k.rt⟩
theorem ds_retN : PDS X (.Return none pos) tRetN sRetN := ⟨ps_retN, fun A S σ H ρ D D' R E h k => k.rt .non S A .non H .refl R .non h⟩
theorem ds_if {c : Expr} {a b : List Stmt} {tc : TT} {wc : WB} (hc : PDT X c tc wc) (ha : PDSs X a t w) (hb : PDSs X b u w') : PDS X (.If c a b pos) (tIfS tc t u) (sIf wc w w') := by
  refine ⟨ps_if hc.pe ha.pe hb.pe, fun A S σ H ρ D D' R E h k => ?_⟩
  refine hc.sd A S σ H ρ _ _ R E h fun b S1 A1 H1 g1 R1 q1 => ?_
  cases b with
  | true => exact iteT (ha.sd A1 S1 σ H1 ρ D D' R1 (E.mono g1) (by rw [if_pos rfl] at q1; exact q1) (k.mono g1))
  | false => exact iteF (hb.sd A1 S1 σ H1 ρ D D' R1 (E.mono g1) (by rw [if_neg Bool.false_ne_true] at q1; exact q1) (k.mono g1))
theorem ds_never : PDS X st tNever sNever := ⟨ps_never, fun _ _ _ _ _ _ _ _ _ h _ => h.elim⟩
theorem dss_never {sts : List Stmt} : PDSs X sts tNever sNever := ⟨pss_never, fun _ _ _ _ _ _ _ _ _ h _ => h.elim⟩
theorem ds_asg {tg : Expr} {g : TG} {wg : WG} (he : PD X e te we) (hg : PDG X tg g wg) (hs : swapsWithSole [tg] e pos.line X.env = pure false := by rfl) (hw : swappedStores [tg] e X.env = pure none := by rfl)
    (h1 : (assignEach [tg] X.env).map (·.2) = [assign tg X.env] := by rfl) : PDS X (.Assign [tg] e pos) (tAsg te g) (sAsg we wg) := by
  refine ⟨ps_asg he.pe hg.pe hs hw h1, fun A S σ H ρ D D' R E h k => ?_⟩
  exact he.sd A S σ H ρ _ _ R E h fun d S1 A1 v H1 g1 R1 hv q1 => hg.sd A1 S1 σ H1 ρ v d _ _ R1 (E.mono g1) hv q1 (k.nx.mono g1)
theorem ds_set {i : Nat} {x : Str} {pos' : Pos} (hN : X.N.Nodup) (he : PD X e te we) (hi : X.N[i]? = some x := by rfl) (hx : Loc X.env.scope x := by first | exact Or.inl rfl | exact Or.inr rfl) (hs : swapsWith e (some (.Name x pos')) pos.line X.env = pure false := by rfl) (hf : X.fn x = true ∨ X.env.scope.names.lookup x = some .local := by first | exact .inl rfl | exact .inr rfl) :
    PDS X (.Assign [.Name x pos'] e pos) (tAsg te (gName i)) (sAsg we (gwName i)) := by
  refine ⟨ps_set hN hi hx he.pe hs hf, fun A S σ H ρ D D' R E h k => ?_⟩
  exact he.sd A S σ H ρ _ _ R E h fun d S1 A1 v H1 g1 R1 hv q1 => sndg_name A1 S1 σ H1 ρ v d _ _ R1 (E.mono g1) hv q1 (k.nx.mono g1)
theorem ds_par {i j : Nat} {x y : Str} {a b : Expr} {ta : TA} {wa : WL} {px py pt : Pos} {kt k2 pt2} (hc : X.calm = true) (hN : X.N.Nodup) (ha : PDA X [a, b] ta wa) (hi : X.N[i]? = some x := by rfl) (hj : X.N[j]? = some y := by rfl) (hij : i ≠ j := by decide)
    (hx : X.env.scope.names.lookup x = some .local := by rfl) (hy : X.env.scope.names.lookup y = some .local := by rfl)
    (hw : swappedStores [.Tuple [.Name x px, .Name y py] kt pt] (.Tuple [a, b] k2 pt2) X.env = pure (some [x, y]) := by rfl)
    (hs : swapsWithSole [.Tuple [.Name x px, .Name y py] kt pt] (.Tuple [a, b] k2 pt2) pos.line X.env = pure false := by rfl) :
    PDS X (.Assign [.Tuple [.Name x px, .Name y py] kt pt] (.Tuple [a, b] k2 pt2) pos) (tPar i j ta) (sPar i j wa) := by
  refine ⟨ps_par hc hN hi hj hij hx hy ha.pe hw hs, fun A S σ H ρ D D' R E h k => ?_⟩
  refine ha.sd A S σ H ρ _ _ R E h fun ds S1 A1 vs H1 g1 R1 hv q1 => ?_
  cases hv with
  | nil => exact q1.elim
  | cons h1 tv =>
    cases tv with
    | nil => exact q1.elim
    | cons h2 tv2 =>
      cases tv2 with
      | cons _ _ => exact q1.elim
      | nil => exact ⟨_, _, rfl, k.nx _ S1 A1 _ H1 g1 R1 (((E.mono g1).set i h1).set j h2) q1⟩
theorem ds_while {c : Expr} {body : List Stmt} {tc : TT} {tb : TS} {wc : WB} {wb : WS} (hp : PassesOwn (model X.prog X.w) X.A X.env X.xe) (hc : PDT X c tc wc) (hb : PDSs X body tb wb) : PDS X (.While c body [] pos) (tWhile tc tb) (sWhile wc wb) := by
  refine ⟨ps_while hp hc.pe hb.pe, fun A S σ H ρ D D' R E h k => ?_⟩
  obtain ⟨W, ⟨m0, w0⟩, turn⟩ := h
  refine ⟨fun m σ1 H1 => ∃ A1 S1 ρ1, Grow A A1 H H1 ∧ Rep X.G A1 S1 H1 ∧ EnvD X.G A1 H1 σ1 ρ1 ∧ W m ρ1 S1, ⟨m0, A, S, ρ, .refl, R, E, w0⟩, ?_⟩
  rintro m σ1 H1 ⟨A1, S1, ρ1, g1, R1, E1, w1⟩
  refine hc.sd A1 S1 σ1 H1 ρ1 _ _ R1 E1 (turn m ρ1 S1 w1) fun b S2 A2 H2 g2 R2 q2 => ?_
  cases b with
  | false => exact iteF (k.nx ρ1 S2 A2 σ1 H2 (g1.trans g2) R2 (E1.mono g2) (by simpa using q2))
  | true =>
    refine iteT ⟨fun σ' H' => ∃ m', m' < m ∧ ∃ A1 S1 ρ1, Grow A A1 H H' ∧ Rep X.G A1 S1 H' ∧ EnvD X.G A1 H' σ' ρ1 ∧ W m' ρ1 S1, fun σ' H' z => z, ?_⟩
    have q2 := (if_pos rfl).mp q2
    have nx : EndN X.G A2 H2 (fun σ' H' => ∃ m', m' < m ∧ ∃ A1 S1 ρ1, Grow A A1 H H' ∧ Rep X.G A1 S1 H' ∧ EnvD X.G A1 H' σ' ρ1 ∧ W m' ρ1 S1) (fun ρ' S' => ∃ m', m' < m ∧ W m' ρ' S') :=
      fun ρ' S' A' σ' H' g' R' E' ⟨m', l, z⟩ => ⟨m', l, A', S', ρ', (g1.trans g2).trans g', R', E', z⟩
    exact hb.sd A2 S2 σ1 H2 ρ1 _ _ R2 (E1.mono g2) q2 ⟨nx, k.rt.mono (g1.trans g2), k.nx.mono (g1.trans g2), nx⟩
end
end DL

set_option Elab.async false
set_option linter.all false
set_option maxRecDepth 100000
/-! Rules: for, comprehensions, calls. -/
namespace DL
open PySem PySem.Spec PyProof.Rows L2
/-! ### for -/
def forD : List D → (D → DEnv → MS → (DEnv → MS → Prop) → Prop) → (DEnv → MS → Prop) → DEnv → MS → Prop
  | [], _, fin, ρ, S => fin ρ S
  | d :: ds, step, fin, ρ, S => step d ρ S fun ρ' S' => forD ds step fin ρ' S'
/-- over the i-th list that may change: it stays as it is -/
def forM (m : Nat) (all : List D) : List D → (D → DEnv → MS → (DEnv → MS → Prop) → Prop) → (DEnv → MS → Prop) → DEnv → MS → Prop
  | [], _, fin, ρ, S => S[m]? = some all ∧ fin ρ S
  | d :: ds, step, fin, ρ, S => S[m]? = some all ∧ step d ρ S fun ρ' S' => forM m all ds step fin ρ' S'
def forStep (wg : WG) (wb : WS) (DD : DEnds) : D → DEnv → MS → (DEnv → MS → Prop) → Prop := fun d ρ S nx => wg d ρ S fun ρ1 S1 => wb { DD with nx := nx, ct := nx, bk := DD.nx } ρ1 S1
def sFor (wi : WD) (wg : WG) (wb : WS) : WS := fun DD ρ S => wi ρ S fun d S1 => match d with
  | .lst ds => forD ds (forStep wg wb DD) DD.nx ρ S1
  | .scr ds => forD ds (forStep wg wb DD) DD.nx ρ S1
  | .mut m => ∃ ds, S1[m]? = some ds ∧ forM m ds ds (forStep wg wb DD) DD.nx ρ S1
  | _ => False
def rangeD (lo : Int) (n : Nat) : List D := (List.range n).map fun i : Nat => .int (lo + i)
def sForR (wi : WL) (wg : WG) (wb : WS) : WS := fun DD ρ S => wi ρ S fun ds S1 => match ds with
  | [.int j] => (-(2 ^ 62) ≤ j ∧ j < 2 ^ 62) ∧ forD (rangeD 0 j.toNat) (forStep wg wb DD) DD.nx ρ S1
  | _ => False
section
variable {X : Cx} {pos : Pos} {iter : Expr} {body : List Stmt} {tg : Expr} {g : TG} {wg : WG} {tb : TS} {wb : WS}
theorem ds_for {ti : TE} {wi : WD} (hp : PassesOwn (model X.prog X.w) X.A X.env X.xe) (hc : X.calm = true) (hi : PD X iter ti wi) (hg : PDG X tg g wg) (hb : PDSs X body tb wb)
    (hs : ∀ x, foldedSetIterable iter X.env x = pure x := by intro _; rfl) : PDS X (.For tg iter body [] pos) (tFor (iList X.K ti) g tb) (sFor wi wg wb) := by
  refine ⟨ps_for hp hc (pi_list hi.pe) hg.pe hb.pe hs, fun A S σ H ρ D D' R E h k => ?_⟩
  refine hi.sd A S σ H ρ _ _ R E h fun d S1 A1 v H1 g1 R1 hv q1 => ?_
  have seqC : ∀ (a : Addr) (vs : List V) (ds : List DL.D), v = .ref a → (∀ A2 H2, Grow A1 A2 H1 H2 → SqL X.K H2 a vs) → IsL X.G A1 H1 vs ds → forD ds (forStep wg wb D') D'.nx ρ S1 → (∃ a', v = .ref a' ∧ (∃ xs, SqL X.K H1 a' xs) ∧ ∃ W : Nat → Nat → L2.St → Hp → Prop, (∃ m, W 0 m σ H1) ∧ ∀ i m σ H, W i m σ H →
      ((Itl X.K a').stop i H ∧ D.nx σ H) ∨ ((Itl X.K a').go i H ∧ ∃ N : L2.St → Hp → Prop, (∀ σ' H', N σ' H' → ∃ m', m' < m ∧ W (i + 1) m' σ' H') ∧ ∀ x H', (Itl X.K a').yld i H x H' → g x σ H' fun σ2 H2 => tb { D with nx := N, ct := N, bk := D.nx } σ2 H2)) := by
    intro a vs ds ev sq l q1
    refine ⟨a, ev, ⟨vs, sq _ _ .refl⟩, for_list (K := X.K) (a := a) (xs := vs) (fun i σ2 H2 => ∃ A2 S2 ρ2, Grow A1 A2 H1 H2 ∧ Rep X.G A2 S2 H2 ∧ EnvD X.G A2 H2 σ2 ρ2 ∧ forD (ds.drop i) (forStep wg wb D') D'.nx ρ2 S2)
      ⟨A1, S1, ρ, .refl, R1, E.mono g1, q1⟩ (fun i σ2 H2 hi ⟨A2, S2, ρ2, g2, _⟩ => sq _ _ g2) ?_ ?_⟩
    · rintro i x σ2 H2 hx ⟨A2, S2, ρ2, g2, R2, E2, q2⟩
      obtain ⟨d, hd, hxd⟩ := l.getV hx
      have hdrop : ds.drop i = d :: ds.drop (i + 1) := by
        obtain ⟨hl, e⟩ := List.getElem?_eq_some_iff.mp hd
        rw [List.drop_eq_getElem_cons hl, e]
      rw [hdrop] at q2
      refine hg.sd A2 S2 σ2 H2 ρ2 x d _ _ R2 E2 (hxd.mono g2) q2 fun ρ3 S3 A3 σ3 H3 g3 R3 E3 q3 => ?_
      have nx : EndN X.G A3 H3 (fun σ2 H2 => ∃ A2 S2 ρ2, Grow A1 A2 H1 H2 ∧ Rep X.G A2 S2 H2 ∧ EnvD X.G A2 H2 σ2 ρ2 ∧ forD (ds.drop (i + 1)) (forStep wg wb D') D'.nx ρ2 S2) (fun ρ' S' => forD (ds.drop (i + 1)) (forStep wg wb D') D'.nx ρ' S') :=
        fun ρ' S' A' σ' H' g' R' E' z => ⟨A', S', ρ', (g2.trans g3).trans g', R', E', z⟩
      have kk := k.mono (g1.trans (g2.trans g3))
      exact hb.sd A3 S3 σ3 H3 ρ3 _ _ R3 E3 q3 ⟨nx, kk.rt, kk.nx, nx⟩
    · rintro σ2 H2 ⟨A2, S2, ρ2, g2, R2, E2, q2⟩
      rw [l.length, List.drop_length] at q2
      exact k.nx ρ2 S2 A2 σ2 H2 (g1.trans g2) R2 E2 q2
  cases hv with
  | @lst a vs ds na r l => exact seqC a vs ds rfl (fun A2 H2 g => .of (g.keep _ _ na r).1) l q1
  | @scr a vs ds na r l => exact seqC a vs ds rfl (fun A2 H2 g => .inl (g.rd na r).2) l q1
  | @scrK a vs ds r l => exact seqC a vs ds rfl (fun A2 H2 g => r H2) l q1
  | @«mut» a m ea =>
    obtain ⟨ds, es, q1⟩ := q1
    obtain ⟨vs, h1, l⟩ := R1.at_ m a ds ea es
    have stay : ∀ {A2 S2 H2}, Grow A1 A2 H1 H2 → Rep X.G A2 S2 H2 → S2[m]? = some ds → ∃ vs2, H2 a = some (.lst vs2) ∧ IsL X.G A2 H2 vs2 ds := fun g2 R2 e2 => R2.at_ m a ds (g2.pre _ _ ea) e2
    have hd0 : ∀ i ρ2 S2, forM m ds (ds.drop i) (forStep wg wb D') D'.nx ρ2 S2 → S2[m]? = some ds := by
      intro i ρ2 S2 q
      cases hq : ds.drop i with
      | nil => rw [hq] at q; exact q.1
      | cons _ _ => rw [hq] at q; exact q.1
    refine ⟨a, rfl, ⟨vs, .of h1⟩, ⟨fun i mm σ2 H2 => mm = ds.length - i ∧ i ≤ ds.length ∧ ∃ A2 S2 ρ2, Grow A1 A2 H1 H2 ∧ Rep X.G A2 S2 H2 ∧ EnvD X.G A2 H2 σ2 ρ2 ∧ forM m ds (ds.drop i) (forStep wg wb D') D'.nx ρ2 S2, ⟨ds.length, by simp, Nat.zero_le _, A1, S1, ρ, .refl, R1, E.mono g1, q1⟩, ?_⟩⟩
    rintro i mm σ2 H2 ⟨rfl, hle, A2, S2, ρ2, g2, R2, E2, q2⟩
    obtain ⟨vs2, h2, l2⟩ := stay g2 R2 (hd0 i ρ2 S2 q2)
    by_cases hlt : i < ds.length
    · have hdrop : ds.drop i = ds[i] :: ds.drop (i + 1) := List.drop_eq_getElem_cons hlt
      rw [hdrop] at q2
      have hlt2 : i < vs2.length := by rw [l2.length]; exact hlt
      refine .inr ⟨⟨vs2, vs2[i], .of h2, by simp [hlt2]⟩, fun σ' H' => ∃ A2 S2 ρ2, Grow A1 A2 H1 H' ∧ Rep X.G A2 S2 H' ∧ EnvD X.G A2 H' σ' ρ2 ∧ forM m ds (ds.drop (i + 1)) (forStep wg wb D') D'.nx ρ2 S2, fun σ' H' z => ⟨ds.length - (i + 1), by omega, rfl, hlt, z⟩, fun x H' y => ?_⟩
      obtain ⟨rfl, y⟩ := y
      have hx : vs2[i]? = some x := y vs2 (.of h2)
      obtain ⟨d, hd, hxd⟩ := l2.getV hx
      have ed : d = ds[i] := by rw [List.getElem?_eq_getElem hlt] at hd; exact (Option.some.inj hd).symm
      subst ed
      refine hg.sd A2 S2 σ2 H' ρ2 x _ _ _ R2 E2 hxd q2.2 fun ρ3 S3 A3 σ3 H3 g3 R3 E3 q3 => ?_
      have nx : EndN X.G A3 H3 (fun σ2 H2 => ∃ A2 S2 ρ2, Grow A1 A2 H1 H2 ∧ Rep X.G A2 S2 H2 ∧ EnvD X.G A2 H2 σ2 ρ2 ∧ forM m ds (ds.drop (i + 1)) (forStep wg wb D') D'.nx ρ2 S2) (fun ρ' S' => forM m ds (ds.drop (i + 1)) (forStep wg wb D') D'.nx ρ' S') :=
        fun ρ' S' A' σ' H' g' R' E' z => ⟨A', S', ρ', (g2.trans g3).trans g', R', E', z⟩
      have kk := k.mono (g1.trans (g2.trans g3))
      exact hb.sd A3 S3 σ3 H3 ρ3 _ _ R3 E3 q3 ⟨nx, kk.rt, kk.nx, nx⟩
    · have e : i = ds.length := by omega
      subst e
      rw [List.drop_length] at q2
      exact .inl ⟨⟨vs2, .of h2, by rw [l2.length]; exact Nat.le_refl _⟩, k.nx ρ2 S2 A2 σ2 H2 (g1.trans g2) R2 E2 q2.2⟩
  | _ => exact q1.elim
theorem drop_range (lo : Int) (n i : Nat) (h : i < n) : (rangeD lo n).drop i = .int (lo + i) :: (rangeD lo n).drop (i + 1) := by
  have he : (rangeD lo n)[i]? = some (.int (lo + i)) := by unfold rangeD; simp [h]
  obtain ⟨hl, e⟩ := List.getElem?_eq_some_iff.mp he
  rw [List.drop_eq_getElem_cons hl, e]
theorem ds_forR {a : Expr} {p pos2 : Pos} {ta : TA} {wa : WL} (hp : PassesOwn (model X.prog X.w) X.A X.env X.xe) (hc : X.calm = true) (hm : X.mg "range" = none) (ha : PDA X [a] ta wa) (hg : PDG X tg g wg) (hb : PDSs X body tb wb) (hgl : Gl X "range" := by rfl) (hst : starEach [a] X.env = [(false, eval a X.env)] := by rfl)
    (hs : ∀ x, foldedSetIterable (.Call (.Name "range" p) [a] [] pos2) X.env x = pure x := by intro _; rfl) : PDS X (.For tg (.Call (.Name "range" p) [a] [] pos2) body [] pos) (tFor (iRng1 ta) g tb) (sForR wa wg wb) := by
  refine ⟨ps_for hp hc (pi_range1 hgl hm ha.pe hst) hg.pe hb.pe hs, fun A S σ H ρ D D' R E h k => ?_⟩
  refine ha.sd A S σ H ρ _ _ R E h fun ds S1 A1 vs H1 g1 R1 hv q1 => ?_
  cases hv with
  | nil => exact q1.elim
  | cons h1 tv =>
    cases tv with
    | cons _ _ => cases h1 <;> exact q1.elim
    | nil =>
      cases h1 <;> first | exact q1.elim | skip
      rename_i j
      refine ⟨j, rfl, q1.1.1, q1.1.2, for_range (lo := 0) (n := j.toNat) (fun i σ2 H2 => ∃ A2 S2 ρ2, Grow A1 A2 H1 H2 ∧ Rep X.G A2 S2 H2 ∧ EnvD X.G A2 H2 σ2 ρ2 ∧ forD ((rangeD 0 j.toNat).drop i) (forStep wg wb D') D'.nx ρ2 S2) ⟨A1, S1, ρ, .refl, R1, E.mono g1, q1.2⟩ ?_ ?_⟩
      · rintro i σ2 H2 hi ⟨A2, S2, ρ2, g2, R2, E2, q2⟩
        rw [drop_range 0 _ i hi] at q2
        refine hg.sd A2 S2 σ2 H2 ρ2 _ _ _ _ R2 E2 (.int _) q2 fun ρ3 S3 A3 σ3 H3 g3 R3 E3 q3 => ?_
        have nx : EndN X.G A3 H3 (fun σ2 H2 => ∃ A2 S2 ρ2, Grow A1 A2 H1 H2 ∧ Rep X.G A2 S2 H2 ∧ EnvD X.G A2 H2 σ2 ρ2 ∧ forD ((rangeD 0 j.toNat).drop (i + 1)) (forStep wg wb D') D'.nx ρ2 S2) (fun ρ' S' => forD ((rangeD 0 j.toNat).drop (i + 1)) (forStep wg wb D') D'.nx ρ' S') :=
          fun ρ' S' A' σ' H' g' R' E' z => ⟨A', S', ρ', (g2.trans g3).trans g', R', E', z⟩
        have kk := k.mono (g1.trans (g2.trans g3))
        exact hb.sd A3 S3 σ3 H3 ρ3 _ _ R3 E3 q3 ⟨nx, kk.rt, kk.nx, nx⟩
      · rintro σ2 H2 ⟨A2, S2, ρ2, g2, R2, E2, q2⟩
        have e : (rangeD 0 j.toNat).drop j.toNat = [] := List.drop_eq_nil_of_le (by unfold rangeD; simp)
        rw [e] at q2
        exact k.nx ρ2 S2 A2 σ2 H2 (g1.trans g2) R2 E2 q2
end

/-! ### list comprehensions: the list made is one that may change -/
def lcD : List D → (D → MS → (MS → Prop) → Prop) → (MS → Prop) → MS → Prop
  | [], _, fin, S => fin S
  | d :: ds, step, fin, S => step d S fun S' => lcD ds step fin S'
def wYes : WB := fun _ S Q => Q true S
def wipeD (ρ : DEnv) : List Nat → DEnv
  | [] => ρ
  | v :: vs => (wipeD ρ vs).set v none
def lcStep (m : Nat) (vs : List Nat) (wg : WG) (wt : WB) (we : WD) (ρ : DEnv) : D → MS → (MS → Prop) → Prop := fun d S k => wg d (wipeD ρ vs) S fun ρ2 S2 => wt ρ2 S2 fun b S3 =>
  if b = true then we ρ2 S3 fun y S4 => ∃ acc, S4[m]? = some acc ∧ acc.length < sizeLine ∧ k (S4.set m (acc ++ [y])) else k S3
/-- over a written list or tuple's items -/
def lcM (m : Nat) (all : List D) : List D → (D → MS → (MS → Prop) → Prop) → (MS → Prop) → MS → Prop
  | [], _, fin, S => S[m]? = some all ∧ fin S
  | d :: ds, step, fin, S => S[m]? = some all ∧ step d S fun S' => lcM m all ds step fin S'
def wLc (wi : WD) (vs : List Nat) (wg : WG) (wt : WB) (we : WD) : WD := fun ρ S Q => wi ρ S fun d S1 => match d with
  | .lst ds => lcD ds (lcStep S1.length vs wg wt we ρ) (fun S' => Q (.mut S1.length) S') (S1 ++ [[]])
  | .scr ds => lcD ds (lcStep S1.length vs wg wt we ρ) (fun S' => Q (.mut S1.length) S') (S1 ++ [[]])
  | .mut m0 => match S1[m0]? with
    | some ds => lcM m0 ds ds (lcStep S1.length vs wg wt we ρ) (fun S' => Q (.mut S1.length) S') (S1 ++ [[]])
    | none => False
  | _ => False
def wLcR (wi : WL) (vs : List Nat) (wg : WG) (wt : WB) (we : WD) : WD := fun ρ S Q => wi ρ S fun ds S1 => match ds with
  | [.int j] => (-(2 ^ 62) ≤ j ∧ j < 2 ^ 62) ∧ lcD (rangeD 0 j.toNat) (lcStep S1.length vs wg wt we ρ) (fun S' => Q (.mut S1.length) S') (S1 ++ [[]])
  | _ => False
/-- which targets a comprehension has: its own names alone -/
structure GOwn (vs : List Nat) (g : TG) : Prop where
  own : ∀ (v : V) (σ : L2.St) (H : Hp) (Q : L2.St → Hp → Prop), g v σ H Q → g v σ H fun σ2 H2 => wipe σ2 vs = wipe σ vs ∧ Q σ2 H2
theorem wipe_set_own {σ : L2.St} {i : Nat} {x : Option V} : ∀ {vs : List Nat}, i ∈ vs → wipe (σ.set i x) vs = wipe σ vs
  | [], h => by cases h
  | v :: vs, h => by
    unfold wipe
    by_cases hi : i ∈ vs
    · rw [wipe_set_own hi]
    · have e : i = v := by
        rcases List.mem_cons.mp h with h | h
        · exact h
        · exact absurd h hi
      subst e
      have : ∀ (vs : List Nat), i ∉ vs → wipe (σ.set i x) vs = (wipe σ vs).set i x := by
        intro vs
        induction vs with
        | nil => intro _; rfl
        | cons w ws ih =>
          intro hn
          unfold wipe
          rw [ih (fun z => hn (List.mem_cons_of_mem _ z)), List.set_comm _ _ (fun z => hn (by rw [z]; exact List.mem_cons_self))]
      rw [this vs hi, List.set_set]
theorem gown_name {i : Nat} {vs : List Nat} (h : i ∈ vs) : GOwn vs (gName i) := ⟨fun v σ H Q q => ⟨wipe_set_own h, q⟩⟩
theorem gown_two {K : PySem.W.Frag} {n i j : Nat} {vs : List Nat} (hi : i ∈ vs) (hj : j ∈ vs) : GOwn vs (gTup K n (gCons (gName i) (gCons (gName j) gNil))) := ⟨fun v σ H Q q => by
  obtain ⟨a, xs, e, h1, h2, x, r, e1, y, r2, e2, e3, q⟩ := q
  exact ⟨a, xs, e, h1, h2, x, r, e1, y, r2, e2, e3, by rw [wipe_set_own hj, wipe_set_own hi], q⟩⟩
theorem EnvD.wipe {mg : MG} {A : List Addr} {H : Hp} {σ : L2.St} {ρ : DEnv} (e : EnvD mg A H σ ρ) : ∀ vs : List Nat, EnvD mg A H (L2.wipe σ vs) (wipeD ρ vs)
  | [] => e
  | v :: vs => by
    have ih := EnvD.wipe e vs
    unfold L2.wipe wipeD
    refine ⟨by simp [ih.len], fun i d h => ?_⟩
    by_cases hi : v = i
    · subst hi
      by_cases hl : v < (wipeD ρ vs).length
      · rw [List.getElem?_set_self hl] at h; cases h
      · rw [List.getElem?_eq_none (by simp; omega)] at h; cases h
    · rw [List.getElem?_set_ne hi] at h ⊢
      exact ih.at_ i d h
section
variable {X : Cx} {elt tg iter : Expr} {ifs : List Expr} {scope : Scope} {own : List (Str × Nat)} {pos : Pos} {g : TG} {wg : WG} {tt : TT} {wt : WB} {te : TE} {we : WD}
structure PDTs (X : Cx) (ifs : List Expr) (t : TT) (w : WB) : Prop where
  pe : PTs X ifs t
  sd : SndT X.G t w
theorem dts_nil : PDTs X [] tYes wYes := ⟨pts_nil, fun A S σ H ρ Q Q' R E h k => k true S A H .refl R h⟩
theorem dts_one {c : Expr} {t : TT} {w : WB} (h : PDT X c t w) : PDTs X [c] t w := ⟨pts_one h.pe, h.sd⟩
/-- one turn -/
theorem lc_turn {mg : MG} {vs : List Nat} (sg : SndG mg g wg) (st : SndT mg tt wt) (se : SndE mg te we) (go : GOwn vs g) {A : List Addr} {S : MS} {H : Hp} {σ : L2.St} {ρ : DEnv} {x : V} {d : D} {m : Nat} {Dl : Addr} {k : MS → Prop} {Nx : Hp → Prop}
    (R : Rep mg A S H) (E : EnvD mg A H σ ρ) (hx : Is mg A H x d) (hm : A[m]? = some Dl) (q : lcStep m vs wg wt we ρ d S k) (hk : ∀ S' A' H', Grow A A' H H' → Rep mg A' S' H' → k S' → Nx H') :
    g x (wipe σ vs) H fun σ2 H2 => wipe σ2 vs = wipe σ vs ∧ tt σ2 H2 fun b H3 => if b = true then te σ2 H3 fun y H4 => ∃ acc, H4 Dl = some (.lst acc) ∧ acc.length < sizeLine ∧ Nx (upd H4 Dl (.lst (acc ++ [y]))) else Nx H3 := by
  have ww : wipe (wipe σ vs) vs = wipe σ vs := by
    have : ∀ (us : List Nat), (∀ u ∈ us, u ∈ vs) → wipe (wipe σ us) vs = wipe σ vs := by
      intro us
      induction us with
      | nil => intro _; rfl
      | cons u us ih =>
        intro hu
        show wipe ((wipe σ us).set u none) vs = _
        rw [wipe_set_own (hu u List.mem_cons_self), ih fun z hz => hu z (List.mem_cons_of_mem _ hz)]
    exact this vs fun _ h => h
  have h1 := sg A S (wipe σ vs) H (wipeD ρ vs) x d (fun σ2 H2 => tt σ2 H2 fun b H3 => if b = true then te σ2 H3 fun y H4 => ∃ acc, H4 Dl = some (.lst acc) ∧ acc.length < sizeLine ∧ Nx (upd H4 Dl (.lst (acc ++ [y]))) else Nx H3) _ R (E.wipe vs) hx q fun ρ2 S2 A2 σ2 H2 g2 R2 E2 q2 => ?_
  · have h2 := go.own _ _ _ _ h1
    rw [ww] at h2
    exact h2
  · refine st A2 S2 σ2 H2 ρ2 _ _ R2 E2 q2 fun b S3 A3 H3 g3 R3 q3 => ?_
    cases b with
    | false => exact iteF (hk S3 A3 H3 (g2.trans g3) R3 (by simpa using q3))
    | true =>
      refine iteT ?_
      have q3 := (if_pos rfl).mp q3
      refine se A3 S3 σ2 H3 ρ2 _ _ R3 (E2.mono g3) q3 fun y S4 A4 vy H4 g4 R4 hy q4 => ?_
      obtain ⟨acc, e1, hz, q5⟩ := q4
      have hm4 : A4[m]? = some Dl := g4.pre _ _ (g3.pre _ _ (g2.pre _ _ hm))
      obtain ⟨ws, h5, l5⟩ := R4.at_ m Dl acc hm4 e1
      refine ⟨ws, h5, by rw [l5.length]; exact hz, ?_⟩
      have gw := grow_write (H := H4) (o := .lst (ws ++ [vy])) hm4
      exact hk _ A4 _ ((g2.trans (g3.trans g4)).trans gw) (R4.write hm4 (l5.append (.cons hy .nil))) q5
theorem d_lc {ti : TE} {wi : WD} (hc : X.calm = true) (hN : X.N.Nodup) (hi : PD X iter ti wi) (ok : BlkOk X.N X.env.scope scope own) (go : GOwn (own.map (·.2)) g)
    (hg : ∀ (s : Shared) (H : Hp) (C : Addr) (cl : List (Str × Addr)) (fp : List Addr), PDG (X.blk s H scope (compEnvC scope cl C X.env) fp) tg g wg) (ht : ∀ (s : Shared) (H : Hp) (C : Addr) (cl : List (Str × Addr)) (fp : List Addr), PDTs (X.blk s H scope (compEnvC scope cl C X.env) fp) ifs tt wt)
    (he : ∀ (s : Shared) (H : Hp) (C : Addr) (cl : List (Str × Addr)) (fp : List Addr), PD (X.blk s H scope (compEnvC scope cl C X.env) fp) elt te we) (hs : ∀ x, foldedSetIterable iter X.env x = pure x := by intro _; rfl) :
    PD X (.ListComp elt [⟨tg, iter, ifs, 0⟩] scope pos) (tLc (iList X.K ti) g tt te (own.map (·.2))) (wLc wi (own.map (·.2)) wg wt we) := by
  refine ⟨pe_lc hc hN (pi_list hi.pe) ok (fun s H C cl fp => (hg s H C cl fp).pe) (fun s H C cl fp => (ht s H C cl fp).pe) (fun s H C cl fp => (he s H C cl fp).pe) hs, fun A S σ H ρ Q Q' R E h k => ?_⟩
  have sg : SndG X.G g wg := (hg X.s_0 X.H_0 0 [] []).sd
  have st : SndT X.G tt wt := (ht X.s_0 X.H_0 0 [] []).sd
  have se : SndE X.G te we := (he X.s_0 X.H_0 0 [] []).sd
  refine hi.sd A S σ H ρ _ _ R E h fun d S1 A1 v H1 g1 R1 hv q1 => ?_
  have seqC : ∀ (a : Addr) (vs : List V) (ds : List D), (∀ A2 H2, Grow A1 A2 H1 H2 → SqL X.K H2 a vs) → IsL X.G A1 H1 vs ds → lcD ds (lcStep S1.length (own.map (·.2)) wg wt we ρ) (fun S' => Q' (.mut S1.length) S') (S1 ++ [[]]) → ∀ Dl, H1 Dl = none → ∃ W : Nat → Nat → Hp → Prop, (∃ m, W 0 m (upd H1 Dl (.lst []))) ∧ ∀ i m H, W i m H →
      ((Itl X.K a).stop i H ∧ Q (.ref Dl) H) ∨ ((Itl X.K a).go i H ∧ ∃ Nx : Hp → Prop, (∀ H', Nx H' → ∃ m', m' < m ∧ W (i + 1) m' H') ∧ ∀ x H', (Itl X.K a).yld i H x H' → g x (wipe σ (own.map (·.2))) H' fun σ2 H2 => wipe σ2 (own.map (·.2)) = wipe σ (own.map (·.2)) ∧ tt σ2 H2 fun b H3 =>
        if b = true then te σ2 H3 fun y H4 => ∃ acc, H4 Dl = some (.lst acc) ∧ acc.length < sizeLine ∧ Nx (upd H4 Dl (.lst (acc ++ [y]))) else Nx H3) := by
    intro a vs ds sq l q1 Dl hD
    have gD := grow_mut (o := .lst []) R1 hD
    have RD := R1.newMut hD (vs := []) (ds := []) .nil
    have hm : (A1 ++ [Dl])[S1.length]? = some Dl := by rw [← R1.len, List.getElem?_append_right (Nat.le_refl _), Nat.sub_self]; rfl
    refine lc_list (K := X.K) (a := a) (xs := vs) (fun i H2 => ∃ A2 S2, Grow (A1 ++ [Dl]) A2 (upd H1 Dl (.lst [])) H2 ∧ Rep X.G A2 S2 H2 ∧ lcD (ds.drop i) (lcStep S1.length (own.map (·.2)) wg wt we ρ) (fun S' => Q' (.mut S1.length) S') S2)
      ⟨A1 ++ [Dl], S1 ++ [[]], .refl, RD, q1⟩ (fun i H2 hi ⟨A2, S2, g2, _⟩ => sq _ _ (gD.trans g2)) ?_ ?_
    · rintro i x H2 hx ⟨A2, S2, g2, R2, q2⟩
      obtain ⟨d, hd, hxd⟩ := l.getV hx
      have hdrop : ds.drop i = d :: ds.drop (i + 1) := by
        obtain ⟨hl, e⟩ := List.getElem?_eq_some_iff.mp hd
        rw [List.drop_eq_getElem_cons hl, e]
      rw [hdrop] at q2
      exact lc_turn sg st se go R2 (E.mono (g1.trans (gD.trans g2))) (hxd.mono (gD.trans g2)) (g2.pre _ _ hm) q2 fun S' A' H' g' R' z => ⟨A', S', g2.trans g', R', z⟩
    · rintro H2 ⟨A2, S2, g2, R2, q2⟩
      rw [l.length, List.drop_length] at q2
      exact k _ S2 A2 _ H2 (g1.trans (gD.trans g2)) R2 (.mut (g2.pre _ _ hm)) q2
  cases hv with
  | @lst a vs ds na r l => exact ⟨a, rfl, ⟨vs, .of r⟩, seqC a vs ds (fun A2 H2 g => .of (g.keep _ _ na r).1) l q1⟩
  | @scr a vs ds na r l => exact ⟨a, rfl, ⟨vs, .inl r⟩, seqC a vs ds (fun A2 H2 g => .inl (g.rd na r).2) l q1⟩
  | @scrK a vs ds r l => exact ⟨a, rfl, ⟨vs, r _⟩, seqC a vs ds (fun A2 H2 g => r H2) l q1⟩
  | @«mut» a m0 ea =>
    dsimp only at q1
    split at q1
    case h_2 => exact q1.elim
    rename_i ds es
    obtain ⟨vs, h1, l⟩ := R1.at_ m0 a ds ea es
    refine ⟨a, rfl, ⟨vs, .of h1⟩, fun Dl hD => ?_⟩
    have gD := grow_mut (o := .lst []) R1 hD
    have RD := R1.newMut hD (vs := []) (ds := []) .nil
    have hm : (A1 ++ [Dl])[S1.length]? = some Dl := by rw [← R1.len, List.getElem?_append_right (Nat.le_refl _), Nat.sub_self]; rfl
    have hd0 : ∀ i S2, lcM m0 ds (ds.drop i) (lcStep S1.length (own.map (·.2)) wg wt we ρ) (fun S' => Q' (.mut S1.length) S') S2 → S2[m0]? = some ds := by
      intro i S2 q
      cases hq : ds.drop i with
      | nil => rw [hq] at q; exact q.1
      | cons _ _ => rw [hq] at q; exact q.1
    refine ⟨fun i mm H2 => mm = ds.length - i ∧ i ≤ ds.length ∧ ∃ A2 S2, Grow (A1 ++ [Dl]) A2 (upd H1 Dl (.lst [])) H2 ∧ Rep X.G A2 S2 H2 ∧ lcM m0 ds (ds.drop i) (lcStep S1.length (own.map (·.2)) wg wt we ρ) (fun S' => Q' (.mut S1.length) S') S2, ⟨ds.length, by simp, Nat.zero_le _, A1 ++ [Dl], S1 ++ [[]], .refl, RD, q1⟩, ?_⟩
    rintro i mm H2 ⟨rfl, hle, A2, S2, g2, R2, q2⟩
    have ea2 : A2[m0]? = some a := g2.pre _ _ (gD.pre _ _ ea)
    obtain ⟨vs2, h2, l2⟩ := R2.at_ m0 a ds ea2 (hd0 i S2 q2)
    by_cases hlt : i < ds.length
    · have hdrop : ds.drop i = ds[i] :: ds.drop (i + 1) := List.drop_eq_getElem_cons hlt
      rw [hdrop] at q2
      have hlt2 : i < vs2.length := by rw [l2.length]; exact hlt
      refine .inr ⟨⟨vs2, vs2[i], .of h2, by simp [hlt2]⟩, fun H' => ∃ A2 S2, Grow (A1 ++ [Dl]) A2 (upd H1 Dl (.lst [])) H' ∧ Rep X.G A2 S2 H' ∧ lcM m0 ds (ds.drop (i + 1)) (lcStep S1.length (own.map (·.2)) wg wt we ρ) (fun S' => Q' (.mut S1.length) S') S2, fun H' z => ⟨ds.length - (i + 1), by omega, rfl, hlt, z⟩, fun x H' y => ?_⟩
      obtain ⟨rfl, y⟩ := y
      have hx : vs2[i]? = some x := y vs2 (.of h2)
      obtain ⟨d, hd, hxd⟩ := l2.getV hx
      have ed : d = ds[i] := by rw [List.getElem?_eq_getElem hlt] at hd; exact (Option.some.inj hd).symm
      subst ed
      exact lc_turn sg st se go R2 (E.mono (g1.trans (gD.trans g2))) hxd (g2.pre _ _ hm) q2.2 fun S' A' H' g' R' z => ⟨A', S', g2.trans g', R', z⟩
    · have e : i = ds.length := by omega
      subst e
      rw [List.drop_length] at q2
      exact .inl ⟨⟨vs2, .of h2, by rw [l2.length]; exact Nat.le_refl _⟩, k _ S2 A2 _ H2 (g1.trans (gD.trans g2)) R2 (.mut (g2.pre _ _ hm)) q2.2⟩
  | _ => exact q1.elim
theorem d_lcR {a : Expr} {p pos2 : Pos} {ta : TA} {wa : WL} (hc : X.calm = true) (hN : X.N.Nodup) (hm : X.mg "range" = none) (ha : PDA X [a] ta wa) (ok : BlkOk X.N X.env.scope scope own) (go : GOwn (own.map (·.2)) g)
    (hg : ∀ (s : Shared) (H : Hp) (C : Addr) (cl : List (Str × Addr)) (fp : List Addr), PDG (X.blk s H scope (compEnvC scope cl C X.env) fp) tg g wg) (ht : ∀ (s : Shared) (H : Hp) (C : Addr) (cl : List (Str × Addr)) (fp : List Addr), PDTs (X.blk s H scope (compEnvC scope cl C X.env) fp) ifs tt wt)
    (he : ∀ (s : Shared) (H : Hp) (C : Addr) (cl : List (Str × Addr)) (fp : List Addr), PD (X.blk s H scope (compEnvC scope cl C X.env) fp) elt te we) (hgl : Gl X "range" := by rfl) (hst : starEach [a] X.env = [(false, eval a X.env)] := by rfl) (hs : ∀ x, foldedSetIterable (.Call (.Name "range" p) [a] [] pos2) X.env x = pure x := by intro _; rfl) :
    PD X (.ListComp elt [⟨tg, .Call (.Name "range" p) [a] [] pos2, ifs, 0⟩] scope pos) (tLc (iRng1 ta) g tt te (own.map (·.2))) (wLcR wa (own.map (·.2)) wg wt we) := by
  refine ⟨pe_lc hc hN (pi_range1 hgl hm ha.pe hst) ok (fun s H C cl fp => (hg s H C cl fp).pe) (fun s H C cl fp => (ht s H C cl fp).pe) (fun s H C cl fp => (he s H C cl fp).pe) hs, fun A S σ H ρ Q Q' R E h k => ?_⟩
  have sg : SndG X.G g wg := (hg X.s_0 X.H_0 0 [] []).sd
  have st : SndT X.G tt wt := (ht X.s_0 X.H_0 0 [] []).sd
  have se : SndE X.G te we := (he X.s_0 X.H_0 0 [] []).sd
  refine ha.sd A S σ H ρ _ _ R E h fun ds S1 A1 vs H1 g1 R1 hv q1 => ?_
  cases hv with
  | nil => exact q1.elim
  | cons h1 tv =>
    cases tv with
    | cons _ _ => cases h1 <;> exact q1.elim
    | nil =>
      cases h1 <;> first | exact q1.elim | skip
      rename_i j
      refine ⟨j, rfl, q1.1.1, q1.1.2, fun Dl hD => ?_⟩
      have gD := grow_mut (o := .lst []) R1 hD
      have RD := R1.newMut hD (vs := []) (ds := []) .nil
      have hm : (A1 ++ [Dl])[S1.length]? = some Dl := by rw [← R1.len, List.getElem?_append_right (Nat.le_refl _), Nat.sub_self]; rfl
      refine lc_range (lo := 0) (n := j.toNat) (fun i H2 => ∃ A2 S2, Grow (A1 ++ [Dl]) A2 (upd H1 Dl (.lst [])) H2 ∧ Rep X.G A2 S2 H2 ∧ lcD ((rangeD 0 j.toNat).drop i) (lcStep S1.length (own.map (·.2)) wg wt we ρ) (fun S' => Q' (.mut S1.length) S') S2)
        ⟨A1 ++ [Dl], S1 ++ [[]], .refl, RD, q1.2⟩ ?_ ?_
      · rintro i H2 hi ⟨A2, S2, g2, R2, q2⟩
        rw [drop_range 0 _ i hi] at q2
        exact lc_turn sg st se go R2 (E.mono (g1.trans (gD.trans g2))) (.int _) (g2.pre _ _ hm) q2 fun S' A' H' g' R' z => ⟨A', S', g2.trans g', R', z⟩
      · rintro H2 ⟨A2, S2, g2, R2, q2⟩
        have e : (rangeD 0 j.toNat).drop j.toNat = [] := List.drop_eq_nil_of_le (by unfold rangeD; simp)
        rw [e] at q2
        exact k _ S2 A2 _ H2 (g1.trans (gD.trans g2)) R2 (.mut (g2.pre _ _ hm)) q2
end
end DL

set_option Elab.async false
set_option linter.all false
set_option maxRecDepth 100000
/-! Rules: calls of defs, classes, built-ins; equality. -/
namespace DL
open PySem PySem.Spec PyProof.Rows L2
abbrev WF := List D → MS → (D → MS → Prop) → Prop
/-- a def's promise by data -/
def spW (mg : MG) (n : Nat) (w : WF) : Sp := fun vs H Q _ => ∃ A S ds Q', Rep mg A S H ∧ IsL mg A H vs ds ∧ ds.length = n ∧ w ds S Q' ∧ EndV mg A H Q Q'
theorem spW.len {mg : MG} {n : Nat} {w : WF} {vs : List V} {H : Hp} {Q : VK} {E : XK} (h : spW mg n w vs H Q E) : vs.length = n := by
  obtain ⟨A, S, ds, Q', R, l, e, _⟩ := h
  rw [l.length, e]
/-- a reading by data may be weakened -/
theorem spW.imp {mg : MG} {n : Nat} {w w' : WF} (i : ∀ ds S Q, w' ds S Q → w ds S Q) {vs : List V} {H : Hp} {Q : VK} {E : XK} (h : spW mg n w' vs H Q E) : spW mg n w vs H Q E := by
  obtain ⟨A, S, ds, Q', R, l, e, q, k⟩ := h
  exact ⟨A, S, ds, Q', R, l, e, i _ _ _ q, k⟩
def startD (N : List Str) (ds : List D) : DEnv := ds.map some ++ List.replicate (N.length - ds.length) none
theorem env_start {mg : MG} {A : List Addr} {H : Hp} {N : List Str} {vs : List V} {ds : List D} (l : IsL mg A H vs ds) : EnvD mg A H (L2.start N vs) (startD N ds) := by
  unfold L2.start startD
  refine ⟨by simp [l.length], fun i d h => ?_⟩
  by_cases hi : i < ds.length
  · rw [List.getElem?_append_left (by simpa using hi), List.getElem?_map] at h
    have hi2 : i < vs.length := by rw [l.length]; exact hi
    rw [List.getElem?_append_left (by simpa using hi2), List.getElem?_map]
    cases e : ds[i]? with
    | none => rw [e] at h; cases h
    | some d' =>
      rw [e] at h
      cases h
      obtain ⟨v, h1, h2⟩ := l.get e
      exact ⟨v, by rw [h1]; rfl, h2⟩
  · rw [List.getElem?_append_right (by simpa using hi), List.getElem?_replicate] at h
    split at h <;> cases h
section
variable {P : Program} {w : World} {K : PySem.W.Frag} {mg : Str → Option Value} {base : Heap}
/-- THE RULE for a def -/
theorem fnD {x qual : Str} {st : Stmt} {f : Addr} {fd : FuncData} {N ps : List Str} {k : Nat} {wf : WF} {ws : WS} (F : Fun K x qual st f fd) (S : FnScope N ps (defScope st))
    (hb : ∀ (cdv : Value) (A : Around) (outer : List Env) (s : Shared) (H : Hp) (E : XK), Room k (A.deeper (envOfC qual (defScope st) s.heap.objs.size f cdv)) →
      ∃ t, PDSs (cxOf CX0 P w K mg base N qual (defScope st) f cdv A outer s H E).nox (defBody st) t ws)
    (hw : ∀ ds S Q, ds.length = ps.length → wf ds S Q → ws { nx := fun _ S' => Q .non S', rt := Q } (startD N ds) S) : FnOk P w K mg base CX0 (k + 1) f fd ps (spW ⟨K, mg⟩ ps.length wf) := by
  refine F.ok S (fun vs H Q E h => h.len) fun cdv A outer s H vs Q E hr h => ?_
  obtain ⟨t, hp⟩ := hb cdv A outer s H E hr
  obtain ⟨A', S', ds, Q', R, l, e, q, k⟩ := h
  refine ⟨t, hp.pe, hp.sd A' S' (L2.start N vs) H (startD N ds) _ _ R (env_start l) (hw ds S' Q' e q) ⟨fun ρ1 S1 A1 σ1 H1 g1 R1 E1 q1 => k _ S1 A1 .non H1 g1 R1 .non q1, k, ?_, ?_⟩⟩
  · intro ρ1 S1 A1 σ1 H1 g1 R1 E1 q1
    exact q1.elim
  · intro ρ1 S1 A1 σ1 H1 g1 R1 E1 q1
    exact q1.elim
end
def wCall (n : Nat) (w : WF) (wl : WL) : WD := fun ρ S Q => wl ρ S fun ds S1 => ds.length = n ∧ w ds S1 Q
section
variable {X : Cx} {k n : Nat} {f C : Addr} {fd : FuncData} {ps : List Str} {w : WF} {x c : Str} {p pos : Pos} {e o : Expr} {es : List Expr} {t : TA} {wl : WL} {te : TE} {we : WD}
theorem d_call (F : FnOk X.prog X.w X.K X.mg X.base CX0 k f fd ps (spW X.G n w)) (hr : Room k X.A) (hm : X.mg x = some (.ref f)) (hk : PySem.W.keepIn X.K (.ref f) = true) (hb : Binds X.K fd ps [])
    (ha : PDA X (e :: es) t wl) (hg : Gl X x := by rfl) (hdb : (x == ("__debug__" : Str)) = false := by decide) (he : starEach (e :: es) X.env = (false, eval e X.env) :: starEach es X.env := by rfl) (hpl : (backTo pos (starEach es X.env)).any (·.1) = false := by rfl) :
    PD X (.Call (.Name x p) (e :: es) [] pos) (tCall (spW X.G n w) [] E0 t) (wCall n w wl) := by
  refine ⟨pe_call F hr hg hm hk hb .nil pass0 ha.pe hdb he hpl, fun A S σ H ρ Q Q' R E h k => ?_⟩
  refine ha.sd A S σ H ρ _ _ R E h fun ds S1 A1 vs H1 g1 R1 hv q1 => ?_
  refine ⟨A1, S1, ds, Q', R1, by rw [List.append_nil]; exact hv, q1.1, q1.2, k.mono g1⟩
/-- a property -/
def wProp (c : Str) (w : WF) (we : WD) : WD := fun ρ S Q => we ρ S fun x S1 => match x with
  | .ins c' fds => c' = c ∧ w [.ins c' fds] S1 Q
  | _ => False
theorem d_prop {f' : Str} {pa g : Addr} (he : PD X e te we) (hC : X.mg c = some (.ref C)) (cl : Cls X.K C) (hp : PropOf X.K C f' pa g) (F : FnOk X.prog X.w X.K X.mg X.base CX0 k g fd ps (spW X.G 1 w)) (hr : Room (k + 1) X.A) (hb : Binds X.K fd ps [])
    (hab : attributeBase e f' X.env (eval e X.env) = eval e X.env := by rfl) : PD X (.Attribute e f' pos) (tProp C (spW X.G 1 w) [] E0 te) (wProp c w we) := by
  refine ⟨pe_prop he.pe cl hp F hr hb .nil pass0 hab, fun A S σ H ρ Q Q' R E h k => ?_⟩
  refine he.sd A S σ H ρ _ _ R E h fun d S1 A1 v H1 g1 R1 hv q1 => ?_
  cases hv <;> first | exact q1.elim | skip
  rename_i a C' dx c' fs fds na ec r l
  obtain ⟨rfl, q1⟩ := q1
  have ec := (show X.mg _ = _ from ec)
  rw [hC] at ec
  cases ec
  exact ⟨a, dx, fs, rfl, r, A1, S1, [.ins c' fds], Q', R1, .cons (.ins na hC r l) .nil, rfl, q1, k.mono g1⟩
/-- an attribute -/
def wFld (c f : Str) (we : WD) : WD := fun ρ S Q => we ρ S fun x S1 => match x with
  | .ins c' fds => c' = c ∧ (match fds.lookup f with
    | some d => Q d S1
    | none => False)
  | _ => False
theorem d_fld {f' : Str} (he : PD X e te we) (hC : X.mg c = some (.ref C)) (cl : Cls X.K C) (na : NoAttr X.K C f') (hab : attributeBase e f' X.env (eval e X.env) = eval e X.env := by rfl) : PD X (.Attribute e f' pos) (tFld X.K te f') (wFld c f' we) := by
  refine ⟨pe_fld he.pe hab, fun A S σ H ρ Q Q' R E h k => ?_⟩
  refine he.sd A S σ H ρ _ _ R E h fun d S1 A1 v H1 g1 R1 hv q1 => ?_
  cases hv <;> first | exact q1.elim | skip
  rename_i a C' dx c' fs fds nA ec r l
  obtain ⟨rfl, q1⟩ := q1
  split at q1
  case h_2 => exact q1.elim
  rename_i d hd
  have ec := (show X.mg _ = _ from ec)
  rw [hC] at ec
  cases ec
  obtain ⟨v, h1, h2⟩ := l.lookup hd
  exact ⟨a, C, dx, fs, v, rfl, r, cl, na, h1, k d S1 A1 v H1 g1 R1 h2 q1⟩
/-- a new instance, whose __init__ stores what never changes -/
abbrev WI := List D → MS → (List (Str × D) → MS → Prop) → Prop
def spInit (mg : MG) (c : Str) (n : Nat) (w : WI) : Sp := fun vs H Q _ => ∃ x C dx A S vs' ds Q', vs = .ref x :: vs' ∧ mg.f c = some (.ref C) ∧ H x = some (.ins C dx []) ∧ x ∉ A ∧ Rep mg A S H ∧ IsL mg A H vs' ds ∧ ds.length = n ∧ w ds S Q' ∧
  ∀ fs fds H', (∀ b o, b ≠ x → H b = some o → H' b = some o) → H' x = some (.ins C dx fs) → IsF mg A H' fs fds → Q' fds S → Q .non H'
theorem spInit.len {mg : MG} {n : Nat} {w : WI} {vs : List V} {H : Hp} {Q : VK} {E : XK} (h : spInit mg c n w vs H Q E) : vs.length = n + 1 := by
  obtain ⟨x, C, dx, A, S, vs', ds, Q', rfl, _, _, _, _, l, e, _⟩ := h
  rw [List.length_cons, l.length, e]
def wMake (c : Str) (n : Nat) (w : WI) (dds : List D) (wl : WL) : WD := fun ρ S Q => wl ρ S fun ds S1 => (ds ++ dds).length = n ∧ w (ds ++ dds) S1 fun fds S2 => Q (.ins c fds) S2
theorem made {mg : MG} {A : List Addr} {S : MS} {H : Hp} {x dx C : Addr} {vs : List V} {ds : List D} {w : WI} {Q : VK} {Q' : D → MS → Prop} (R : Rep mg A S H) (hC : mg.f c = some (.ref C)) (l : IsL mg A H vs ds) (hn : ds.length = n) (hw : w ds S fun fds S2 => Q' (.ins c fds) S2) (k : EndV mg A H Q Q')
    (hx : H x = none) (hd : H dx = none) (ne : dx ≠ x) : spInit mg c n w (.ref x :: vs) (upd (upd H dx (.own x)) x (.ins C dx [])) (fun v H2 => v = .non ∧ Q (.ref x) H2) E0 := by
  have hx1 : upd H dx (.own x) x = none := by rw [upd_ne (Ne.symm ne)]; exact hx
  have g1 := grow_new (o := .own x) R hd
  have R1 := R.new (o := .own x) hd
  have g2 := grow_new (o := .ins C dx []) R1 hx1
  have R2 := R1.new (o := .ins C dx []) hx1
  have g := g1.trans g2
  refine ⟨x, C, dx, A, S, vs, ds, _, rfl, hC, upd_same, R.fresh hx, R2, l.mono g, hn, hw, fun fs fds H' kp hx' lf q => ⟨rfl, ?_⟩⟩
  have nx : x ∉ A := R.fresh hx
  have kp' : ∀ b o, b ∉ A → H b = some o → H' b = some o ∧ b ∉ A := fun b o nb e => ⟨kp b o (ne_of_none e hx) (g.keep b o nb e).1, nb⟩
  have gg : Grow A A H H' := ⟨fun _ _ e => e, kp'⟩
  have R' : Rep mg A S H' := ⟨R.len, R.nd, fun i a ds e1 e2 => by
    obtain ⟨vs, h1, h2⟩ := R.at_ i a ds e1 e2
    refine ⟨vs, kp a _ (fun z => nx (z ▸ List.mem_of_getElem? e1)) ?_, h2.mono gg⟩
    rw [upd_ne (ne_of_none h1 hx), upd_ne (ne_of_none h1 hd)]
    exact h1⟩
  exact k _ S A _ H' gg R' (.ins nx hC hx' lf) q
end
end DL

set_option Elab.async false
set_option linter.all false
set_option maxRecDepth 100000
/-! Rules: built-ins, own operators, equality. -/
namespace DL
open PySem PySem.Spec PyProof.Rows L2
section
variable {X : Cx} {k n : Nat} {f C : Addr} {fd : FuncData} {ps : List Str} {w : WF} {x c : Str} {p pos : Pos} {e o : Expr} {es : List Expr} {t : TA} {wl : WL} {te : TE} {we : WD} {id T : String} {r : List V → Hp → VK → Prop} {od : LD}
/-! ### a new instance -/
theorem d_make {wi : WI} {dvs : List V} {ds : List Value} {dds : List D} (M : Mk X.K C f) (F : FnOk X.prog X.w X.K X.mg X.base CX0 k f fd ps (spInit X.G x n wi)) (hr : Room (k + 1) X.A) (hm : X.mg x = some (.ref C)) (hb : Binds X.K fd ps ds) (hd : Vals dvs ds) (hdd : ∀ A H, IsL X.G A H dvs dds)
    (ha : PDA X (e :: es) t wl) (hg : Gl X x := by rfl) (hdb : (x == ("__debug__" : Str)) = false := by decide) (he : starEach (e :: es) X.env = (false, eval e X.env) :: starEach es X.env := by rfl) (hpl : (backTo pos (starEach es X.env)).any (·.1) = false := by rfl) :
    PD X (.Call (.Name x p) (e :: es) [] pos) (tMake C (spInit X.G x n wi) dvs E0 t) (wMake x n wi dds wl) := by
  refine ⟨pe_make M F hr hg hm hb hd pass0 ha.pe hdb he hpl, fun A S σ H ρ Q Q' R E h k => ?_⟩
  refine ha.sd A S σ H ρ _ _ R E h fun ds S1 A1 vs H1 g1 R1 hv q1 => ?_
  intro a dx na nd ne
  exact made R1 hm (hv.append (hdd A1 H1)) q1.1 q1.2 (k.mono g1) na nd ne
/-! ### built-ins by their names -/
theorem d_callB (hc : CallR X (.builtin id) r) (hs : SndC X.G r od) (hm : X.mg x = none) (ha : PDA X (e :: es) t wl) (hg : Gl X x := by rfl) (hv : bootBuiltins x = some (.builtin id) := by decide +kernel) (hn : x ≠ "__name__" := by decide) (hdb : (x == ("__debug__" : Str)) = false := by decide)
    (he : starEach (e :: es) X.env = (false, eval e X.env) :: starEach es X.env := by rfl) (hpl : (backTo pos (starEach es X.env)).any (·.1) = false := by rfl) : PD X (.Call (.Name x p) (e :: es) [] pos) (tCB r t) (wCB od wl) := ⟨pe_callB hc hg hm hv ha.pe hn hdb he hpl, snd_cb hs ha.sd⟩
theorem d_callTy (hc : CallR X (.type T) r) (hs : SndC X.G r od) (hm : X.mg x = none) (ha : PDA X (e :: es) t wl) (hg : Gl X x := by rfl) (hv : bootBuiltins x = some (.type T) := by decide +kernel) (hn : x ≠ "__name__" := by decide) (hdb : (x == ("__debug__" : Str)) = false := by decide)
    (he : starEach (e :: es) X.env = (false, eval e X.env) :: starEach es X.env := by rfl) (hpl : (backTo pos (starEach es X.env)).any (·.1) = false := by rfl) : PD X (.Call (.Name x p) (e :: es) [] pos) (tCB r t) (wCB od wl) := ⟨pe_callTy hc hg hm hv ha.pe hn hdb he hpl, snd_cb hs ha.sd⟩
theorem d_callF (hc : CallR X (.builtin id) r) (hs : SndC X.G r od) (hm : X.mg x = some (.builtin id)) (ha : PDA X (e :: es) t wl) (hg : Gl X x := by rfl) (hdb : (x == ("__debug__" : Str)) = false := by decide)
    (he : starEach (e :: es) X.env = (false, eval e X.env) :: starEach es X.env := by rfl) (hpl : (backTo pos (starEach es X.env)).any (·.1) = false := by rfl) : PD X (.Call (.Name x p) (e :: es) [] pos) (tCB r t) (wCB od wl) := ⟨pe_callBfun hc hg hm ha.pe hdb he hpl, snd_cb hs ha.sd⟩
theorem CallR.or {f : Value} {r r' : List V → Hp → VK → Prop} (h : CallR X f r) (h' : CallR X f r') : CallR X f (fun xs H Q => r xs H Q ∨ r' xs H Q) := by
  intro pins s σ H vs us Q I rv q
  rcases q with q | q
  · exact h pins s σ H vs us Q I rv q
  · exact h' pins s σ H vs us Q I rv q
theorem UnR.or {f : Value → Sem Value} {r r' : V → Hp → VK → Prop} (h : UnR X f r) (h' : UnR X f r') : UnR X f (fun x H Q => r x H Q ∨ r' x H Q) := by
  intro pins s σ H x v Q I rv q
  rcases q with q | q
  · exact h pins s σ H x v Q I rv q
  · exact h' pins s σ H x v Q I rv q
theorem SndC.or {mg : MG} {r r' : List V → Hp → VK → Prop} {o o' : LD} (h : SndC mg r o) (h' : SndC mg r' o') : SndC mg (fun xs H Q => r xs H Q ∨ r' xs H Q) (fun xs S Q => o xs S Q ∨ o' xs S Q) := by
  intro A S H x dx Q Q' R hx q k
  rcases q with q | q
  · exact .inl (h A S H x dx Q Q' R hx q k)
  · exact .inr (h' A S H x dx Q Q' R hx q k)
theorem SndC.imp {mg : MG} {r : List V → Hp → VK → Prop} {o o' : LD} (h : SndC mg r o) (i : ∀ xs S Q, o' xs S Q → o xs S Q) : SndC mg r o' := fun A S H x dx Q Q' R hx q k => h A S H x dx Q Q' R hx (i _ _ _ q) k
theorem SndU.or {mg : MG} {r r' : V → Hp → VK → Prop} {o o' : UD} (h : SndU mg r o) (h' : SndU mg r' o') : SndU mg (fun x H Q => r x H Q ∨ r' x H Q) (fun x S Q => o x S Q ∨ o' x S Q) := by
  intro A S H x dx Q Q' R hx q k
  rcases q with q | q
  · exact .inl (h A S H x dx Q Q' R hx q k)
  · exact .inr (h' A S H x dx Q Q' R hx q k)
theorem SndU.imp {mg : MG} {r : V → Hp → VK → Prop} {o o' : UD} (h : SndU mg r o) (i : ∀ x S Q, o' x S Q → o x S Q) : SndU mg r o' := fun A S H x dx Q Q' R hx q k => h A S H x dx Q Q' R hx (i _ _ _ q) k
end
section
variable {mg : MG}
theorem IsL.one {A : List Addr} {H : Hp} {vs : List V} {d : D} (l : IsL mg A H vs [d]) : ∃ v, vs = [v] ∧ Is mg A H v d := by
  cases l with
  | cons h t => cases t; exact ⟨_, rfl, h⟩
theorem IsL.two {A : List Addr} {H : Hp} {vs : List V} {d e : D} (l : IsL mg A H vs [d, e]) : ∃ v w, vs = [v, w] ∧ Is mg A H v d ∧ Is mg A H w e := by
  cases l with
  | cons h t => obtain ⟨w, rfl, h2⟩ := t.one; exact ⟨_, _, rfl, h, h2⟩
/-- int(n), int(flag) -/
def oInt1 : LD := fun ds S Q => match ds with
  | [.int i] => Q (.int i) S
  | [.bl b] => Q (.int (if b then 1 else 0)) S
  | _ => False
theorem snd_int1 : SndC mg (fun xs H Q => (∃ i, xs = [.int i] ∧ Q (.int i) H) ∨ ∃ k, xs = [.bl k] ∧ Q (.int (if k then 1 else 0)) H) oInt1 := by
  intro A S H xs ds Q Q' R l q k
  cases l with
  | nil => exact q.elim
  | cons h t =>
    cases t with
    | cons _ _ => cases h <;> exact q.elim
    | nil =>
      cases h <;> first | exact q.elim | skip
      · exact .inr ⟨_, rfl, k _ S A _ H .refl R (.int _) q⟩
      · exact .inl ⟨_, rfl, k _ S A _ H .refl R (.int _) q⟩
def oAbsI : LD := fun ds S Q => match ds with
  | [.int i] => Q (.int (if i < 0 then -i else i)) S
  | _ => False
theorem snd_absI : SndC mg (fun xs H Q => ∃ i, xs = [.int i] ∧ Q (.int (if i < 0 then -i else i)) H) oAbsI := by
  intro A S H xs ds Q Q' R l q k
  cases l with
  | nil => exact q.elim
  | cons h t =>
    cases t with
    | cons _ _ => cases h <;> exact q.elim
    | nil =>
      cases h <;> first | exact q.elim | skip
      exact ⟨_, rfl, k _ S A _ H .refl R (.int _) q⟩
def oLen : LD := fun ds S Q => match ds with
  | [.lst es] => Q (.int es.length) S
  | [.scr es] => Q (.int es.length) S
  | [.tup es] => Q (.int es.length) S
  | [.mut m] => ∃ es, S[m]? = some es ∧ Q (.int es.length) S
  | _ => False
theorem snd_len : SndC mg (fun xs H Q => ∃ p ys, xs = [.ref p] ∧ (SqL mg.K H p ys ∨ SqT mg.K H p ys) ∧ Q (.int ys.length) H) oLen := by
  intro A S H xs ds Q Q' R l q k
  cases l with
  | nil => exact q.elim
  | cons h t =>
    cases t with
    | cons _ _ => cases h <;> exact q.elim
    | nil =>
      cases h <;> first | exact q.elim | skip
      · rename_i a vs ds n r l
        exact ⟨a, vs, rfl, .inr (.inl r), by rw [l.length]; exact k _ S A _ H .refl R (.int _) q⟩
      · rename_i a vs ds n r l
        exact ⟨a, vs, rfl, .inl (.of r), by rw [l.length]; exact k _ S A _ H .refl R (.int _) q⟩
      · rename_i a vs ds n r l
        exact ⟨a, vs, rfl, .inl (.inl r), by rw [l.length]; exact k _ S A _ H .refl R (.int _) q⟩
      · rename_i a vs ds r l
        exact ⟨a, vs, rfl, .inl (r H), by rw [l.length]; exact k _ S A _ H .refl R (.int _) q⟩
      · rename_i a m ea
        obtain ⟨es, hs, q⟩ := q
        obtain ⟨vs, h1, l⟩ := R.at_ m a es ea hs
        exact ⟨a, vs, rfl, .inl (.of h1), by rw [l.length]; exact k _ S A _ H .refl R (.int _) q⟩
def oGcd : LD := fun ds S Q => match ds with
  | [.int a, .int b] => Q (.int ((Nat.gcd a.natAbs b.natAbs : Nat) : Int)) S
  | _ => False
theorem snd_gcd : SndC mg rGcd oGcd := by
  intro A S H xs ds Q Q' R l q k
  match ds, q, l with
  | [.int a, .int b], q, l =>
    obtain ⟨v, w, rfl, h1, h2⟩ := l.two
    cases h1; cases h2
    exact ⟨a, b, rfl, k _ S A _ H .refl R (.int _) q⟩
def oMax2 : LD := fun ds S Q => match ds with
  | [.int a, .int b] => Q (.int (if b > a then b else a)) S
  | _ => False
def oMin2 : LD := fun ds S Q => match ds with
  | [.int a, .int b] => Q (.int (if b < a then b else a)) S
  | _ => False
theorem snd_max2 : SndC mg (fun xs H Q => ∃ i j, xs = [.int i, .int j] ∧ Q (.int (if j > i then j else i)) H) oMax2 := by
  intro A S H xs ds Q Q' R l q k
  match ds, q, l with
  | [.int a, .int b], q, l =>
    obtain ⟨v, w, rfl, h1, h2⟩ := l.two
    cases h1; cases h2
    exact ⟨a, b, rfl, k _ S A _ H .refl R (.int _) q⟩
theorem snd_min2 : SndC mg (fun xs H Q => ∃ i j, xs = [.int i, .int j] ∧ Q (.int (if j < i then j else i)) H) oMin2 := by
  intro A S H xs ds Q Q' R l q k
  match ds, q, l with
  | [.int a, .int b], q, l =>
    obtain ⟨v, w, rfl, h1, h2⟩ := l.two
    cases h1; cases h2
    exact ⟨a, b, rfl, k _ S A _ H .refl R (.int _) q⟩
/-- divmod by a positive divisor -/
def oDivmod : LD := fun ds S Q => match ds with
  | [.int i, .int j] => (0 < j ∧ j.natAbs.log2 < 9000) ∧ Q (.tup [.int (i / j), .int (i % j)]) S
  | _ => False
theorem snd_divmod : SndC mg (fun xs H Q => ∃ i j, xs = [.int i, .int j] ∧ CDivP i j ∧ ∀ p, H p = none → Q (.ref p) (upd H p (.tup [.int (i / j), .int (i % j)]))) oDivmod := by
  intro A S H xs ds Q Q' R l q k
  match ds, q, l with
  | [.int i, .int j], q, l =>
    obtain ⟨v, w, rfl, h1, h2⟩ := l.two
    cases h1; cases h2
    refine ⟨i, j, rfl, ⟨q.1.1, PyProof.noPylong_of_log2 q.1.2⟩, fun p hp => ?_⟩
    exact k _ S A _ _ (grow_new R hp) (R.new hp) (.tup (R.fresh hp) (.inl upd_same) (.cons (.int _) (.cons (.int _) .nil))) q.2
/-- all of a list of truths -/
def bls : List D → Option (List Bool)
  | [] => some []
  | .bl b :: ds => (bls ds).map (b :: ·)
  | _ => none
theorem IsL.bls {A : List Addr} {H : Hp} : ∀ {vs : List V} {ds : List D} {bs : List Bool}, IsL mg A H vs ds → DL.bls ds = some bs → vs = bs.map V.bl
  | _, _, _, .nil, e => by cases e; rfl
  | _, _, bs, .cons h t, e => by
    cases h <;> first | (cases e; done) | skip
    rename_i b
    cases q : DL.bls _ with
    | none => rw [DL.bls, q] at e; cases e
    | some cs => rw [DL.bls, q] at e; cases e; rw [IsL.bls t q]; rfl
def oAll : LD := fun ds S Q => match ds with
  | [.lst es] => ∃ bs, bls es = some bs ∧ Q (.bl (bs.all id)) S
  | [.mut m] => ∃ es bs, S[m]? = some es ∧ bls es = some bs ∧ Q (.bl (bs.all id)) S
  | _ => False
theorem snd_all {K : PySem.W.Frag} : SndC mg (rAll K) oAll := by
  intro A S H xs ds Q Q' R l q k
  cases l with
  | nil => exact q.elim
  | cons h t =>
    cases t with
    | cons _ _ => cases h <;> exact q.elim
    | nil =>
      cases h <;> first | exact q.elim | skip
      · rename_i a vs ds n r l
        obtain ⟨bs, e, q⟩ := q
        exact ⟨a, bs, rfl, by rw [← l.bls e]; exact .of r, k _ S A _ H .refl R (.bl _) q⟩
      · rename_i a m ea
        obtain ⟨es, bs, hs, e, q⟩ := q
        obtain ⟨vs, h1, l⟩ := R.at_ m a es ea hs
        exact ⟨a, bs, rfl, by rw [← l.bls e]; exact .of h1, k _ S A _ H .refl R (.bl _) q⟩
/-- str(n) -/
def oStrI : LD := fun ds S Q => match ds with
  | [.int i] => i.natAbs.log2 < 1920 ∧ Q (.str (toString i)) S
  | _ => False
theorem snd_strI : SndC mg (fun xs H Q => ∃ i, xs = [.int i] ∧ i.natAbs.log2 < 1920 ∧ Q (.str (toString i)) H) oStrI := by
  intro A S H xs ds Q Q' R l q k
  cases l with
  | nil => exact q.elim
  | cons h t =>
    cases t with
    | cons _ _ => cases h <;> exact q.elim
    | nil =>
      cases h <;> first | exact q.elim | skip
      exact ⟨_, rfl, q.1, k _ S A _ H .refl R (.str _) q.2⟩

/-! ### own operators -/
def oOwnB (c : Str) (w : WF) : OD := fun x y S Q => (∃ fds, x = .ins c fds) ∧ ((∃ fds, y = .ins c fds) ∨ ∃ i, y = .int i) ∧ w [x, y] S Q
def oOwnI (c : Str) (w : WF) : OD := fun x y S Q => (∃ i, x = .int i) ∧ (∃ fds, y = .ins c fds) ∧ w [y, x] S Q
def oOwnU (c : Str) (w : WF) : UD := fun x S Q => (∃ fds, x = .ins c fds) ∧ w [x] S Q
def oOwnL (c : Str) (w : WF) : LD := fun ds S Q => match ds with
  | [x] => (∃ fds, x = .ins c fds) ∧ w [x] S Q
  | _ => False
theorem Is.insOf {A : List Addr} {H : Hp} {c : Str} {C : Addr} {v : V} {fds : List (Str × D)} (h : Is mg A H v (.ins c fds)) (hC : mg.f c = some (.ref C)) : Ins C H v := by
  cases h with
  | ins n e r l => rw [hC] at e; cases e; exact ⟨_, _, _, rfl, r⟩
theorem Is.intOf {A : List Addr} {H : Hp} {v : V} {i : Int} (h : Is mg A H v (.int i)) : v = .int i := by cases h; rfl
theorem snd_ownB {c : Str} {C : Addr} {w : WF} {E : XK} (hC : mg.f c = some (.ref C)) : SndR mg (rOwnB C (spW mg 2 w) E) (oOwnB c w) := by
  intro A S H x y dx dy Q Q' R hx hy q k
  obtain ⟨⟨fds, rfl⟩, hyy, q⟩ := q
  refine ⟨hx.insOf hC, ?_, A, S, [_, dy], Q', R, .cons hx (.cons hy .nil), rfl, q, k⟩
  rcases hyy with ⟨fds', rfl⟩ | ⟨i, rfl⟩
  · exact .inl (hy.insOf hC)
  · exact .inr ⟨i, hy.intOf⟩
theorem snd_ownI {c : Str} {C : Addr} {w : WF} {E : XK} (hC : mg.f c = some (.ref C)) : SndR mg (rOwnI C (spW mg 2 w) E) (oOwnI c w) := by
  intro A S H x y dx dy Q Q' R hx hy q k
  obtain ⟨⟨i, rfl⟩, ⟨fds, rfl⟩, q⟩ := q
  exact ⟨⟨i, hx.intOf⟩, hy.insOf hC, A, S, [_, _], Q', R, .cons hy (.cons hx .nil), rfl, q, k⟩
theorem snd_ownU {c : Str} {C : Addr} {w : WF} {E : XK} (hC : mg.f c = some (.ref C)) : SndU mg (rOwnU C (spW mg 1 w) E) (oOwnU c w) := by
  intro A S H x dx Q Q' R hx q k
  obtain ⟨⟨fds, rfl⟩, q⟩ := q
  exact ⟨hx.insOf hC, A, S, [_], Q', R, .cons hx .nil, rfl, q, k⟩
end

/-! ### == and != of data -/
mutual
def dat (S : MS) : D → Option PyData
  | .non => some .none
  | .bl b => some (.bool b)
  | .int i => some (.int i)
  | .str x => some (.str x)
  | .tup ds => (datL S ds).map .tuple
  | .lst ds => (datL S ds).map .list
  | _ => none
def datL (S : MS) : List D → Option (List PyData)
  | [] => some []
  | d :: ds => match dat S d, datL S ds with
    | some a, some l => some (a :: l)
    | _, _ => none
end
/-- with a list that may change at the top -/
def datM (S : MS) : D → Option PyData
  | .mut m => (S[m]?).bind fun ds => (datL S ds).map .list
  | d => dat S d
section
variable {mg : MG} {A : List Addr} {S : MS} {H : Hp} {K : PySem.W.Frag}
mutual
theorem Is.dp : ∀ {v : V} {d : D} {p : PyData}, Is mg A H v d → dat S d = some p → Dp K H v p
  | _, _, _, .non, e => by cases e; exact .non
  | _, _, _, .bl b, e => by cases e; exact .bl b
  | _, _, _, .int i, e => by cases e; exact .int i
  | _, _, _, .str x, e => by cases e; exact .str x
  | _, _, _, .ty n, e => by cases e
  | _, _, _, .cls _, e => by cases e
  | _, _, p, .tup n r l, e => by
    rw [dat] at e
    cases q : datL S _ with
    | none => rw [q] at e; cases e
    | some ps => rw [q] at e; cases e; exact .tup (.inl r) (IsL.dp l q)
  | _, _, p, .lst n r l, e => by
    rw [dat] at e
    cases q : datL S _ with
    | none => rw [q] at e; cases e
    | some ps => rw [q] at e; cases e; exact .lst (.of r) (IsL.dp l q)
  | _, _, p, .scr n r l, e => by cases e
  | _, _, p, .scrK r l, e => by cases e
  | _, _, _, .ins _ _ _ _, e => by cases e
  | _, _, _, .mut _, e => by cases e
  | _, _, _, .obj _, e => by cases e
  | _, _, _, .dct _ _ _, e => by cases e
  | _, _, _, .exc _ _ _, e => by cases e
theorem IsL.dp : ∀ {vs : List V} {ds : List D} {ps : List PyData}, IsL mg A H vs ds → datL S ds = some ps → DpAll K H vs ps
  | _, _, _, .nil, e => by cases e; exact .nil
  | _, _, _, .cons h t, e => by
    rw [datL] at e
    split at e
    · rename_i a l h1 h2
      cases e
      exact .cons (Is.dp h h1) (IsL.dp t h2)
    · cases e
end
theorem Is.dpM {v : V} {d : D} {p : PyData} (R : Rep mg A S H) (h : Is mg A H v d) (e : datM S d = some p) : Dp K H v p := by
  cases d with
  | «mut» m =>
    cases h with
    | «mut» ea =>
      rw [datM] at e
      cases q : S[m]? with
      | none => rw [q] at e; cases e
      | some ds =>
        rw [q] at e
        obtain ⟨vs, h1, l⟩ := R.at_ m _ ds ea q
        cases q2 : datL S ds with
        | none => rw [Option.bind_some, q2] at e; cases e
        | some ps => rw [Option.bind_some, q2] at e; cases e; exact .lst (.of h1) (IsL.dp l q2)
  | non => exact Is.dp (S := S) h e
  | bl b => exact Is.dp (S := S) h e
  | int i => exact Is.dp (S := S) h e
  | str x => exact Is.dp (S := S) h e
  | ty n => exact Is.dp (S := S) h e
  | cls c => exact Is.dp (S := S) h e
  | tup ds => exact Is.dp (S := S) h e
  | lst ds => exact Is.dp (S := S) h e
  | scr ds => exact Is.dp (S := S) h e
  | ins c fs => exact Is.dp (S := S) h e
  | obj a => exact Is.dp (S := S) h e
  | dct ks => exact Is.dp (S := S) h e
  | exc a d fs => exact Is.dp (S := S) h e
end
def oEqD : OD := fun x y S Q => ∃ d e, datM S x = some d ∧ datM S y = some e ∧ SeqAt.shaped d = true ∧ SeqAt.shaped e = true ∧ Q (.bl (PyData.eqv d e)) S
def oNeD : OD := fun x y S Q => ∃ d e, datM S x = some d ∧ datM S y = some e ∧ SeqAt.shaped d = true ∧ SeqAt.shaped e = true ∧ Q (.bl (!PyData.eqv d e)) S
theorem snd_eqD {mg : MG} {K : PySem.W.Frag} : SndR mg (rEqD K) oEqD := by
  intro A S H x y dx dy Q Q' R hx hy ⟨d, e, h1, h2, s1, s2, q⟩ k
  exact ⟨d, e, hx.dpM R h1, hy.dpM R h2, s1, s2, k _ S A _ H .refl R (.bl _) q⟩
theorem snd_neD {mg : MG} {K : PySem.W.Frag} : SndR mg (rNeD K) oNeD := by
  intro A S H x y dx dy Q Q' R hx hy ⟨d, e, h1, h2, s1, s2, q⟩ k
  exact ⟨d, e, hx.dpM R h1, hy.dpM R h2, s1, s2, k _ S A _ H .refl R (.bl _) q⟩
/-! ### texts, lists put together -/
def oCatS : OD := fun x y S Q => match x, y with
  | .str i, .str j => i.length + j.length ≤ sizeLine ∧ Q (.str (i ++ j)) S
  | _, _ => False
theorem snd_catS {mg : MG} : SndR mg (fun x y H Q => ∃ i j, x = .str i ∧ y = .str j ∧ i.length + j.length ≤ sizeLine ∧ Q (.str (i ++ j)) H) oCatS := by
  intro A S H x y dx dy Q Q' R hx hy q k
  cases hx <;> cases hy <;> first | exact q.elim | skip
  exact ⟨_, _, rfl, rfl, q.1, k _ S A _ H .refl R (.str _) q.2⟩
/-- what a list holds -/
def itemsD (S : MS) : D → Option (List D)
  | .lst ds => some ds
  | .mut m => S[m]?
  | _ => none
/-- xs + ys, the result never changes (oCatL) or may change (oCatLM) -/
def oCatL : OD := fun x y S Q => ∃ ds es, itemsD S x = some ds ∧ itemsD S y = some es ∧ ds.length + es.length ≤ sizeLine ∧ Q (.lst (ds ++ es)) S
def oCatLM : OD := fun x y S Q => ∃ ds es, itemsD S x = some ds ∧ itemsD S y = some es ∧ ds.length + es.length ≤ sizeLine ∧ Q (.mut S.length) (S ++ [ds ++ es])
theorem Is.items {mg : MG} {A : List Addr} {S : MS} {H : Hp} {x : V} {d : D} {ds : List D} (R : Rep mg A S H) (h : Is mg A H x d) (e : itemsD S d = some ds) : ∃ a vs, x = .ref a ∧ H a = some (.lst vs) ∧ IsL mg A H vs ds := by
  cases h with
  | @lst a vs es n r l => cases e; exact ⟨a, vs, rfl, r, l⟩
  | @«mut» a m ea =>
    obtain ⟨vs, h1, l⟩ := R.at_ m a ds ea e
    exact ⟨a, vs, rfl, h1, l⟩
  | _ => cases e
theorem snd_catL {mg : MG} : SndR mg rCat oCatL := by
  intro A S H x y dx dy Q Q' R hx hy q k
  obtain ⟨ds, es, h1, h2, hz, q⟩ := q
  obtain ⟨a, vs, rfl, e1, l1⟩ := hx.items R h1
  obtain ⟨b, ws, rfl, e2, l2⟩ := hy.items R h2
  refine ⟨a, b, vs, ws, rfl, rfl, e1, e2, by rw [l1.length, l2.length]; exact hz, fun p hp => ?_⟩
  have g := grow_new (o := .lst (vs ++ ws)) R hp
  exact k _ S A _ _ g (R.new hp) (.lst (R.fresh hp) upd_same ((l1.append l2).mono g)) q
theorem snd_catLM {mg : MG} : SndR mg rCat oCatLM := by
  intro A S H x y dx dy Q Q' R hx hy q k
  obtain ⟨ds, es, h1, h2, hz, q⟩ := q
  obtain ⟨a, vs, rfl, e1, l1⟩ := hx.items R h1
  obtain ⟨b, ws, rfl, e2, l2⟩ := hy.items R h2
  refine ⟨a, b, vs, ws, rfl, rfl, e1, e2, by rw [l1.length, l2.length]; exact hz, fun p hp => ?_⟩
  have g := grow_mut (o := .lst (vs ++ ws)) R hp
  refine k _ _ (A ++ [p]) _ _ g (R.newMut hp (l1.append l2)) (.mut ?_) q
  rw [← R.len, List.getElem?_append_right (Nat.le_refl _), Nat.sub_self]
  rfl
/-! ### append -/
section
variable {X : Cx} {o e : Expr} {es : List Expr} {to : TE} {wo : WD} {t : TA} {wl : WL} {apos cpos : Pos}
def wAppend (wo : WD) (wl : WL) : WD := fun ρ S Q => wo ρ S fun o S1 => match o with
  | .mut m => wl ρ S1 fun ds S2 => match ds with
    | [d] => ∃ acc, S2[m]? = some acc ∧ acc.length < sizeLine ∧ Q .non (S2.set m (acc ++ [d]))
    | _ => False
  | _ => False
theorem d_append (ho : PD X o to wo) (ha : PDA X (e :: es) t wl)
    (hbase : attributeBase o "append" X.env (eval o X.env) = eval o X.env := by rfl)
    (hfew : ((backTo cpos (starEach (e :: es) X.env)).all (fun x => !x.1) && (backToKw cpos (keywordEach [] X.env)).all (fun x => x.1.isSome)
      && decide ((e :: es).length + ([] : List Keyword).length + (if ([] : List Keyword).isEmpty then 0 else 1) < 30)) = true := by rfl)
    (hline : (apos.endLine == cpos.line) = true := by rfl) (hs : starEach (e :: es) X.env = (false, eval e X.env) :: starEach es X.env := by rfl) (hplain : (backTo cpos (starEach es X.env)).any (·.1) = false := by rfl) :
    PD X (.Call (.Attribute o "append" apos) (e :: es) [] cpos) (tBM X.K "list" rAppend to t) (wAppend wo wl) := by
  refine ⟨pe_bm PySem.F.plainAttrs_list PySem.F.slot_list_append PySem.F.type_list_append mt_append ho.pe ha.pe hbase hfew hline hs hplain, fun A S σ H ρ Q Q' R E h k => ?_⟩
  refine ho.sd A S σ H ρ _ _ R E h fun o S1 A1 v H1 g1 R1 hv q1 => ?_
  cases hv <;> first | exact q1.elim | skip
  rename_i a m ea
  obtain ⟨es0, he0⟩ := R1.gets ea
  obtain ⟨vs0, h0, _⟩ := R1.at_ m a es0 ea he0
  refine ⟨.inl ⟨rfl, _, .of h0⟩, ?_⟩
  refine ha.sd A1 S1 σ H1 ρ _ _ R1 (E.mono g1) q1 fun ds S2 A2 vs H2 g2 R2 hvs q2 => ?_
  match ds, hvs, q2 with
  | [d], hvs, q2 =>
    obtain ⟨v, rfl, hv⟩ := hvs.one
    obtain ⟨acc, e1, hz, q3⟩ := q2
    have ea2 := g2.pre _ _ ea
    obtain ⟨ws, h5, l5⟩ := R2.at_ m a acc ea2 e1
    refine ⟨a, ws, v, rfl, rfl, h5, by rw [l5.length]; exact hz, ?_⟩
    have gw := grow_write (H := H2) (o := .lst (ws ++ [v])) ea2
    exact k _ _ A2 _ _ ((g1.trans g2).trans gw) (R2.write ea2 (l5.append (.cons hv .nil))) .non q3
end
end DL

set_option Elab.async false
set_option linter.all false
set_option maxRecDepth 100000
/-! Rules: isinstance, texts of own objects, f-strings, slices, truth. -/
namespace DL
open PySem PySem.Spec PyProof.Rows L2
/-! ### isinstance -/
inductive TyK where
  | ty (n : String) | cls (c : Str)
def tyOf : D → Option TyK
  | .non => some (.ty "NoneType")
  | .bl _ => some (.ty "bool")
  | .int _ => some (.ty "int")
  | .str _ => some (.ty "str")
  | .tup _ => some (.ty "tuple")
  | .lst _ => some (.ty "list")
  | .mut _ => some (.ty "list")
  | .ins c _ => some (.cls c)
  | .dct _ => some (.ty "dict")
  | _ => none
def clOf : D → Option TyK
  | .ty n => some (.ty n)
  | .cls c => some (.cls c)
  | _ => none
def ValK (mg : MG) : TyK → Value → Prop
  | .ty n, v => v = .type n
  | .cls c, v => mg.f c = some v ∧ ∃ C, v = .ref C
/-- what isinstance asks of an instance's class -/
structure InsT (K : PySem.W.Frag) (C : Addr) : Prop where
  cl : Cls K C
  ha : PySem.W.findIn K (.ref C) "__class__" = some (some (.builtin "object.__class__"))
  hn : PySem.W.specialIn K (.builtin "object.__class__") "__get__" = some (some (.builtin "getset_descriptor.__get__"))
  htk : PySem.W.takesIn K (.builtin "object.__class__") = some true
  hm : PySem.W.mroIn K C (.type "object") = some true
structure IsiT (K : PySem.W.Frag) (mg : MG) (kt : TyK → TyK → Option Bool) : Prop where
  ok : ∀ a b r va vb, kt a b = some r → ValK mg a va → ValK mg b vb → PySem.W.kitOne K va vb = some r
  ins : ∀ c b r C, kt (.cls c) b = some r → mg.f c = some (.ref C) → InsT K C
def oIsi (kt : TyK → TyK → Option Bool) : LD := fun ds S Q => match ds with
  | [x, c] => match tyOf x, clOf c with
    | some a, some b => (match kt a b with | some r => Q (.bl r) S | none => False)
    | _, _ => False
  | _ => False
theorem snd_isi {K : PySem.W.Frag} {mg : MG} {kt : TyK → TyK → Option Bool} (T : IsiT K mg kt) : SndC mg (rIsi K) (oIsi kt) := by
  intro A S H xs ds Q Q' R l q k
  match ds, q, l with
  | [x, c], q, l =>
    obtain ⟨v, w, rfl, hx, hc⟩ := l.two
    have q : ∃ a b r, tyOf x = some a ∧ clOf c = some b ∧ kt a b = some r ∧ Q' (.bl r) S := by
      unfold oIsi at q
      dsimp only at q
      split at q
      · rename_i a b e1 e2
        split at q
        · rename_i r e3
          exact ⟨a, b, r, e1, e2, e3, q⟩
        · exact q.elim
      · exact q.elim
    obtain ⟨a, b, r, e1, e2, e3, q⟩ := q
    have hb : ∃ vb, ValK mg b vb ∧ ClsV w vb := by
      cases hc with
      | ty n => cases e2; exact ⟨_, rfl, .ty _⟩
      | cls e => cases e2; exact ⟨_, ⟨e, _, rfl⟩, .own _⟩
      | _ => cases e2
    obtain ⟨vb, vb1, vb2⟩ := hb
    have hq : Q (.bl r) H := k _ S A _ H .refl R (.bl _) q
    have fin : ∀ va, ValK mg a va → TyX K H v va → rIsi K [v, w] H Q := fun va h1 h2 => ⟨v, w, va, vb, r, rfl, vb2, h2, T.ok a b r va vb e3 h1 vb1, hq⟩
    cases hx with
    | non => cases e1; exact fin _ rfl (.base .non)
    | bl b => cases e1; exact fin _ rfl (.base (.bl _))
    | int i => cases e1; exact fin _ rfl (.base (.int _))
    | str x => cases e1; exact fin _ rfl (.base (.str _))
    | tup n rd l =>
      cases e1
      rcases rd with rd | ⟨o, rd⟩
      · exact fin _ rfl (.base (.tup rd))
      · exact fin _ rfl (.fTuple rd)
    | lst n rd l => cases e1; exact fin _ rfl (.base (.lst rd))
    | scr n rd l => cases e1
    | scrK r l => cases e1
    | ins n e rd l =>
      cases e1
      have t := T.ins _ _ _ _ e3 e
      exact fin _ ⟨e, _, rfl⟩ (.base (.ins rd t.cl t.ha t.hn t.htk t.hm))
    | «mut» ea =>
      cases e1
      obtain ⟨es, he⟩ := R.gets ea
      obtain ⟨vs, h1, _⟩ := R.at_ _ _ es ea he
      exact fin _ rfl (.base (.lst h1))
    | ty n => cases e1
    | cls e => cases e1
    | obj a => cases e1
    | dct n rd l => cases e1; exact fin _ rfl (.base (.dK rd))
    | exc n rd l => cases e1
/-! ### abs, str, repr of an own object -/
section
variable {X : Cx} {k : Nat} {C g : Addr} {fd : FuncData} {ps : List Str} {sp : Sp}
theorem run_at {pins : List (Addr × Obj)} {σ : L2.St} {H : Hp} {s : Shared} {Q : VK} {us : List Value} {vs : List V} {A : Around} (F : FnOk X.prog X.w X.K X.mg X.base CX0 k g fd ps sp) (hr : Room k A) (he : Env0 X.prog X.w X.K X.mg X.base A X.stack s H) (hb : Binds X.K fd ps [])
    (I : Inv X pins σ H s) (r : Vals vs us) (h : sp vs H Q E0) : wpAny (model X.prog X.w) A (call (.ref g) us) (EP X pins σ Q) X.xe s := by
  have hl : us.length = ps.length := by rw [← r.length]; exact F.len _ _ _ _ h
  refine wpAny_call (codeAny_mono (F.run A X.stack s H ⟨us, []⟩ us vs Q E0 hr he (by simpa using hb s us I.kIn (by simpa using hl)) r h) fun r s' hq => ?_)
  cases r with
  | error e => exact False.elim hq
  | ok fl =>
    cases fl with
    | ret u => exact I.after hq
    | next => exact False.elim hq
    | brk => exact False.elim hq
    | cont => exact False.elim hq
def rOwn1 (C : Addr) (sp : Sp) : List V → Hp → VK → Prop := fun xs H Q => ∃ a dx fs, xs = [V.ref a] ∧ H a = some (.ins C dx fs) ∧ sp [.ref a] H Q E0
def rOwnS (C : Addr) (sp : Sp) : List V → Hp → VK → Prop := fun xs H Q => ∃ a dx fs, xs = [V.ref a] ∧ H a = some (.ins C dx fs) ∧ sp [.ref a] H (fun v H' => (∃ z, v = .str z) ∧ Q v H') E0
theorem call_absOwn (M : OwnM X.K C "__abs__" g) (F : FnOk X.prog X.w X.K X.mg X.base CX0 k g fd ps sp) (hr : Room (k + 1) X.A) (hb : Binds X.K fd ps []) : CallR X (.builtin "abs") (rOwn1 C sp) := by
  intro pins s σ H xs us Q I r h
  obtain ⟨a, dx, fs, rfl, ha, q⟩ := h
  obtain ⟨u, rfl, ru⟩ := vals1 r
  cases (show u = Value.ref a from ru)
  obtain ⟨mA, OM, _⟩ := ins_get I.hok ha
  obtain ⟨od, J, _⟩ := OM.look
  refine Calls.call_function_entry kind_abs plain_abs entry_abs (args_abs _) ?_
  unfold Builtin.«abs»
  refine wpAny_bind (m := oneArg "abs" _) (wpAny_pure ?_)
  refine wpAny_bind (m := callSpecial? (.ref a) (Str.ofString "__abs__")) (PySem.W.special_fn I.kIn J M.at_ (beq_iff_eq.mp M.fn) ?_)
  refine wpAny_mono (run_at (us := [.ref a]) (vs := [.ref a]) (A := X.A.in1) F hr.in1 I.env0.in1 hb I (.cons rfl .nil) q) (fun w s' z => ?_) fun _ _ e => e
  exact wpAny_pure ⟨_, rfl, z⟩
theorem call_strOwn (M : OwnM X.K C "__str__" g) (F : FnOk X.prog X.w X.K X.mg X.base CX0 k g fd ps sp) (hr : Room (k + 2) X.A) (hb : Binds X.K fd ps []) : CallR X (.type "str") (rOwnS C sp) := by
  intro pins s σ H xs us Q I r h
  obtain ⟨a, dx, fs, rfl, ha, q⟩ := h
  obtain ⟨u, rfl, ru⟩ := vals1 r
  cases (show u = Value.ref a from ru)
  obtain ⟨mA, OM, _⟩ := ins_get I.hok ha
  obtain ⟨od, J, _⟩ := OM.look
  have hr2 : Room k X.A.in1.in1 := (show Room (k + 1) X.A.in1 from Room.in1 hr).in1
  refine PySem.W.kso_call hr2.units0 I.kIn J M.at_ M.fn ?_
  refine wpAny_mono (run_at (us := [.ref a]) (vs := [.ref a]) (A := X.A.in1.in1) F hr2 I.env0.in1.in1 hb I (.cons rfl .nil) q) (fun w s' z => ?_) fun _ _ e => e
  obtain ⟨v, H', I', rv, ⟨zz, rfl⟩, qq⟩ := z
  obtain ⟨t, rfl⟩ := (show ∃ t, w = Value.str zz t from rv)
  exact ⟨.str zz, H', I', ⟨t, rfl⟩, qq⟩
theorem call_reprOwn (M : OwnM X.K C "__repr__" g) (F : FnOk X.prog X.w X.K X.mg X.base CX0 k g fd ps sp) (hr : Room (k + 1) X.A) (hb : Binds X.K fd ps []) : CallR X (.builtin "repr") (rOwnS C sp) := by
  intro pins s σ H xs us Q I r h
  obtain ⟨a, dx, fs, rfl, ha, q⟩ := h
  obtain ⟨u, rfl, ru⟩ := vals1 r
  cases (show u = Value.ref a from ru)
  obtain ⟨mA, OM, _⟩ := ins_get I.hok ha
  obtain ⟨od, J, _⟩ := OM.look
  obtain ⟨m, hF⟩ := I.fr
  refine PySem.W.repr_K hr.in1.units0 hF I.ok.mod.kin J M.at_ M.fn ?_
  refine wpAny_mono (run_at (us := [.ref a]) (vs := [.ref a]) (A := X.A.in1) F hr.in1 I.env0.in1 hb I (.cons rfl .nil) q) (fun w s' z => ?_) fun _ _ e => e
  obtain ⟨v, H', I', rv, ⟨zz, rfl⟩, qq⟩ := z
  obtain ⟨t, rfl⟩ := (show ∃ t, w = Value.str zz t from rv)
  exact ⟨.str zz, H', I', ⟨t, rfl⟩, qq⟩
end
section
variable {mg : MG}
theorem snd_own1 {c : Str} {C : Addr} {w : WF} (hC : mg.f c = some (.ref C)) : SndC mg (rOwn1 C (spW mg 1 w)) (oOwnL c w) := by
  intro A S H xs ds Q Q' R l q k
  match ds, q, l with
  | [x], q, l =>
    obtain ⟨v, rfl, hx⟩ := l.one
    obtain ⟨⟨fds, rfl⟩, q⟩ := q
    obtain ⟨a, dx, fs, rfl, ha⟩ := hx.insOf hC
    exact ⟨a, dx, fs, rfl, ha, A, S, [_], Q', R, .cons hx .nil, rfl, q, k⟩
/-- its answer is a text -/
def oOwnS (c : Str) (w : WF) : LD := fun ds S Q => match ds with
  | [x] => (∃ fds, x = .ins c fds) ∧ w [x] S fun d S' => (∃ z, d = .str z) ∧ Q d S'
  | _ => False
theorem snd_ownS {c : Str} {C : Addr} {w : WF} (hC : mg.f c = some (.ref C)) : SndC mg (rOwnS C (spW mg 1 w)) (oOwnS c w) := by
  intro A S H xs ds Q Q' R l q k
  match ds, q, l with
  | [x], q, l =>
    obtain ⟨v, rfl, hx⟩ := l.one
    obtain ⟨⟨fds, rfl⟩, q⟩ := q
    obtain ⟨a, dx, fs, rfl, ha⟩ := hx.insOf hC
    refine ⟨a, dx, fs, rfl, ha, A, S, [_], _, R, .cons hx .nil, rfl, q, fun d S' A' v H' g R' hv qq => ?_⟩
    obtain ⟨⟨z, rfl⟩, qq⟩ := qq
    cases hv
    exact ⟨⟨z, rfl⟩, k _ S' A' _ H' g R' (.str z) qq⟩
end
/-! ### f-strings -/
def wFmt (we : WD) : WD := fun ρ S Q => we ρ S fun x S1 => match x with
  | .str y => y.length ≤ sizeLine ∧ Q (.str y) S1
  | .int i => i.natAbs.log2 < 1920 ∧ Q (.str (toString i)) S1
  | _ => False
def wJs : List WD → Str → DEnv → MS → (Str → MS → Prop) → Prop
  | [], acc, _, S, Q => Q acc S
  | w :: ws, acc, ρ, S, Q => w ρ S fun x S1 => match x with
    | .str y => (acc ++ y).length ≤ sizeLine ∧ wJs ws (acc ++ y) ρ S1 Q
    | _ => False
def wJoined (ws : List WD) : WD := fun ρ S Q => wJs ws Str.empty ρ S fun out S1 => Q (.str out) S1
section
variable {X : Cx} {pos : Pos}
theorem d_fmt {e : Expr} {te : TE} {we : WD} (he : PD X e te we) : PD X (.FormattedValue e (-1) none pos) (tFmt te) (wFmt we) := by
  refine ⟨pe_fmt he.pe, fun A S σ H ρ Q Q' R E h k => ?_⟩
  refine he.sd A S σ H ρ _ _ R E h fun d S1 A1 v H1 g1 R1 hv q1 => ?_
  cases hv <;> first | exact q1.elim | skip
  · exact .inr ⟨_, rfl, q1.1, k _ S1 A1 _ H1 g1 R1 (.str _) q1.2⟩
  · exact .inl ⟨_, rfl, q1.1, k _ S1 A1 _ H1 g1 R1 (.str _) q1.2⟩
inductive PDJ (X : Cx) : List Expr → List TE → List WD → Prop where
  | nil : PDJ X [] [] []
  | cons {e : Expr} {t : TE} {w : WD} {es : List Expr} {ts : List TE} {ws : List WD} (h : PD X e t w) (r : PDJ X es ts ws) : PDJ X (e :: es) (t :: ts) (w :: ws)
theorem PDJ.pj {es : List Expr} {ts : List TE} {ws : List WD} (h : PDJ X es ts ws) : PJ X es ts := by
  induction h with
  | nil => exact .nil
  | cons h _ ih => exact .cons h.pe ih
theorem PDJ.sd {es : List Expr} {ts : List TE} {ws : List WD} (h : PDJ X es ts ws) : ∀ (acc : Str) A S σ H ρ (Q : Str → Hp → Prop) (Q' : Str → MS → Prop), Rep X.G A S H → EnvD X.G A H σ ρ → wJs ws acc ρ S Q' →
    (∀ out S' A' H', Grow A A' H H' → Rep X.G A' S' H' → Q' out S' → Q out H') → tJs ts acc σ H Q := by
  induction h with
  | nil => intro acc A S σ H ρ Q Q' R E q k; exact k acc S A H .refl R q
  | cons h _ ih =>
    intro acc A S σ H ρ Q Q' R E q k
    refine h.sd A S σ H ρ _ _ R E q fun d S1 A1 v H1 g1 R1 hv q1 => ?_
    cases hv <;> first | exact q1.elim | skip
    exact ⟨_, rfl, q1.1, ih _ A1 S1 σ H1 ρ Q Q' R1 (E.mono g1) q1.2 fun out S' A' H' g R' z => k out S' A' H' (g1.trans g) R' z⟩
theorem d_joined {v1 v2 : Expr} {rest : List Expr} {ts : List TE} {ws : List WD} (h : PDJ X (v1 :: v2 :: rest) ts ws) : PD X (.JoinedStr (v1 :: v2 :: rest) pos) (fun σ H Q => tJs ts Str.empty σ H fun out H1 => Q (.str out) H1) (wJoined ws) :=
  ⟨pe_joined h.pj, fun A S σ H ρ Q Q' R E q k => h.sd Str.empty A S σ H ρ _ _ R E q fun out S' A' H' g R' z => k (.str out) S' A' _ H' g R' (.str out) z⟩
end
/-! ### slices of lists -/
def cutD (xs : List D) (lo hi : Option Int) : List D := (xs.drop (HT.sIx xs.length 0 lo)).take (HT.sIx xs.length xs.length hi - HT.sIx xs.length 0 lo)
theorem IsL.drop {mg : MG} {A : List Addr} {H : Hp} : ∀ {vs : List V} {ds : List D} (n : Nat), IsL mg A H vs ds → IsL mg A H (vs.drop n) (ds.drop n)
  | _, _, 0, l => l
  | _, _, _ + 1, .nil => .nil
  | _, _, n + 1, .cons _ t => IsL.drop n t
theorem IsL.take {mg : MG} {A : List Addr} {H : Hp} : ∀ {vs : List V} {ds : List D} (n : Nat), IsL mg A H vs ds → IsL mg A H (vs.take n) (ds.take n)
  | _, _, 0, _ => .nil
  | _, _, _ + 1, .nil => .nil
  | _, _, n + 1, .cons h t => .cons h (IsL.take n t)
theorem IsL.cut {mg : MG} {A : List Addr} {H : Hp} {vs : List V} {ds : List D} (lo hi : Option Int) (l : IsL mg A H vs ds) : IsL mg A H (cutV vs lo hi) (cutD ds lo hi) := by
  unfold cutV cutD
  rw [l.length]
  exact (l.drop _).take _
/-- xs[:n], n written -/
def wCutTo (we : WD) (n : Int) : WD := fun ρ S Q => we ρ S fun x S1 => match x with
  | .scr ds => Q (.lst (cutD ds none (some n))) S1
  | _ => False
theorem d_cutTo {X : Cx} {e : Expr} {te : TE} {we : WD} {n : Int} {j p1 p2 pos} (he : PD X e te we) : PD X (.Subscript e (.Slice none (some (.Constant (.int n) j p1)) none p2) pos) (tSl (rSlL X.K) te tNoPart (tPart (tC (.int n)))) (wCutTo we n) := by
  refine ⟨pe_slice sl_list he.pe po_none (po_some pe_int), fun A S σ H ρ Q Q' R E h k => ?_⟩
  refine he.sd A S σ H ρ _ _ R E h fun d S1 A1 v H1 g1 R1 hv q1 => ?_
  cases d <;> first | exact q1.elim | skip
  obtain ⟨a, vs, rfl, sq, l⟩ := hv.scrAt
  refine ⟨n, rfl, a, vs, rfl, sq _ _ .refl, fun p hp => ?_⟩
  have g := grow_new (o := .lst (cutV vs none (some n))) R1 hp
  exact k _ S1 A1 _ _ (g1.trans g) (R1.new hp) (.lst (R1.fresh hp) upd_same ((l.cut _ _).mono g)) q1
/-! ### truth -/
def wTruth (we : WD) : WB := fun ρ S Q => we ρ S fun x S1 => match x with
  | .non => Q false S1
  | .bl b => Q b S1
  | .int i => Q (i != 0) S1
  | .str y => y.length ≤ sizeLine ∧ Q ((y.length : Int) != 0) S1
  | .lst ds => Q (!ds.isEmpty) S1
  | .scr ds => Q (!ds.isEmpty) S1
  | .tup ds => Q (!ds.isEmpty) S1
  | .mut m => ∃ ds, S1[m]? = some ds ∧ Q (!ds.isEmpty) S1
  | _ => False
theorem isEmpty_isL {mg : MG} {A : List Addr} {H : Hp} {vs : List V} {ds : List D} (l : IsL mg A H vs ds) : vs.isEmpty = ds.isEmpty := by cases l <;> rfl
theorem dt_truth {X : Cx} {e : Expr} {te : TE} {we : WD} (he : PD X e te we) (hi : ∀ whole, isTrue e X.env whole = (do let v ← whole; standAt e.pos; holding [v] (truthy v)) := by intro _; rfl) :
    PDT X e (fun σ H Q => te σ H fun x H' => ∃ k, TruV X.K x H' k ∧ Q k H') (wTruth we) := by
  refine ⟨pt_truth he.pe hi, fun A S σ H ρ Q Q' R E h k => ?_⟩
  refine he.sd A S σ H ρ _ _ R E h fun d S1 A1 v H1 g1 R1 hv q1 => ?_
  cases hv <;> first | exact q1.elim | skip
  · exact ⟨false, rfl, k _ S1 A1 H1 g1 R1 q1⟩
  · exact ⟨_, rfl, k _ S1 A1 H1 g1 R1 q1⟩
  · exact ⟨_, rfl, k _ S1 A1 H1 g1 R1 q1⟩
  · exact ⟨_, ⟨q1.1, rfl⟩, k _ S1 A1 H1 g1 R1 q1.2⟩
  · rename_i a vs ds n r l
    exact ⟨!vs.isEmpty, .inr (.inl ⟨vs, .inl r, rfl⟩), by rw [isEmpty_isL l]; exact k _ S1 A1 H1 g1 R1 q1⟩
  · rename_i a vs ds n r l
    exact ⟨!vs.isEmpty, .inl ⟨vs, .of r, rfl⟩, by rw [isEmpty_isL l]; exact k _ S1 A1 H1 g1 R1 q1⟩
  · rename_i a vs ds n r l
    exact ⟨!vs.isEmpty, .inl ⟨vs, .inl r, rfl⟩, by rw [isEmpty_isL l]; exact k _ S1 A1 H1 g1 R1 q1⟩
  · rename_i a vs ds r l
    exact ⟨!vs.isEmpty, .inl ⟨vs, r _, rfl⟩, by rw [isEmpty_isL l]; exact k _ S1 A1 H1 g1 R1 q1⟩
  · rename_i a m ea
    obtain ⟨ds, hs, q⟩ := q1
    obtain ⟨vs, h1, l⟩ := R1.at_ m a ds ea hs
    exact ⟨!vs.isEmpty, .inl ⟨vs, .of h1, rfl⟩, by rw [isEmpty_isL l]; exact k _ S1 A1 H1 g1 R1 q⟩
end DL

set_option Elab.async false
set_option linter.all false
set_option maxRecDepth 100000
/-! The built-in names. -/
namespace DL
open PySem PySem.Spec PyProof.Rows L2
theorem bt_isinstance : bootBuiltins "isinstance" = some (.builtin "isinstance") := by decide +kernel
theorem bt_repr : bootBuiltins "repr" = some (.builtin "repr") := by decide +kernel
theorem bt_abs : bootBuiltins "abs" = some (.builtin "abs") := by decide +kernel
theorem bt_len : bootBuiltins "len" = some (.builtin "len") := by decide +kernel
theorem bt_max : bootBuiltins "max" = some (.builtin "max") := by decide +kernel
theorem bt_min : bootBuiltins "min" = some (.builtin "min") := by decide +kernel
theorem bt_divmod : bootBuiltins "divmod" = some (.builtin "divmod") := by decide +kernel
theorem bt_all : bootBuiltins "all" = some (.builtin "all") := by decide +kernel
theorem bt_int : bootBuiltins "int" = some (.type "int") := by decide +kernel
theorem bt_bool : bootBuiltins "bool" = some (.type "bool") := by decide +kernel
theorem bt_str : bootBuiltins "str" = some (.type "str") := by decide +kernel
theorem bt_list : bootBuiltins "list" = some (.type "list") := by decide +kernel
theorem bt_tuple : bootBuiltins "tuple" = some (.type "tuple") := by decide +kernel
end DL

set_option Elab.async false
set_option linter.all false
set_option maxRecDepth 100000
/-! One class beside the ints: operators by what stands on both sides. -/
namespace DL
open PySem PySem.Spec PyProof.Rows L2
abbrev OInt := Int → Int → MS → (D → MS → Prop) → Prop
def oJust (oi : OInt) : OD := fun x y S Q => match x, y with
  | .int i, .int j => oi i j S Q
  | _, _ => False
/-- ints by oi, an instance on the left by wl, on the right of an int by wr -/
def oU2 (oi : OInt) (c : Str) (wl wr : WF) : OD := fun x y S Q => match x, y with
  | .int i, .int j => oi i j S Q
  | .ins c' fs, .ins d gs => c' = c ∧ d = c ∧ wl [.ins c' fs, .ins d gs] S Q
  | .ins c' fs, .int i => c' = c ∧ wl [.ins c' fs, .int i] S Q
  | .int i, .ins d gs => d = c ∧ wr [.ins d gs, .int i] S Q
  | _, _ => False
def wNo : WF := fun _ _ _ => False
def rU2 (ri : L2.R2) (C : Addr) (mg : MG) (wl wr : WF) : L2.R2 := fun x y H Q => ri x y H Q ∨ rOwnB C (spW mg 2 wl) E0 x y H Q ∨ rOwnI C (spW mg 2 wr) E0 x y H Q
def rU1 (ri : L2.R2) (C : Addr) (mg : MG) (wl : WF) : L2.R2 := fun x y H Q => ri x y H Q ∨ rOwnB C (spW mg 2 wl) E0 x y H Q
theorem snd_U2 {mg : MG} {ri : L2.R2} {oi : OInt} {c : Str} {C : Addr} {wl wr : WF} (hi : SndR mg ri (oJust oi)) (hC : mg.f c = some (.ref C)) : SndR mg (rU2 ri C mg wl wr) (oU2 oi c wl wr) := by
  refine SndR.imp (SndR.or hi (SndR.or (snd_ownB hC) (snd_ownI hC))) fun x y S Q q => ?_
  cases x <;> cases y <;> first | exact q.elim | skip
  · exact .inl q
  · obtain ⟨rfl, q⟩ := q
    exact .inr (.inr ⟨⟨_, rfl⟩, ⟨_, rfl⟩, q⟩)
  · obtain ⟨rfl, q⟩ := q
    exact .inr (.inl ⟨⟨_, rfl⟩, .inr ⟨_, rfl⟩, q⟩)
  · obtain ⟨rfl, rfl, q⟩ := q
    exact .inr (.inl ⟨⟨_, rfl⟩, .inl ⟨_, rfl⟩, q⟩)
theorem snd_U1 {mg : MG} {ri : L2.R2} {oi : OInt} {c : Str} {C : Addr} {wl : WF} (hi : SndR mg ri (oJust oi)) (hC : mg.f c = some (.ref C)) : SndR mg (rU1 ri C mg wl) (oU2 oi c wl wNo) := by
  refine SndR.imp (SndR.or hi (snd_ownB hC)) fun x y S Q q => ?_
  cases x <;> cases y <;> first | exact q.elim | skip
  · exact .inl q
  · exact q.2.elim
  · obtain ⟨rfl, q⟩ := q
    exact .inr ⟨⟨_, rfl⟩, .inr ⟨_, rfl⟩, q⟩
  · obtain ⟨rfl, rfl, q⟩ := q
    exact .inr ⟨⟨_, rfl⟩, .inl ⟨_, rfl⟩, q⟩
/-- the ints' part -/
def iAdd : OInt := fun i j S Q => Q (.int (i + j)) S
def iSub : OInt := fun i j S Q => Q (.int (i - j)) S
def iMul : OInt := fun i j S Q => CMulW i j ∧ Q (.int (i * j)) S
def iFdiv : OInt := fun i j S Q => CDivWN i j ∧ Q (.int (i.fdiv j)) S
def iMod : OInt := fun i j S Q => j ≠ 0 ∧ Q (.int (i.fmod j)) S
def iEq : OInt := fun i j S Q => Q (.bl (decide (i = j))) S
def iNe : OInt := fun i j S Q => Q (.bl (!decide (i = j))) S
def iLt : OInt := fun i j S Q => Q (.bl (decide (i < j))) S
def iLe : OInt := fun i j S Q => Q (.bl (decide (i ≤ j))) S
def iGt : OInt := fun i j S Q => Q (.bl (decide (j < i))) S
def iGe : OInt := fun i j S Q => Q (.bl (decide (j ≤ i))) S
section
variable {mg : MG}
theorem snd_just0 {g : Int → Int → V} {g' : Int → Int → D} (hg : ∀ i j A H, Is mg A H (g i j) (g' i j)) : SndR mg (rI0 g) (oJust fun i j S Q => Q (g' i j) S) := SndR.imp (snd_rI0 hg) fun x y S Q q => by
  cases x <;> cases y <;> first | exact q.elim | exact q
theorem snd_justC {C : Int → Int → Prop} {g : Int → Int → V} {g' : Int → Int → D} (hg : ∀ i j A H, Is mg A H (g i j) (g' i j)) : SndR mg (rI C g) (oJust fun i j S Q => C i j ∧ Q (g' i j) S) := SndR.imp (snd_rI hg) fun x y S Q q => by
  cases x <;> cases y <;> first | exact q.elim | exact q
theorem snd_iAdd : SndR mg (rI0 fun i j => .int (i + j)) (oJust iAdd) := snd_just0 fun _ _ _ _ => .int _
theorem snd_iSub : SndR mg (rI0 fun i j => .int (i - j)) (oJust iSub) := snd_just0 fun _ _ _ _ => .int _
theorem snd_iMul : SndR mg (rI CMulW fun i j => .int (i * j)) (oJust iMul) := snd_justC fun _ _ _ _ => .int _
theorem snd_iFdiv : SndR mg (rI CDivWN fun i j => .int (i.fdiv j)) (oJust iFdiv) := snd_justC fun _ _ _ _ => .int _
theorem snd_iMod : SndR mg (rI (fun _ j => j ≠ 0) fun i j => .int (i.fmod j)) (oJust iMod) := snd_justC fun _ _ _ _ => .int _
theorem snd_iLt : SndR mg (rI0 fun i j => .bl (decide (i < j))) (oJust iLt) := snd_just0 fun _ _ _ _ => .bl _
theorem snd_iLe : SndR mg (rI0 fun i j => .bl (decide (i ≤ j))) (oJust iLe) := snd_just0 fun _ _ _ _ => .bl _
theorem snd_iGt : SndR mg (rI0 fun i j => .bl (decide (j < i))) (oJust iGt) := snd_just0 fun _ _ _ _ => .bl _
theorem snd_iGe : SndR mg (rI0 fun i j => .bl (decide (j ≤ i))) (oJust iGe) := snd_just0 fun _ _ _ _ => .bl _
/-- == and != of ints, of texts -/
theorem snd_iEq : SndR mg rEq (oJust iEq) := by
  intro A S H x y dx dy Q Q' R hx hy q k
  cases dx <;> cases dy <;> first | exact q.elim | skip
  cases hx; cases hy
  refine ⟨rfl, ?_⟩
  rename_i i j
  have e : decide (V.int i = V.int j) = decide (i = j) := by simp
  rw [e]
  exact k _ S A _ H .refl R (.bl _) q
theorem snd_iNe : SndR mg rNe (oJust iNe) := by
  intro A S H x y dx dy Q Q' R hx hy q k
  cases dx <;> cases dy <;> first | exact q.elim | skip
  cases hx; cases hy
  refine ⟨rfl, ?_⟩
  rename_i i j
  have e : decide (V.int i = V.int j) = decide (i = j) := by simp
  rw [e]
  exact k _ S A _ H .refl R (.bl _) q
/-- minus, abs -/
def oUn1 (oi : Int → MS → (D → MS → Prop) → Prop) (c : Str) (w : WF) : UD := fun x S Q => match x with
  | .int i => oi i S Q
  | .ins c' fs => c' = c ∧ w [.ins c' fs] S Q
  | _ => False
def rUn1 (ri : V → Hp → VK → Prop) (C : Addr) (mg : MG) (w : WF) : V → Hp → VK → Prop := fun x H Q => ri x H Q ∨ rOwnU C (spW mg 1 w) E0 x H Q
def iNeg : Int → MS → (D → MS → Prop) → Prop := fun i S Q => Q (.int (-i)) S
theorem snd_neg1 {c : Str} {C : Addr} {w : WF} (hC : mg.f c = some (.ref C)) : SndU mg (rUn1 (rU fun i => .int (-i)) C mg w) (oUn1 iNeg c w) := by
  refine SndU.imp (SndU.or (snd_rU (g' := fun i => .int (-i)) fun _ _ _ => .int _) (snd_ownU hC)) fun x S Q q => ?_
  cases x <;> first | exact q.elim | skip
  · exact .inl q
  · obtain ⟨rfl, q⟩ := q
    exact .inr ⟨⟨_, rfl⟩, q⟩
/-- a built-in of one value: of an int by oi, of an instance by w -/
def oL1 (oi : Int → MS → (D → MS → Prop) → Prop) (c : Str) (w : WF) : LD := fun ds S Q => match ds with
  | [.int i] => oi i S Q
  | [.ins c' fs] => c' = c ∧ w [.ins c' fs] S Q
  | _ => False
def iAbs : Int → MS → (D → MS → Prop) → Prop := fun i S Q => Q (.int (if i < 0 then -i else i)) S
def iStr : Int → MS → (D → MS → Prop) → Prop := fun i S Q => i.natAbs.log2 < 1920 ∧ Q (.str (toString i)) S
def rAbs1 (C : Addr) (mg : MG) (w : WF) : List V → Hp → VK → Prop := fun xs H Q => (∃ i, xs = [.int i] ∧ Q (.int (if i < 0 then -i else i)) H) ∨ rOwn1 C (spW mg 1 w) xs H Q
theorem snd_abs1 {c : Str} {C : Addr} {w : WF} (hC : mg.f c = some (.ref C)) : SndC mg (rAbs1 C mg w) (oL1 iAbs c w) := by
  refine SndC.imp (SndC.or snd_absI (snd_own1 hC)) fun xs S Q q => ?_
  match xs, q with
  | [.int i], q => exact .inl q
  | [.ins c' fs], q =>
    have q' : c' = c ∧ w [.ins c' fs] S Q := q
    obtain ⟨rfl, q'⟩ := q'
    exact .inr ⟨⟨_, rfl⟩, q'⟩
def oS1 (oi : Int → MS → (D → MS → Prop) → Prop) (c : Str) (w : WF) : LD := fun ds S Q => match ds with
  | [.int i] => oi i S Q
  | [.ins c' fs] => c' = c ∧ w [.ins c' fs] S fun d S' => match d with
    | .str z => Q (.str z) S'
    | _ => False
  | _ => False
def rStr1 (C : Addr) (mg : MG) (w : WF) : List V → Hp → VK → Prop := fun xs H Q => (∃ i, xs = [.int i] ∧ i.natAbs.log2 < 1920 ∧ Q (.str (toString i)) H) ∨ rOwnS C (spW mg 1 w) xs H Q
theorem snd_str1 {c : Str} {C : Addr} {w : WF} (hw : ∀ ds S Q Q', (∀ d S, Q d S → Q' d S) → w ds S Q → w ds S Q') (hC : mg.f c = some (.ref C)) : SndC mg (rStr1 C mg w) (oS1 iStr c w) := by
  refine SndC.imp (SndC.or snd_strI (snd_ownS hC)) fun xs S Q q => ?_
  match xs, q with
  | [.int i], q => exact .inl q
  | [.ins c' fs], q =>
    have q' : c' = c ∧ w [.ins c' fs] S (fun d S' => match d with
      | .str z => Q (.str z) S'
      | _ => False) := q
    obtain ⟨rfl, q'⟩ := q'
    refine .inr ⟨⟨_, rfl⟩, hw _ _ _ _ (fun d S h => ?_) q'⟩
    cases d <;> first | exact h.elim | exact ⟨⟨_, rfl⟩, h⟩
/-- repr of an instance alone -/
def oR1 (c : Str) (w : WF) : LD := fun ds S Q => match ds with
  | [.ins c' fs] => c' = c ∧ w [.ins c' fs] S fun d S' => match d with
    | .str z => Q (.str z) S'
    | _ => False
  | _ => False
theorem snd_repr1 {c : Str} {C : Addr} {w : WF} (hw : ∀ ds S Q Q', (∀ d S, Q d S → Q' d S) → w ds S Q → w ds S Q') (hC : mg.f c = some (.ref C)) : SndC mg (rOwnS C (spW mg 1 w)) (oR1 c w) := by
  refine SndC.imp (snd_ownS hC) fun xs S Q q => ?_
  match xs, q with
  | [.ins c' fs], q =>
    have q' : c' = c ∧ w [.ins c' fs] S (fun d S' => match d with
      | .str z => Q (.str z) S'
      | _ => False) := q
    obtain ⟨rfl, q'⟩ := q'
    refine ⟨⟨_, rfl⟩, hw _ _ _ _ (fun d S h => ?_) q'⟩
    cases d <;> first | exact h.elim | exact ⟨⟨_, rfl⟩, h⟩
end
section
variable {X : Cx}
/-- three names at once -/
theorem _root_.L2.CallR.orD {f : Value} {r r' : List V → Hp → VK → Prop} (h : CallR X f r) (h' : CallR X f r') : CallR X f (fun xs H Q => r xs H Q ∨ r' xs H Q) := DL.CallR.or h h'
end
end DL

set_option Elab.async false
set_option linter.all false
set_option maxRecDepth 100000
/-! Calls by two names, in the other order; three names at once. -/
namespace DL
open PySem PySem.Spec PyProof.Rows L2
structure PDK (X : Cx) (kws : List Keyword) (t : TA) (w : WL) : Prop where
  pe : PK X kws t
  sd : SndA X.G t w
section
variable {X : Cx} {CX : CXT} {k : Nat} {f C : Addr} {fd : FuncData} {ps ks : List Str} {sp : Sp} {E : XK} {x : Str} {p pos kpos : Pos} {kws : List Keyword} {t tk : TA} {g : List Value → List Value → List Value} {gV : List V → List V → List V} {nm : Option Str} {e : Expr} {te : TE} {we : WD} {wl : WL}
theorem pe_callK0 (F : FnOk X.prog X.w X.K X.mg X.base CX k f fd ps sp) (hr : Room k X.A) (hg : Gl X x) (hm : X.mg x = some (.ref f)) (hk : PySem.W.keepIn X.K (.ref f) = true) (hb : KBinds X.K fd ps ks g gV) (hx : Passes CX X E) (hkw : PK X kws tk)
    (hall : (backToKw pos (keywordEach kws X.env)).all (·.1.isSome) = true := by rfl) (hks : (backToKw pos (keywordEach kws X.env)).filterMap (·.1) = ks := by rfl) (hdb : (x == ("__debug__" : Str)) = false := by decide)
    (hpl : ((backTo pos (starEach [] X.env)).any (·.1) || (backToKw pos (keywordEach kws X.env)).any (·.1.isNone)) = false := by rfl) :
    PE X (.Call (.Name x p) [] kws pos) (tCallK sp gV E tNil tk) := by
  refine ⟨fun pins s σ H Q I h => ?_⟩
  refine wpAny_Call_Name_kw (ld_glob I hg hm ?_ hdb)
  refine PySem.W.callWith_KW0 (h₀ := X.base) I.ok.mod.kin hk hall ?_ hpl
  refine thn (hkw.run pos pins s σ H _ I h) fun ws s2 ⟨zs, H2, I2, rz, q2⟩ => ⟨I2.kIn, ?_⟩
  rw [hks]
  exact run_fnk (us := []) (vs := []) F hr hb hx I2 .nil rz q2
theorem dk_nil : PDK X [] tNil wNil := ⟨pk_nil, snd_nil⟩
theorem dk_cons (ha : PD X e te we) (hr : PDK X kws t wl) : PDK X (⟨nm, e, kpos⟩ :: kws) (tCons te t) (wCons we wl) := ⟨pk_cons ha.pe hr.pe, snd_cons ha.sd hr.sd⟩
/-- two values, the other way round -/
def swV : List V → List V → List V
  | [], [a, b] => [b, a]
  | _, _ => []
def swU : List Value → List Value → List Value
  | [], [a, b] => [b, a]
  | _, _ => []
def sw1V : List V → List V → List V
  | [x], [a, b] => [x, b, a]
  | _, _ => []
def sw1U : List Value → List Value → List Value
  | [x], [a, b] => [x, b, a]
  | _, _ => []
theorem sw_rel {vs zs : List V} {us ws : List Value} (r : Vals vs us) (rz : Vals zs ws) : Vals (swV vs zs) (swU us ws) := by
  cases r with
  | cons _ _ => exact .nil
  | nil =>
    cases rz with
    | nil => exact .nil
    | cons h1 t1 =>
      cases t1 with
      | nil => exact .nil
      | cons h2 t2 =>
        cases t2 with
        | nil => exact .cons h2 (.cons h1 .nil)
        | cons _ _ => exact .nil
theorem sw1_rel {vs zs : List V} {us ws : List Value} (r : Vals vs us) (rz : Vals zs ws) : Vals (sw1V vs zs) (sw1U us ws) := by
  cases r with
  | nil => exact .nil
  | cons h0 t0 =>
    cases t0 with
    | cons _ _ => exact .nil
    | nil =>
      cases rz with
      | nil => exact .nil
      | cons h1 t1 =>
        cases t1 with
        | nil => exact .nil
        | cons h2 t2 =>
          cases t2 with
          | nil => exact .cons h0 (.cons h2 (.cons h1 .nil))
          | cons _ _ => exact .nil
def wCallSw (w : WF) (wl : WL) : WD := fun ρ S Q => wl ρ S fun ds S1 => match ds with
  | [a, b] => w [b, a] S1 Q
  | _ => False
theorem d_callSw {w : WF} (F : FnOk X.prog X.w X.K X.mg X.base CX0 k f fd ps (spW X.G 2 w)) (hr : Room k X.A) (hm : X.mg x = some (.ref f)) (hk : PySem.W.keepIn X.K (.ref f) = true) (hb : KBinds X.K fd ps ks swU swV) (hkw : PDK X kws tk wl) (hg : Gl X x := by rfl)
    (hall : (backToKw pos (keywordEach kws X.env)).all (·.1.isSome) = true := by rfl) (hks : (backToKw pos (keywordEach kws X.env)).filterMap (·.1) = ks := by rfl) (hdb : (x == ("__debug__" : Str)) = false := by decide)
    (hpl : ((backTo pos (starEach [] X.env)).any (·.1) || (backToKw pos (keywordEach kws X.env)).any (·.1.isNone)) = false := by rfl) :
    PD X (.Call (.Name x p) [] kws pos) (tCallK (spW X.G 2 w) swV E0 tNil tk) (wCallSw w wl) := by
  refine ⟨pe_callK0 F hr hg hm hk hb pass0 hkw.pe hall hks hdb hpl, fun A S σ H ρ Q Q' R E h k => ?_⟩
  refine hkw.sd A S σ H ρ _ _ R E h fun ds S1 A1 vs H1 g1 R1 hv q1 => ?_
  match ds, hv, q1 with
  | [a, b], hv, q1 =>
    obtain ⟨v, w', rfl, h1, h2⟩ := hv.two
    exact ⟨A1, S1, [b, a], Q', R1, .cons h2 (.cons h1 .nil), rfl, q1, k.mono g1⟩
def wMakeSw (c : Str) (w : WI) (wl : WL) : WD := fun ρ S Q => wl ρ S fun ds S1 => match ds with
  | [a, b] => w [b, a] S1 fun fds S2 => Q (.ins c fds) S2
  | _ => False
theorem d_makeSw {wi : WI} (M : Mk X.K C f) (F : FnOk X.prog X.w X.K X.mg X.base CX0 k f fd ps (spInit X.G x 2 wi)) (hr : Room (k + 1) X.A) (hm : X.mg x = some (.ref C)) (hb : KBn X.K fd ps 1 ks sw1U sw1V) (hkw : PDK X kws tk wl) (hl : ks.length = 2 := by rfl) (hg : Gl X x := by rfl)
    (hall : (backToKw pos (keywordEach kws X.env)).all (·.1.isSome) = true := by rfl) (hks : (backToKw pos (keywordEach kws X.env)).filterMap (·.1) = ks := by rfl) (hdb : (x == ("__debug__" : Str)) = false := by decide)
    (hpl : ((backTo pos (starEach [] X.env)).any (·.1) || (backToKw pos (keywordEach kws X.env)).any (·.1.isNone)) = false := by rfl) :
    PD X (.Call (.Name x p) [] kws pos) (tMakeK C 0 ks.length (spInit X.G x 2 wi) sw1V E0 tNil tk) (wMakeSw x wi wl) := by
  refine ⟨pe_makeK0 M F hr hg hm hb pass0 hkw.pe hall hks hdb hpl, fun A S σ H ρ Q Q' R E h k => ?_⟩
  refine hkw.sd A S σ H ρ _ _ R E h fun ds S1 A1 vs H1 g1 R1 hv q1 => ?_
  match ds, hv, q1 with
  | [a, b], hv, q1 =>
    obtain ⟨v, w', rfl, h1, h2⟩ := hv.two
    refine ⟨rfl, hl.symm, fun y dx ny nd ne => ?_⟩
    exact made R1 hm (.cons h2 (.cons h1 .nil)) rfl q1 (k.mono g1) ny nd ne
end
end DL

set_option Elab.async false
set_option linter.all false
set_option maxRecDepth 100000
/-! Methods of own objects, of texts, of lists; bool(n); is None. -/
namespace DL
open PySem PySem.Spec PyProof.Rows L2
section
variable {X : Cx} {k n : Nat} {f C : Addr} {fd : FuncData} {ps : List Str} {w : WF} {x c m : Str} {p pos apos : Pos} {e o : Expr} {es : List Expr} {t : TA} {wl : WL} {te to : TE} {we wo : WD}
def wMeth (c m : Str) (n : Nat) (w : WF) (wo : WD) (wl : WL) : WD := fun ρ S Q => wo ρ S fun x S1 => match x with
  | .ins c' fs => c' = c ∧ fs.lookup m = none ∧ wl ρ S1 fun ds S2 => ds.length + 1 = n ∧ w (.ins c' fs :: ds) S2 Q
  | _ => False
theorem d_meth {pl : Sem Bool} (ho : PD X o to wo) (hC : X.mg c = some (.ref C)) (cl : Cls X.K C) (hm : Meth X.K C m f) (F : FnOk X.prog X.w X.K X.mg X.base CX0 k f fd ps (spW X.G n w)) (hr : Room k X.A) (hb : Binds X.K fd ps []) (ha : PDA X (e :: es) t wl)
    (hst : starEach (e :: es) X.env = (false, eval e X.env) :: starEach es X.env := by rfl) (hpl : (backTo pos (starEach es X.env)).any (·.1) = false := by rfl)
    (ht : eval (.Call (.Attribute o m apos) (e :: es) [] pos) X.env = (do
      let ov ← eval o X.env
      standAt apos.atName
      let (f, first) ← holding [ov] (getMethod ov m pl)
      callWith pos f first (backTo pos (starEach (e :: es) X.env)) (backToKw pos (keywordEach [] X.env))) := by rfl) :
    PD X (.Call (.Attribute o m apos) (e :: es) [] pos) (tMeth C m (spW X.G n w) [] E0 to t) (wMeth c m n w wo wl) := by
  refine ⟨pe_meth (pl := pl) ho.pe cl hm F hr hb .nil pass0 ha.pe hst hpl ht, fun A S σ H ρ Q Q' R E h k => ?_⟩
  refine ho.sd A S σ H ρ _ _ R E h fun d S1 A1 v H1 g1 R1 hv q1 => ?_
  cases hv <;> first | exact q1.elim | skip
  rename_i a C' dx c' fs fds na ec r l
  obtain ⟨rfl, hl, q1⟩ := q1
  have ec := (show X.mg _ = _ from ec)
  rw [hC] at ec
  cases ec
  refine ⟨a, dx, fs, rfl, r, l.no hl, ?_⟩
  refine ha.sd A1 S1 σ H1 ρ _ _ R1 (E.mono g1) q1 fun ds S2 A2 vs H2 g2 R2 hvs q2 => ?_
  exact ⟨A2, S2, .ins c' fds :: ds, Q', R2, by rw [List.append_nil]; exact .cons ((Is.ins na hC r l).mono g2) hvs, q2.1, q2.2, k.mono (g1.trans g2)⟩
def oBool1 : LD := fun ds S Q => match ds with
  | [.int i] => Q (.bl (i != 0)) S
  | [.bl b] => Q (.bl b) S
  | _ => False
theorem snd_bool1 {mg : MG} : SndC mg (fun xs H Q => (∃ i, xs = [.int i] ∧ Q (.bl (i != 0)) H) ∨ ∃ k, xs = [.bl k] ∧ Q (.bl k) H) oBool1 := by
  intro A S H xs ds Q Q' R l q k
  cases l with
  | nil => exact q.elim
  | cons h t =>
    cases t with
    | cons _ _ => cases h <;> exact q.elim
    | nil =>
      cases h <;> first | exact q.elim | skip
      · exact .inr ⟨_, rfl, k _ S A _ H .refl R (.bl _) q⟩
      · exact .inl ⟨_, rfl, k _ S A _ H .refl R (.bl _) q⟩
/-- x is None -/
def oIsN : OD := fun x y S Q => match y with
  | .non => (match x with
    | .non => Q (.bl true) S
    | .int _ => Q (.bl false) S
    | .bl _ => Q (.bl false) S
    | .str _ => Q (.bl false) S
    | .ins _ _ => Q (.bl false) S
    | .tup _ => Q (.bl false) S
    | .lst _ => Q (.bl false) S
    | _ => False)
  | _ => False
theorem snd_isN {mg : MG} : SndR mg (fun x y H Q => y = .non ∧ Q (.bl (decide (x = .non))) H) oIsN := by
  intro A S H x y dx dy Q Q' R hx hy q k
  cases hy <;> first | exact q.elim | skip
  refine ⟨rfl, ?_⟩
  cases hx <;> first | exact q.elim | skip
  all_goals exact k _ S A _ H .refl R (.bl _) q
/-! ### texts -/
def wM0 (g : Str → D) (wo : WD) : WD := fun ρ S Q => wo ρ S fun x S1 => match x with
  | .str a => Q (g a) S1
  | _ => False
def wM1 (c : Str → Str → Prop) (g : Str → Str → D) (wo we : WD) : WD := fun ρ S Q => wo ρ S fun x S1 => match x with
  | .str a => we ρ S1 fun y S2 => (match y with
    | .str b => c a b ∧ Q (g a b) S2
    | _ => False)
  | _ => False
theorem d_m0 {id : String} {name : Str} {g : Str → V} {g' : Str → D} (slot : Slot "str" name id) (ty : typeOf (.builtin id) = pure (.type "method_descriptor")) (rule : MtR X id (fun x xs H Q => ∃ a, x = .str a ∧ xs = [] ∧ True ∧ Q (g a) H)) (hg : ∀ a A H, Is X.G A H (g a) (g' a)) (ho : PD X o to wo)
    (hbase : attributeBase o name X.env (eval o X.env) = eval o X.env := by rfl) (hline : (apos.endLine == pos.line) = true := by rfl) : PD X (.Call (.Attribute o name apos) [] [] pos) (tM0 (fun x xs H Q => ∃ a, x = .str a ∧ xs = [] ∧ True ∧ Q (g a) H) to) (wM0 g' wo) := by
  refine ⟨pe_m0 slot ty rule ho.pe hbase hline, fun A S σ H ρ Q Q' R E h k => ?_⟩
  refine ho.sd A S σ H ρ _ _ R E h fun d S1 A1 v H1 g1 R1 hv q1 => ?_
  cases hv <;> first | exact q1.elim | skip
  exact ⟨⟨_, rfl⟩, _, rfl, rfl, trivial, k _ S1 A1 _ H1 g1 R1 (hg _ _ _) q1⟩
theorem d_m1 {id : String} {name : Str} {c : Str → Str → Prop} {g : Str → Str → V} {g' : Str → Str → D} {r : V → List V → Hp → VK → Prop} (slot : Slot "str" name id) (ty : typeOf (.builtin id) = pure (.type "method_descriptor")) (rule : MtR X id r) (hr : ∀ a b H Q, c a b → Q (g a b) H → r (.str a) [.str b] H Q) (hg : ∀ a b A H, Is X.G A H (g a b) (g' a b)) (ho : PD X o to wo) (he : PD X e te we)
    (hs : starEach [e] X.env = [(false, eval e X.env)] := by rfl) (hbase : attributeBase o name X.env (eval o X.env) = eval o X.env := by rfl) (hline : (apos.endLine == pos.line) = true := by rfl) :
    PD X (.Call (.Attribute o name apos) [e] [] pos) (tM1 r to te) (wM1 c g' wo we) := by
  refine ⟨pe_m1 slot ty rule ho.pe he.pe hs hbase hline, fun A S σ H ρ Q Q' R E h k => ?_⟩
  refine ho.sd A S σ H ρ _ _ R E h fun d S1 A1 v H1 g1 R1 hv q1 => ?_
  cases hv <;> first | exact q1.elim | skip
  refine ⟨⟨_, rfl⟩, ?_⟩
  refine he.sd A1 S1 σ H1 ρ _ _ R1 (E.mono g1) q1 fun d2 S2 A2 v2 H2 g2 R2 hv2 q2 => ?_
  cases hv2 <;> first | exact q2.elim | skip
  exact hr _ _ _ _ q2.1 (k _ S2 A2 _ H2 (g1.trans g2) R2 (hg _ _ _ _) q2.2)
def wPart (wo we : WD) : WD := wM1 (fun a b => (b.length == 0) = false ∧ a.length ≤ sizeLine) (fun a b => .tup [.str (Txt.partition a b).1, .str (Txt.partition a b).2.1, .str (Txt.partition a b).2.2]) wo we
theorem d_partition (ho : PD X o to wo) (he : PD X e te we) (hs : starEach [e] X.env = [(false, eval e X.env)] := by rfl) (hbase : attributeBase o "partition" X.env (eval o X.env) = eval o X.env := by rfl) (hline : (apos.endLine == pos.line) = true := by rfl) :
    PD X (.Call (.Attribute o "partition" apos) [e] [] pos) (tM1 (fun x xs H Q => ∃ a b, x = .str a ∧ xs = [.str b] ∧ (b.length == 0) = false ∧ a.length ≤ sizeLine ∧ ∀ p, H p = none → Q (.ref p) (upd H p (.tup [.str (Txt.partition a b).1, .str (Txt.partition a b).2.1, .str (Txt.partition a b).2.2]))) to te) (wPart wo we) := by
  refine ⟨pe_partition ho.pe he.pe hs hbase hline, fun A S σ H ρ Q Q' R E h k => ?_⟩
  refine ho.sd A S σ H ρ _ _ R E h fun d S1 A1 v H1 g1 R1 hv q1 => ?_
  cases hv <;> first | exact q1.elim | skip
  refine ⟨⟨_, rfl⟩, ?_⟩
  refine he.sd A1 S1 σ H1 ρ _ _ R1 (E.mono g1) q1 fun d2 S2 A2 v2 H2 g2 R2 hv2 q2 => ?_
  cases hv2 <;> first | exact q2.elim | skip
  rename_i a b
  refine ⟨_, _, rfl, rfl, q2.1.1, q2.1.2, fun p hp => ?_⟩
  have g := grow_new (o := .tup [.str (Txt.partition a b).1, .str (Txt.partition a b).2.1, .str (Txt.partition a b).2.2]) R2 hp
  exact k _ S2 A2 _ _ ((g1.trans g2).trans g) (R2.new hp) (.tup (R2.fresh hp) (.inl upd_same) (.cons (.str _) (.cons (.str _) (.cons (.str _) .nil)))) q2.2
/-! ### how often a truth stands in a list of them -/
def eqb (k : Bool) (v : Value) : Bool := match v with
  | .bool n => n == k
  | _ => false
theorem vals_bool : ∀ {bs : List Bool} {us : List Value}, Vals (bs.map V.bl) us → us = bs.map Value.bool
  | [], _, .nil => rfl
  | b :: bs, _, .cons h t => by
    rw [vals_bool t]
    cases (show _ = Value.bool b from h)
    rfl
theorem eqb_count {k : Bool} : ∀ bs : List Bool, (bs.map Value.bool).countP (eqb k) = bs.count k
  | [] => rfl
  | b :: bs => by
    rw [List.map_cons, List.countP_cons, List.count_cons, eqb_count bs]
    rfl
def rCntB (K : PySem.W.Frag) : V → List V → Hp → VK → Prop := fun x xs H Q => ∃ (p : Addr) (bs : List Bool) (k : Bool), x = .ref p ∧ xs = [.bl k] ∧ SqL K H p (bs.map V.bl) ∧ Q (.int (bs.count k : Nat)) H
theorem mt_lcountB : MtR X "list.count" (rCntB X.K) := fun pins s σ H x xs v us Q inv relx relxs hyp => by
  obtain ⟨l, truths, b, rfl, rfl, seq, fin⟩ := hyp
  cases relx
  obtain ⟨y, rfl, rely⟩ := relxs.one
  cases (show y = Value.bool b from rely)
  obtain ⟨held, relh, ⟨⟨kind, dict, dat, slots⟩, cap, here, hkind, hdict, hdat⟩, few⟩ := inv.list seq
  simp only at hkind hdat
  subst hkind hdat
  have flat := vals_bool relh
  have total : held.toArray.toList.countP (eqb b) = truths.count b := by
    rw [flat]
    exact eqb_count truths
  have facts := PySem.F.args_list_count_2 (.ref l) (.bool b)
  refine call_meets PySem.F.slot_list_count ⟨_, here, rfl⟩ PySem.F.entry_list_count facts (SeqAt.list_countAt l held.toArray cap dict slots (.bool b) (eqb b)) ⟨here, fun z hz => ?_, ?_⟩
  · have hz' : z ∈ held := by simpa using hz
    rw [flat] at hz'
    obtain ⟨t, _, rfl⟩ := List.mem_map.mp hz'
    exact SeqAt.EqAt.bool_bool t b
  · refine ⟨.int (truths.count b : Nat), H, inv.tok _, ⟨s.toks, ?_⟩, fin⟩
    show Value.int ((held.toArray.toList.countP (eqb b) : Nat) : Int) s.toks = Value.int ((truths.count b : Nat) : Int) s.toks
    rw [total]
def wCountB (wo we : WD) : WD := fun ρ S Q => wo ρ S fun x S1 => match x with
  | .lst ds => we ρ S1 fun y S2 => (match y with
    | .bl k => ∃ bs, bls ds = some bs ∧ Q (.int (bs.count k : Nat)) S2
    | _ => False)
  | _ => False
theorem d_countB (ho : PD X o to wo) (he : PD X e te we)
    (hbase : attributeBase o "count" X.env (eval o X.env) = eval o X.env := by rfl)
    (hfew : ((backTo pos (starEach [e] X.env)).all (fun x => !x.1) && (backToKw pos (keywordEach [] X.env)).all (fun x => x.1.isSome)
      && decide (([e] : List Expr).length + ([] : List Keyword).length + (if ([] : List Keyword).isEmpty then 0 else 1) < 30)) = true := by rfl)
    (hline : (apos.endLine == pos.line) = true := by rfl) (hs : starEach [e] X.env = (false, eval e X.env) :: starEach [] X.env := by rfl) (hplain : (backTo pos (starEach ([] : List Expr) X.env)).any (·.1) = false := by rfl) :
    PD X (.Call (.Attribute o "count" apos) [e] [] pos) (tBM X.K "list" (rCntB X.K) to (tCons te tNil)) (wCountB wo we) := by
  refine ⟨pe_bm PySem.F.plainAttrs_list PySem.F.slot_list_count PySem.F.type_list_count mt_lcountB ho.pe (pa_cons he.pe pa_nil hs) hbase hfew hline hs hplain, fun A S σ H ρ Q Q' R E h k => ?_⟩
  refine ho.sd A S σ H ρ _ _ R E h fun d S1 A1 v H1 g1 R1 hv q1 => ?_
  cases hv <;> first | exact q1.elim | skip
  rename_i a vs ds na r l
  refine ⟨.inl ⟨rfl, vs, .inl (.inl r)⟩, ?_⟩
  refine he.sd A1 S1 σ H1 ρ _ _ R1 (E.mono g1) q1 fun d2 S2 A2 v2 H2 g2 R2 hv2 q2 => ?_
  cases hv2 <;> first | exact q2.elim | skip
  obtain ⟨bs, hb, q2⟩ := q2
  have e1 := l.bls hb
  subst e1
  exact ⟨a, bs, _, rfl, rfl, .inl (.inl (g2.keep _ _ na r).1), k _ S2 A2 _ H2 (g1.trans g2) R2 (.int _) q2⟩
end
end DL

set_option Elab.async false
set_option linter.all false
set_option maxRecDepth 100000
/-! Defs whose promise wants that no repr is under way further down the stack. -/
namespace DL
open PySem PySem.Spec PyProof.Rows L2
structure FnG (P : Program) (w : World) (K : PySem.W.Frag) (mg : Str → Option Value) (base : Heap) (k : Nat) (f : Addr) (fd : FuncData) (ps : List Str) (sp : Sp) : Prop where
  lenG : ∀ vs H Q, sp vs H Q E0 → vs.length = ps.length
  runG : ∀ (A : Around) (outer : List Env) (s : Shared) (H : Hp) (g : Args) (us : List Value) (vs : List V) (Q : VK), Room k A → A.guards = some [] → Env0 P w K mg base A outer s H →
    BindsTo s fd g (ps.zip us) → Vals vs us → sp vs H Q E0 → codeAny (model P w) A (.call (.ref f) g) (CR CX0 outer P w H s Q E0) s
section
variable {P : Program} {w : World} {K : PySem.W.Frag} {mg : Str → Option Value} {base : Heap} {k : Nat} {f : Addr} {fd : FuncData} {ps : List Str} {sp sp' : Sp}
theorem FnG.of (F : FnOk P w K mg base CX0 k f fd ps sp) : FnG P w K mg base k f fd ps sp := ⟨fun vs H Q h => F.len vs H Q E0 h, fun A o s H g us vs Q hr _ => F.run A o s H g us vs Q E0 hr⟩
theorem FnG.impG (F : FnG P w K mg base k f fd ps sp) (i : ∀ vs H Q, sp' vs H Q E0 → sp vs H Q E0) : FnG P w K mg base k f fd ps sp' :=
  ⟨fun vs H Q h => F.lenG vs H Q (i _ _ _ h), fun A o s H g us vs Q a b c d e h => F.runG A o s H g us vs Q a b c d e (i _ _ _ h)⟩
theorem fnG {x qual : Str} {st : Stmt} {N : List Str} (F : Fun K x qual st f fd) (S : FnScope N ps (defScope st)) (hl : ∀ vs H Q, sp vs H Q E0 → vs.length = ps.length)
    (hb : ∀ (cdv : Value) (A : Around) (outer : List Env) (s : Shared) (H : Hp) (vs : List V) (Q : VK), Room k (A.deeper (envOfC qual (defScope st) s.heap.objs.size f cdv)) → A.guards = some [] → sp vs H Q E0 →
      ∃ t, PSs (cxOf CX0 P w K mg base N qual (defScope st) f cdv A outer s H E0).nox (defBody st) t ∧ t { nx := fun _ H' => Q .non H', rt := Q } (L2.start N vs) H) : FnG P w K mg base (k + 1) f fd ps sp := by
  obtain ⟨oc, od, kV, doc, pm, an, cdv, ct, osl, rfl, lk, hcd⟩ := F.ex
  refine ⟨hl, fun A outer s H g us vs Q hr hg e0 bd rv hs => ?_⟩
  have inK := e0.mod.kin.keeps fun b o e => (e0.bs b o e).1
  have nol := e0.mod.nolimit.keeps fun b o e => (e0.bs b o e).1
  refine codeAny_call_function hr.depth (inK _ _ lk) rfl S.co S.gen rfl (PySem.W.codeRec_of inK hcd) (bd _ _ _ _ ?_)
  refine wpAny_newFunctionEnv_cells S.kind (fun y hy => ?_) fun env he s1 ic => ?_
  · have hm : y.1 ∈ ps := (List.of_mem_zip (a := y.1) (b := y.2) hy).1
    exact (S.par y.1 hm).imp id fun q => ⟨q, PySem.W.cellsFrom_some _ _ _ (Or.inl q)⟩
  subst he
  obtain ⟨t, hp, q⟩ := hb cdv A outer s H vs Q (hr.deeper _) hg hs
  have J := inv_start (CX := CX0) (qual := qual) (f := f) (cd := cdv) (E := E0) S hr.hd e0 (hl _ _ _ hs) rv ic
  refine ⟨nol.keeps ic.toInCall.keep, codeAny_func (wpAny_mono (hp.nox.run [] s1 (L2.start N vs) H _ J q) (fun fl s' z => ?_) fun _ _ z => z)⟩
  cases fl with
  | brk => obtain ⟨_, _, _, n⟩ := z; exact (n : False).elim
  | cont => obtain ⟨_, _, _, n⟩ := z; exact (n : False).elim
  | next => obtain ⟨σ', H', I, n⟩ := z; exact ⟨V.non, H', I.os, I.bare, I.base, I.hok, rfl, n⟩
  | ret u => obtain ⟨v, σ', H', I, rr, n⟩ := z; exact ⟨v, H', I.os, I.bare, I.base, I.hok, rr, n⟩
/-- THE RULE for such a def, by data -/
theorem fnDG {x qual : Str} {st : Stmt} {N : List Str} {wf : WF} {ws : WS} (F : Fun K x qual st f fd) (S : FnScope N ps (defScope st))
    (hb : ∀ (cdv : Value) (A : Around) (outer : List Env) (s : Shared) (H : Hp), Room k (A.deeper (envOfC qual (defScope st) s.heap.objs.size f cdv)) → A.guards = some [] →
      ∃ t, PDSs (cxOf CX0 P w K mg base N qual (defScope st) f cdv A outer s H E0).nox (defBody st) t ws)
    (hw : ∀ ds S Q, ds.length = ps.length → wf ds S Q → ws { nx := fun _ S' => Q .non S', rt := Q } (startD N ds) S) : FnG P w K mg base (k + 1) f fd ps (spW ⟨K, mg⟩ ps.length wf) := by
  refine fnG F S (fun vs H Q h => h.len) fun cdv A outer s H vs Q hr hg h => ?_
  obtain ⟨t, hp⟩ := hb cdv A outer s H hr hg
  obtain ⟨A', S', ds, Q', R, l, e, q, kk⟩ := h
  refine ⟨t, hp.pe, hp.sd A' S' (L2.start N vs) H (startD N ds) _ _ R (env_start l) (hw ds S' Q' e q) ⟨fun ρ1 S1 A1 σ1 H1 g1 R1 E1 q1 => kk _ S1 A1 .non H1 g1 R1 .non q1, kk, ?_, ?_⟩⟩
  · intro ρ1 S1 A1 σ1 H1 g1 R1 E1 q1; exact q1.elim
  · intro ρ1 S1 A1 σ1 H1 g1 R1 E1 q1; exact q1.elim
end
section
variable {X : Cx} {k n : Nat} {f : Addr} {fd : FuncData} {ps : List Str} {sp : Sp} {w : WF} {x : Str} {p pos : Pos} {e : Expr} {es : List Expr} {t : TA} {wl : WL}
theorem run_G {pins : List (Addr × Obj)} {σ : L2.St} {H : Hp} {s : Shared} {Q : VK} {us : List Value} {vs : List V} (F : FnG X.prog X.w X.K X.mg X.base k f fd ps sp) (hr : Room k X.A) (hg : X.A.guards = some []) (hb : Binds X.K fd ps [])
    (I : Inv X pins σ H s) (r : Vals vs us) (h : sp vs H Q E0) : wpAny (model X.prog X.w) X.A (call (.ref f) us) (EP X pins σ Q) X.xe s := by
  have hl : (us ++ []).length = ps.length := by rw [List.append_nil, ← r.length]; exact F.lenG _ _ _ h
  have bt := hb s us I.kIn hl
  rw [List.append_nil] at bt
  refine wpAny_call (codeAny_mono (F.runG X.A X.stack s H ⟨us, []⟩ us vs Q hr hg I.env0 bt r h) fun z s' hz => ?_)
  match z, hz with
  | .ok (.ret u), hz => exact I.after hz
theorem pe_callG (F : FnG X.prog X.w X.K X.mg X.base k f fd ps sp) (hr : Room k X.A) (hgd : X.A.guards = some []) (hg : Gl X x) (hm : X.mg x = some (.ref f)) (hk : PySem.W.keepIn X.K (.ref f) = true) (hb : Binds X.K fd ps []) (ha : PA X (e :: es) t)
    (hdb : (x == ("__debug__" : Str)) = false) (he : starEach (e :: es) X.env = (false, eval e X.env) :: starEach es X.env) (hpl : (backTo pos (starEach es X.env)).any (·.1) = false) :
    PE X (.Call (.Name x p) (e :: es) [] pos) (fun σ H Q => t σ H fun vs H1 => sp vs H1 Q E0) := ⟨fun pins s σ H Q I h =>
  wpAny_Call_Name_kw (ld_glob I hg hm (PySem.W.callWith_K (h₀ := X.base) I.ok.mod.kin hk (thn (ha.run pos pins s σ H _ I h) fun us s1 z => by
    obtain ⟨vs, H1, I1, r, q⟩ := z
    exact ⟨I1.kIn, run_G F hr hgd hb I1 r q⟩) he hpl) hdb)⟩
theorem d_callG (F : FnG X.prog X.w X.K X.mg X.base k f fd ps (spW X.G n w)) (hr : Room k X.A) (hgd : X.A.guards = some []) (hm : X.mg x = some (.ref f)) (hk : PySem.W.keepIn X.K (.ref f) = true) (hb : Binds X.K fd ps [])
    (ha : PDA X (e :: es) t wl) (hg : Gl X x := by rfl) (hdb : (x == ("__debug__" : Str)) = false := by decide) (he : starEach (e :: es) X.env = (false, eval e X.env) :: starEach es X.env := by rfl) (hpl : (backTo pos (starEach es X.env)).any (·.1) = false := by rfl) :
    PD X (.Call (.Name x p) (e :: es) [] pos) (fun σ H Q => t σ H fun vs H1 => spW X.G n w vs H1 Q E0) (wCall n w wl) := by
  refine ⟨pe_callG F hr hgd hg hm hk hb ha.pe hdb he hpl, fun A S σ H ρ Q Q' R E h kk => ?_⟩
  exact ha.sd A S σ H ρ _ _ R E h fun ds S1 A1 vs H1 g1 R1 hv q1 => ⟨A1, S1, ds, Q', R1, hv, q1.1, q1.2, kk.mono g1⟩
theorem d_callGC {G' : MG} (F : FnG X.prog X.w X.K X.mg X.base k f fd ps (spW G' n w)) (hr : Room k X.A) (hgd : X.A.guards = some []) (hm : X.mg x = some (.ref f)) (hk : PySem.W.keepIn X.K (.ref f) = true) (hb : Binds X.K fd ps [])
    (ha : PDA X (e :: es) t wl) (hG : G' = X.G := by rfl) (hg : Gl X x := by rfl) (hdb : (x == ("__debug__" : Str)) = false := by decide) (he : starEach (e :: es) X.env = (false, eval e X.env) :: starEach es X.env := by rfl) (hpl : (backTo pos (starEach es X.env)).any (·.1) = false := by rfl) :
    PD X (.Call (.Name x p) (e :: es) [] pos) (fun σ H Q => t σ H fun vs H1 => spW G' n w vs H1 Q E0) (wCall n w wl) := by
  subst hG
  exact d_callG F hr hgd hm hk hb ha hg hdb he hpl
end
/-! ### the law's call -/
section
variable {P : Program} {w : World} {K : PySem.W.Frag} {mg mb : Str → Option Value} {k : Nat} {fa a : Addr} {fd : FuncData} {x : Str} {sp : Sp} {s1 : Shared} {vs : List Value} {ns : List Int}
theorem lawG (KX : K.In s1.heap) (nm : s1.heap.Ns mainGlobals mg) (nb : s1.heap.Ns builtinsNs mb) (bb : ∀ x : Str, x ≠ "__name__" → mb x = bootBuiltins x) (nl : s1.heap.NoLimit) (gn : s1.gens = #[])
    (ha : s1.heap.get? a = some { cls := .type "list", data := .seq vs.toArray }) (hi : IntsAre vs ns) (hz : ns.length ≤ sizeLine) (hr : Room k callerA)
    (F : ∀ base : Heap, K.In base → base.Ns mainGlobals mg → FnG P w K mg base k fa fd [x] sp) (bd : ∀ (s : Shared) (u : Value), BindsTo s fd ⟨[u], []⟩ [(x, u)])
    (hs : ∀ H : Hp, Only H → SqL K H a (ns.map V.int) → sp [.ref a] H (fun v _ => v = .bl true) E0) :
    codeAny (model P w) callerA (.call (.ref fa) ⟨[.ref a], []⟩) (fun r s' => r = .ok (.ret (.bool true)) ∧ OldK s1.heap s'.heap ∧ s'.os = s1.os ∧ AllBare s'.gens) s1 := by
  have rv := vals_ints hi
  have main : ∀ H : Hp, Only H → SqL K H a (ns.map V.int) → HOk P w H s1.heap → (∀ b, b ≠ a → H b = none) → (K.lookup a ≠ none → H a = none) →
      codeAny (model P w) callerA (.call (.ref fa) ⟨[.ref a], []⟩) (fun r s' => r = .ok (.ret (.bool true)) ∧ OldK s1.heap s'.heap ∧ s'.os = s1.os ∧ AllBare s'.gens) s1 := by
    intro H only sq ok far own
    have keepN : ∀ {b : Addr} {m : Str → Option Value}, s1.heap.Ns b m → (hidT s1.heap H).Ns b m := by
      rintro b m ⟨o, es, ep, e, d, r⟩
      have hb : b ≠ a := by
        rintro rfl
        rw [ha] at e
        cases e
        exact nomatch (show Data.seq vs.toArray _ = Data.dict es ep from d)
      exact ⟨o, es, ep, hidT_get e (far b hb), d, r⟩
    have kin : K.In (hidT s1.heap H) := by
      intro b o e
      refine hidT_get (KX b o e) ?_
      by_cases hb : b = a
      · subst hb
        exact own (by rw [e]; simp)
      · exact far b hb
    have md : Mod K mg (hidT s1.heap H) := by
      obtain ⟨mc, l1, l2⟩ := nl
      exact ⟨kin, keepN nm, ⟨mb, keepN nb, bb⟩, mc, keepN l1, l2⟩
    have env : Env0 P w K mg (hidT s1.heap H) callerA [] s1 H := ⟨rfl, md, fun _ _ e => of_hidT e, Nat.le_of_eq (hidT_size _ _), trivial, fun _ hb => (by cases hb), ok, .of_eq gn⟩
    have run := (F _ kin (keepN nm)).runG callerA [] s1 H ⟨[.ref a], []⟩ [.ref a] [.ref a] _ hr rfl env (bd s1 (.ref a)) (.cons rfl .nil) (hs H only sq)
    refine codeAny_mono run fun r s' h => ?_
    match r, h with
    | .ok (.ret u), ⟨v, H', os, bare, un, ok', ru, q⟩ =>
      cases (show v = .bl true from q)
      cases (show u = Value.bool true from ru)
      refine ⟨rfl, OldK.of_keep fun b o e => ?_, os, bare⟩
      by_cases hn : H b = none
      · exact un.keep b o e hn (fun z => by cases z) (fun z => by cases z)
      · obtain ⟨ob, xs, fz⟩ := (only b).resolve_left hn
        have k1 := (ok b _ fz).1
        have k2 := (ok' b _ (un.frzs b ob _ fz)).1
        rw [e] at k1
        cases k1
        exact k2
  by_cases hk : K.lookup a = none
  · let H : Hp := fun b => if b = a then some (.frz { cls := .type "list", data := .seq vs.toArray } (.lst (ns.map V.int))) else none
    have at_a : H a = some (.frz { cls := .type "list", data := .seq vs.toArray } (.lst (ns.map V.int))) := if_pos rfl
    have no : ∀ b, b ≠ a → H b = none := fun b hb => if_neg hb
    refine main H (fun b => ?_) (.inl (.inr ⟨_, at_a⟩)) (fun b u z => ?_) no (fun z => absurd hk z)
    · by_cases hb : b = a
      · rw [hb]; exact .inr ⟨_, _, at_a⟩
      · exact .inl (no b hb)
    · by_cases hb : b = a
      · subst hb
        rw [at_a] at z
        cases z
        exact ⟨ha, by simpa using hz, vs, _, rv, ha⟩
      · rw [no b hb] at z
        cases z
  · obtain ⟨o, e⟩ : ∃ o, K.lookup a = some o := by
      cases h : K.lookup a with
      | none => exact absurd h hk
      | some o => exact ⟨o, rfl⟩
    have e' := KX a o e
    rw [ha] at e'
    cases e'
    have lv : vs.length ≤ sizeLine := by rw [hi.length]; exact hz
    exact main (fun _ => none) (fun _ => .inl rfl) (.inr ⟨_, vs.toArray, _, e, rfl, rfl, rfl, by simpa using lv, by simpa using rv⟩) (fun b u z => by cases (show (none : Option HO) = some u from z)) (fun _ _ => rfl) fun _ => rfl
end
theorem walkG {l : PySem.W.OpenLaw} {n k : Nat} {q : Program} {loose : List Str} {XP : (Str → Option Value) → Heap → Prop} {YP : World → Heap → Prop} {d : DefRec} {K : Params → PySem.W.Frag} {sp : World → Sp} {x : Str}
    (hn : l.most = some n) (hz : n ≤ sizeLine) (hd : d.params.defaults = []) (hr : Room k callerA) (hY : ∀ (w : World) (h : Heap), YP w h → (K w.params).In h)
    (F : ∀ (w : World) (mg : Str → Option Value) (fa : Addr) (h : Heap), (K w.params).In h → h.Ns mainGlobals mg → mg d.name = some (.ref fa) →
      ∃ fd : FuncData, (∀ (s : Shared) (u : Value), BindsTo s fd ⟨[u], []⟩ [(x, u)]) ∧ ∀ base : Heap, (K w.params).In base → base.Ns mainGlobals mg → FnG l.prog w (K w.params) mg base k fa fd [x] (sp w))
    (hs : ∀ (w : World) (H : Hp) (a : Addr) (ns : List Int), ns.length ≤ n → Only H → SqL (K w.params) H a (ns.map V.int) → sp w [.ref a] H (fun v _ => v = .bl true) E0) :
    PySem.W.WalkO q loose XP YP l.row.toRowW d [] (fun f vs => PySem.call f vs) := by
  refine Att.attach_call hn hd fun w s0 s1 mg mb fa o pm cd doc a vs ns G Y ho hdd hcd hmg hobj hints hl hg => ?_
  obtain ⟨fd, hb, hF⟩ := F w mg fa _ (hY w _ Y) G.T.g hmg
  exact lawG (hY w _ Y) G.T.g G.T.b G.T.builtins G.T.nolimit hg hobj hints (Nat.le_trans hl hz) hr hF hb fun H h1 h2 => hs w H a ns hl h1 h2
end DL

set_option Elab.async false
set_option linter.all false
set_option maxRecDepth 100000
/-! repr of data, truth of own objects, own comparisons with anything, written dicts. -/
namespace DL
open PySem PySem.Spec PyProof.Rows L2
/-! ### repr -/
structure Shows (d : PyData) : Prop where
  ok : d.showable = true
  nod : d.hasDict = false
  dp : d.depth ≤ 100
  sz : d.shown.length ≤ sizeLine
def rReprD (K : PySem.W.Frag) : List V → Hp → VK → Prop := fun xs H Q => ∃ x d, xs = [x] ∧ Dp K H x d ∧ Shows d ∧ Q (.str d.shown) H
section
variable {X : Cx} {k : Nat}
theorem call_reprD (hr : Room k X.A) (hg : X.A.guards = some []) : CallR X (.builtin "repr") (rReprD X.K) := by
  intro pins s σ H xs us Q I r h
  obtain ⟨x, d, rfl, hd, sh, q⟩ := h
  obtain ⟨u, rfl, ru⟩ := vals1 r
  have un := hr.un
  have low : ∀ {n : Nat}, n ≤ 101 → X.A.units + n < cLine := fun h => by omega
  cases hd with
  | non => cases (show u = Value.none from ru); exact PySem.P.repr_of_none ⟨.str _, H, I.tok _, ⟨_, rfl⟩, q⟩
  | bl b => cases (show u = Value.bool b from ru); exact PySem.P.repr_of_bool ⟨.str _, H, I.tok _, ⟨_, rfl⟩, q⟩
  | int i =>
    obtain ⟨t, rfl⟩ := (show ∃ t, u = Value.int i t from ru)
    exact PySem.P.repr_of_int (by simpa [PyData.showable] using sh.ok) ⟨.str _, H, I.tok _, ⟨_, rfl⟩, q⟩
  | str y =>
    obtain ⟨t, rfl⟩ := (show ∃ t, u = Value.str y t from ru)
    exact PySem.P.repr_of_str ⟨.str _, H, I.tok _, ⟨_, rfl⟩, q⟩ (by simpa [PyData.shown] using sh.sz)
  | @lst a zs ds hs ha =>
    obtain ⟨as, rd⟩ := Dp.reads I _ _ u (.lst hs ha) ru
    cases (show u = Value.ref a from ru)
    exact repr_of_reads' rd sh.ok (PyData.noDict_hsm sh.nod) hg (low (Nat.succ_le_succ sh.dp)) (fun _ _ e => e) (fun h' v tk hk => ⟨.str _, H, I.kept hk, ⟨v, rfl⟩, q⟩) sh.sz
  | @tup a zs ds hs ha =>
    obtain ⟨as, rd⟩ := Dp.reads I _ _ u (.tup hs ha) ru
    cases (show u = Value.ref a from ru)
    exact repr_of_reads' rd sh.ok (PyData.noDict_hsm sh.nod) hg (low (Nat.succ_le_succ sh.dp)) (fun _ _ e => e) (fun h' v tk hk => ⟨.str _, H, I.kept hk, ⟨v, rfl⟩, q⟩) sh.sz
end
def oReprD : LD := fun ds S Q => match ds with
  | [x] => ∃ d, datM S x = some d ∧ Shows d ∧ Q (.str d.shown) S
  | _ => False
theorem snd_reprD {mg : MG} {K : PySem.W.Frag} : SndC mg (rReprD K) oReprD := by
  intro A S H xs ds Q Q' R l q k
  match ds, q, l with
  | [x], ⟨d, h1, h2, q⟩, l =>
    obtain ⟨v, rfl, hv⟩ := l.one
    exact ⟨v, d, rfl, hv.dpM R h1, h2, k _ S A _ H .refl R (.str _) q⟩
/-! ### truth of own objects -/
section
variable {X : Cx} {k : Nat} {C g : Addr} {fd : FuncData} {ps : List Str} {sp : Sp} {c : Str} {w : WF}
theorem truthyK {A : Around} {pins : List (Addr × Obj)} {σ : L2.St} {H : Hp} {s : Shared} {a dx : Addr} {fs : List (Str × V)} {QB : Bool → Hp → Prop} (M : OwnM X.K C "__bool__" g) (F : FnOk X.prog X.w X.K X.mg X.base CX0 k g fd ps sp) (hr : Room k A)
    (he : Env0 X.prog X.w X.K X.mg X.base A X.stack s H) (hb : Binds X.K fd ps []) (I : Inv X pins σ H s) (ha : H a = some (.ins C dx fs)) (q : sp [.ref a] H (fun v H' => ∃ b, v = .bl b ∧ QB b H') E0) :
    wpAny (model X.prog X.w) A (truthy (.ref a)) (fun b s' => ∃ H', Inv X pins σ H' s' ∧ QB b H') X.xe s := by
  obtain ⟨mA, OM, _⟩ := ins_get I.hok ha
  obtain ⟨od, J, _⟩ := OM.look
  unfold truthy
  have step : wpAny (model X.prog X.w) A (callSpecial? (.ref a) (Str.ofString "__bool__")) (fun r s' => ∃ b, r = some (.bool b) ∧ ∃ H', Inv X pins σ H' s' ∧ QB b H') X.xe s := by
    refine PySem.W.special_fn I.kIn J M.at_ (beq_iff_eq.mp M.fn) ?_
    refine wpAny_mono (run_at (us := [.ref a]) (vs := [.ref a]) (A := A) F hr he hb I (.cons rfl .nil) q) (fun u s' z => ?_) fun _ _ e => e
    obtain ⟨v, H', I', rv, ⟨b, rfl, qq⟩⟩ := z
    cases (show u = Value.bool b from rv)
    exact ⟨b, rfl, H', I', qq⟩
  first
    | (refine wpAny_bind (m := callSpecial? (.ref a) (Str.ofString "__bool__")) (wpAny_mono step (fun r s' z => ?_) fun _ _ e => e))
    | (refine wpAny_bind (wpAny_pure ?_); refine wpAny_bind (m := callSpecial? (.ref a) (Str.ofString "__bool__")) (wpAny_mono step (fun r s' z => ?_) fun _ _ e => e))
  obtain ⟨b, rfl, z⟩ := z
  exact wpAny_pure z
def wOwnT (c : Str) (w : WF) (we : WD) : WB := fun ρ S Q => we ρ S fun x S1 => match x with
  | .ins c' fs => c' = c ∧ w [.ins c' fs] S1 fun d S2 => match d with
    | .bl b => Q b S2
    | _ => False
  | _ => False
theorem endB {mg : MG} {A : List Addr} {H : Hp} {Q : Bool → Hp → Prop} {Q' : Bool → MS → Prop} (k : EndB mg A H Q Q') : EndV mg A H (fun v H' => ∃ b, v = .bl b ∧ Q b H') (fun d S => match d with
    | .bl b => Q' b S
    | _ => False) := fun d S' A' v H' g' R' hv z => by
  cases hv <;> first | exact z.elim | skip
  exact ⟨_, rfl, k _ S' A' H' g' R' z⟩
/-- an own object as a test -/
theorem dt_own {e : Expr} {te : TE} {we : WD} (he : PD X e te we) (hC : X.mg c = some (.ref C)) (M : OwnM X.K C "__bool__" g) (F : FnOk X.prog X.w X.K X.mg X.base CX0 k g fd ps (spW X.G 1 w)) (hr : Room k X.A) (hb : Binds X.K fd ps [])
    (hi : ∀ whole, isTrue e X.env whole = (do let v ← whole; standAt e.pos; holding [v] (truthy v)) := by intro _; rfl) :
    PDT X e (fun σ H Q => te σ H fun x H' => ∃ a dx fs, x = .ref a ∧ H' a = some (.ins C dx fs) ∧ spW X.G 1 w [.ref a] H' (fun v H2 => ∃ b, v = .bl b ∧ Q b H2) E0) (wOwnT c w we) := by
  refine ⟨⟨fun pins s σ H Q I h => ?_⟩, fun A S σ H ρ Q Q' R E h kk => ?_⟩
  · refine isTrue_plain (thn (he.pe.run pins s σ H _ I h) fun v s1 z => ?_) (hi _)
    obtain ⟨x, H1, I1, rx, a, dx, fs, rfl, ha, q⟩ := z
    cases (show v = Value.ref a from rx)
    exact truthyK M F hr I1.env0 hb I1 ha q
  · refine he.sd A S σ H ρ _ _ R E h fun d S1 A1 v H1 g1 R1 hv q1 => ?_
    cases hv <;> first | exact q1.elim | skip
    rename_i a C' dx c' fs fds na ec r l
    obtain ⟨rfl, q1⟩ := q1
    cases hC.symm.trans (show X.mg _ = _ from ec)
    exact ⟨a, dx, fs, rfl, r, A1, S1, [_], _, R1, .cons (.ins na hC r l) .nil, rfl, q1, endB (kk.mono g1)⟩
def oOwnN (c : Str) (w : WF) : UD := fun x S Q => match x with
  | .ins c' fs => c' = c ∧ w [.ins c' fs] S fun d S2 => match d with
    | .bl b => Q (.bl (!b)) S2
    | _ => False
  | _ => False
def rOwnN (C : Addr) (sp : Sp) : V → Hp → VK → Prop := fun x H Q => ∃ a dx fs, x = .ref a ∧ H a = some (.ins C dx fs) ∧ sp [.ref a] H (fun v H2 => ∃ b, v = .bl b ∧ Q (.bl (!b)) H2) E0
/-- not o -/
theorem un_ownNot (M : OwnM X.K C "__bool__" g) (F : FnOk X.prog X.w X.K X.mg X.base CX0 k g fd ps sp) (hr : Room k X.A) (hb : Binds X.K fd ps []) : UnR X (unaryOp .Not) (rOwnN C sp) := by
  intro pins s σ H x v Q I rx h
  obtain ⟨a, dx, fs, rfl, ha, q⟩ := h
  cases (show v = Value.ref a from rx)
  refine not_of (wpAny_mono (truthyK (QB := fun b H' => Q (.bl (!b)) H') M F hr I.env0 hb I ha q) (fun b s' z => ?_) fun _ _ e => e)
  obtain ⟨H', I', z⟩ := z
  exact ⟨.bl (!b), H', I', rfl, z⟩
theorem snd_ownN {mg : MG} (hC : mg.f c = some (.ref C)) : SndU mg (rOwnN C (spW mg 1 w)) (oOwnN c w) := by
  intro A S H x dx Q Q' R hx q kk
  cases hx <;> first | exact q.elim | skip
  rename_i a C' dy c' fs fds na ec r l
  obtain ⟨rfl, q⟩ := q
  cases hC.symm.trans (show mg.f _ = _ from ec)
  exact ⟨a, dy, fs, rfl, r, A, S, [_], _, R, .cons (.ins na hC r l) .nil, rfl, q, endB (Q := fun b H2 => Q (.bl (!b)) H2) (Q' := fun b S2 => Q' (.bl (!b)) S2) fun b S' A' H' g' R' z => kk _ S' A' _ H' g' R' (.bl _) z⟩
/-- bool(o) -/
theorem call_boolOwn (M : OwnM X.K C "__bool__" g) (F : FnOk X.prog X.w X.K X.mg X.base CX0 k g fd ps sp) (hr : Room (k + 3) X.A) (hb : Binds X.K fd ps []) :
    CallR X (.type "bool") (fun xs H Q => ∃ a dx fs, xs = [.ref a] ∧ H a = some (.ins C dx fs) ∧ sp [.ref a] H (fun v H2 => ∃ b, v = .bl b ∧ Q (.bl b) H2) E0) := by
  intro pins s σ H xs us Q I r h
  obtain ⟨a, dx, fs, rfl, ha, q⟩ := h
  obtain ⟨u, rfl, ru⟩ := vals1 r
  cases (show u = Value.ref a from ru)
  have hr2 : Room k X.A.in1.in1 := ((hr.mono (show k + 2 ≤ k + 3 by omega)).in1 : Room (k + 1) X.A.in1).in1
  have run := truthyK (QB := fun b H' => Q (.bl b) H') M F hr2 I.env0.in1.in1 hb I ha q
  refine callType_newIn (S := fun A R s => wpAny (model X.prog X.w) A.in1 (truthy (.ref a)) (fun b s' => R (.ok (.ret (.bool b))) s') (fun e s' => R (.error e) s') s)
    PySem.F.called_bool PySem.F.newNe_bool (PySem.F.typeCall_bool_1 _) (PySem.F.newCall_bool_1 _) (fun obj => PySem.F.args_object_init_2 obj _) PySem.F.entry_bool_new ?_ ?_
  · refine MeetsIn.of_wp fun A R s hs => ?_
    have f1 := PySem.F.conv_sub_bool
    unfold Builtin.«bool.__new__»
    repeat (any_goals (first | assumption | (with_reducible refine wpAny_bind (m := truthy (.ref a)) (wpAny_mono hs (fun b s' z => ?_) fun _ _ z => z)) | wp_step))
    all_goals first | exact ⟨_, rfl, z⟩ | exact z | skip
  · refine wpAny_mono run (fun b s' z => ?_) fun e s' z => z
    obtain ⟨H', I', z⟩ := z
    exact ⟨rfl, .bl b, H', I', rfl, z⟩
end
/-! ### own comparisons with anything -/
theorem looks_ty {M : Model} {s : Shared} {v : Value} {T : String} (h : s.TypeIs v T) : PySem.W.Looks M s.heap (typeOf v) (.type T) := fun A Q E s' kp q => wpAny_typeOf (by
  cases v with
  | ref a => obtain ⟨o, h1, h2⟩ := h; exact ⟨o, kp _ _ h1, h2⟩
  | _ => exact h) q
section
variable {X : Cx} {CX : CXT} {k : Nat} {C g : Addr} {fd : FuncData} {ps : List Str} {sp : Sp} {E : XK} {c : Str} {w : WF}
def rOwnA (C : Addr) (ts : List String) (K : PySem.W.Frag) (sp : Sp) (E : XK) : L2.R2 := fun x y H Q => Ins C H x ∧ (∃ T, T ∈ ts ∧ TyB K H y T) ∧ sp [x, y] H Q E
theorem op_ownCmpA {op : CmpOp} {ts : List String} (hop : ∀ a b, compareOp op a b = richCompare op a b) (M : OwnM X.K C (cmpInfo op).2.1 g) (hts : ∀ T ∈ ts, PySem.W.subIn X.K (.type T) (.ref C) = some false)
    (F : FnOk X.prog X.w X.K X.mg X.base CX k g fd ps sp) (hr : Room k X.A) (hb : Binds X.K fd ps []) (hx : Passes CX X E) : OpR X (compareOp op) (rOwnA C ts X.K sp E) := by
  intro pins s σ H x y v u Q I rx ry h
  obtain ⟨⟨a, dx, fs, rfl, ha⟩, ⟨T, hT, ty⟩, q⟩ := h
  cases (show v = Value.ref a from rx)
  obtain ⟨mA, OM, _⟩ := ins_get I.hok ha
  obtain ⟨od, J, _⟩ := OM.look
  obtain ⟨m, hF⟩ := I.fr
  rw [hop]
  have run := run_fn (us := [.ref a, u]) (vs := [.ref a, y]) F hr hb .nil hx I (.cons rfl (.cons ry .nil)) (by simpa using q)
  refine PySem.W.cmp_K (tb := .type T) hr.units0 hF I.ok.mod.kin J ?_ (by simp [PySem.W.notFirst, hts T hT]) M.at_ M.fn (wpAny_mono run (fun z s' hz => ?_) fun _ _ e => e)
  · exact looks_ty (ty.is I ry)
  · obtain ⟨z', H', I', rz, qz⟩ := hz
    exact cmpback rz ⟨z', H', I', rz, qz⟩
end
theorem Is.tyB {mg : MG} {A : List Addr} {S : MS} {H : Hp} {v : V} {d : D} {T : String} (R : Rep mg A S H) (h : Is mg A H v d) (e : tyOf d = some (.ty T)) : TyB mg.K H v T := by
  cases h with
  | non => cases e; exact .non
  | bl b => cases e; exact .bl b
  | int i => cases e; exact .int i
  | str x => cases e; exact .str x
  | tup n r l => cases e; exact .tup (.inl r)
  | lst n r l => cases e; exact .lst (.of r)
  | dct n r l => cases e; exact .dK r
  | exc n r l => cases e
  | «mut» ea =>
    cases e
    obtain ⟨es, he⟩ := R.gets ea
    obtain ⟨vs, h1, _⟩ := R.at_ _ _ es ea he
    exact .lst (.of h1)
  | _ => cases e
def oOwnA (c : Str) (ts : List String) (w : WF) : OD := fun x y S Q => (∃ fds, x = .ins c fds) ∧ (∃ T, T ∈ ts ∧ tyOf y = some (.ty T)) ∧ w [x, y] S Q
theorem snd_ownA {mg : MG} {c : Str} {C : Addr} {ts : List String} {w : WF} {E : XK} (hC : mg.f c = some (.ref C)) : SndR mg (rOwnA C ts mg.K (spW mg 2 w) E) (oOwnA c ts w) := by
  intro A S H x y dx dy Q Q' R hx hy q k
  obtain ⟨⟨fds, rfl⟩, ⟨T, hT, ty⟩, q⟩ := q
  exact ⟨hx.insOf hC, ⟨T, hT, hy.tyB R ty⟩, A, S, [_, dy], Q', R, .cons hx (.cons hy .nil), rfl, q, k⟩
/-! ### written dicts -/
def keyD : Key → D
  | .inl i => .int i
  | .inr x => .str x
def putD (kvs : List (Key × D)) (k : Key) (v : D) : List (Key × D) :=
  if (kvs.any fun kv => decide (kv.1 = k)) = true then kvs.map (fun kv => if kv.1 = k then (kv.1, v) else kv) else kvs ++ [(k, v)]
def mergeD (kvs more : List (Key × D)) : List (Key × D) := more.foldl (fun acc kv => putD acc kv.1 kv.2) kvs
section
variable {mg : MG} {A A' : List Addr} {S : MS} {H H' : Hp}
theorem IsK.append : ∀ {as bs : List (Key × V)} {cs ds : List (Key × D)}, IsK mg A H as cs → IsK mg A H bs ds → IsK mg A H (as ++ bs) (cs ++ ds)
  | _, _, _, _, .nil, q => q
  | _, _, _, _, .cons h t, q => .cons h (t.append q)
theorem IsK.any (k : Key) : ∀ {as : List (Key × V)} {cs : List (Key × D)}, IsK mg A H as cs → (as.any fun kv => decide (kv.1 = k)) = cs.any fun kv => decide (kv.1 = k)
  | _, _, .nil => rfl
  | _, _, .cons _ t => by rw [List.any_cons, List.any_cons, t.any k]
theorem IsK.upd {k : Key} {v : V} {d : D} (h : Is mg A H v d) : ∀ {as : List (Key × V)} {cs : List (Key × D)}, IsK mg A H as cs →
    IsK mg A H (as.map fun kv => if kv.1 = k then (kv.1, v) else kv) (cs.map fun kv => if kv.1 = k then (kv.1, d) else kv)
  | _, _, .nil => .nil
  | _, _, .cons (f := f) h0 t => by
    rw [List.map_cons, List.map_cons]
    by_cases e : f = k
    · rw [if_pos e, if_pos e]; exact .cons h (t.upd h)
    · rw [if_neg e, if_neg e]; exact .cons h0 (t.upd h)
theorem IsK.put {k : Key} {v : V} {d : D} {as : List (Key × V)} {cs : List (Key × D)} (l : IsK mg A H as cs) (h : Is mg A H v d) : IsK mg A H (L2.putK as k v) (putD cs k d) := by
  unfold L2.putK putD
  rw [l.any k]
  split
  · exact l.upd h
  · exact l.append (.cons h .nil)
theorem IsK.merge : ∀ {bs : List (Key × V)} {ds : List (Key × D)} {as : List (Key × V)} {cs : List (Key × D)}, IsK mg A H bs ds → IsK mg A H as cs → IsK mg A H (L2.mergeK as bs) (mergeD cs ds)
  | _, _, _, _, .nil, q => q
  | _, _, _, _, .cons (f := f) h t, q => by
    show IsK mg A H (L2.mergeK (L2.putK _ f _) _) (mergeD (putD _ f _) _)
    exact IsK.merge t (q.put h)
theorem IsK.length : ∀ {as : List (Key × V)} {cs : List (Key × D)}, IsK mg A H as cs → as.length = cs.length
  | _, _, .nil => rfl
  | _, _, .cons _ t => congrArg Nat.succ t.length
end
/-- an expression that reads a name or a constant: its value does not hang on the heap -/
structure PDQ (X : Cx) (e : Expr) (t : TE) (q : DEnv → Option D) : Prop where
  pe : PE X e t
  sd : ∀ A H σ ρ d, EnvD X.G A H σ ρ → q ρ = some d → ∃ v, Is X.G A H v d ∧ ∀ (H' : Hp) (Q : VK), Q v H' → t σ H' Q
def qVar (i : Nat) : DEnv → Option D := fun ρ => match ρ[i]? with
  | some (some d) => some d
  | _ => none
def qC (d : D) : DEnv → Option D := fun _ => some d
section
variable {X : Cx}
theorem q_var (i : Nat) {x : Str} {pos : Pos} (hN : X.N[i]? = some x := by rfl) (hv : Vis X.env.scope x := by first | exact Or.inl rfl | exact Or.inr (Or.inl rfl) | exact Or.inr (Or.inr rfl)) (hd : (x == ("__debug__" : Str)) = false := by decide)
    (hcd : (x == ("__classdict__" : Str)) = false := by decide) : PDQ X (.Name x pos) (tVar i) (qVar i) := ⟨pe_var hN hv hd hcd, fun A H σ ρ d E e => by
  unfold qVar at e
  split at e
  · rename_i d' hd'
    cases e
    obtain ⟨v, h1, h2⟩ := E.at_ i d hd'
    exact ⟨v, h2, fun H' Q h => ⟨v, h1, h⟩⟩
  · cases e⟩
theorem q_int {i j pos} : PDQ X (.Constant (.int i) j pos) (tC (.int i)) (qC (.int i)) := ⟨pe_int, fun A H σ ρ d E e => by cases e; exact ⟨_, .int i, fun H' Q h => h⟩⟩
theorem q_str {x j pos} : PDQ X (.Constant (.str x) j pos) (tC (.str x)) (qC (.str x)) := ⟨pe_str, fun A H σ ρ d E e => by cases e; exact ⟨_, .str x, fun H' Q h => h⟩⟩
end
def evQ : List ((DEnv → Option D) × (DEnv → Option D)) → DEnv → Option (List (D × D))
  | [], _ => some []
  | (a, b) :: r, ρ => match a ρ, b ρ, evQ r ρ with
    | some x, some y, some l => some ((x, y) :: l)
    | _, _, _ => none
inductive PDP (X : Cx) (pos : Pos) : List (Option Expr) → List Expr → List (TE × TE) → List ((DEnv → Option D) × (DEnv → Option D)) → Prop where
  | nil : PDP X pos [] [] [] []
  | cons {a b : Expr} {ks : List (Option Expr)} {vs : List Expr} {ta tb : TE} {wa wb : DEnv → Option D} {ts : List (TE × TE)} {ws : List ((DEnv → Option D) × (DEnv → Option D))} (ha : PDQ X a ta wa) (hb : PDQ X b tb wb) (r : PDP X pos ks vs ts ws) : PDP X pos (some a :: ks) (b :: vs) ((ta, tb) :: ts) ((wa, wb) :: ws)
theorem PDP.pp {X : Cx} {pos : Pos} {ks : List (Option Expr)} {vs : List Expr} {ts : List (TE × TE)} {ws : List ((DEnv → Option D) × (DEnv → Option D))} (h : PDP X pos ks vs ts ws) : PPs X pos ks vs ts := by
  induction h with
  | nil => exact pps_nil
  | cons ha hb _ ih => exact pps_cons ha.pe hb.pe ih
/-- pairs of values told by pairs of data -/
def IsP (mg : MG) (A : List Addr) (H : Hp) (p : List (V × V)) (q : List (D × D)) : Prop := IsL mg A H (p.map (·.1)) (q.map (·.1)) ∧ IsL mg A H (p.map (·.2)) (q.map (·.2))
theorem PDP.sd {X : Cx} {pos : Pos} {ks : List (Option Expr)} {vs : List Expr} {ts : List (TE × TE)} {ws : List ((DEnv → Option D) × (DEnv → Option D))} (h : PDP X pos ks vs ts ws) : ∀ A H σ ρ q, EnvD X.G A H σ ρ → evQ ws ρ = some q →
    ∃ p, IsP X.G A H p q ∧ ∀ (H' : Hp) (Q : List (V × V) → Hp → Prop), Q p H' → tPairs ts σ H' Q := by
  induction h with
  | nil => intro A H σ ρ q E e; cases e; exact ⟨[], ⟨.nil, .nil⟩, fun H' Q h => h⟩
  | cons ha hb _ ih =>
    intro A H σ ρ q E e
    unfold evQ at e
    split at e
    · rename_i x y l e1 e2 e3
      cases e
      obtain ⟨u, hu, ku⟩ := ha.sd A H σ ρ x E e1
      obtain ⟨v, hv, kv⟩ := hb.sd A H σ ρ y E e2
      obtain ⟨p, hp, kp⟩ := ih A H σ ρ l E e3
      exact ⟨(u, v) :: p, ⟨.cons hu hp.1, .cons hv hp.2⟩, fun H' Q h => ku H' _ (kv H' _ (kp H' _ h))⟩
    · cases e
theorem isP_keys {mg : MG} {A : List Addr} {H : Hp} : ∀ {p : List (V × V)} {kds : List (Key × D)}, IsP mg A H p (kds.map fun kv => (keyD kv.1, kv.2)) → ∃ kvs : List (Key × V), p = kvs.map (fun kv => (kV kv.1, kv.2)) ∧ IsK mg A H kvs kds
  | [], [], _ => ⟨[], rfl, .nil⟩
  | [], _ :: _, h => by cases h.1
  | _ :: _, [], h => by cases h.1
  | (a, b) :: p, (k, d) :: kds, h => by
    obtain ⟨h1, h2⟩ := h
    rw [List.map_cons, List.map_cons, List.map_cons] at h1 h2
    cases h1 with
    | cons x1 t1 =>
      cases h2 with
      | cons x2 t2 =>
        obtain ⟨kvs, e, l⟩ := isP_keys (p := p) (kds := kds) ⟨t1, t2⟩
        refine ⟨(k, b) :: kvs, ?_, .cons x2 l⟩
        rw [e, List.map_cons]
        cases k with
        | inl i => cases x1; rfl
        | inr y => cases x1; rfl
/-- {k: v, ..} of names and constants: a dict that never changes -/
def wDisp (ws : List ((DEnv → Option D) × (DEnv → Option D))) : WD := fun ρ S Q => ∃ kds : List (Key × D), evQ ws ρ = some (kds.map fun kv => (keyD kv.1, kv.2)) ∧ kds.length ≤ 15 ∧ Q (.dct (mergeD [] kds)) S
theorem d_disp {X : Cx} {pos : Pos} {keys : List (Option Expr)} {values : List Expr} {ts : List (TE × TE)} {ws : List ((DEnv → Option D) × (DEnv → Option D))} (h : PDP X pos keys values ts ws) (h0 : keys ≠ [] := by intro z; cases z) (hall : keys.all (·.isSome) = true := by rfl) (hl : keys.length = values.length := by rfl) (h15 : keys.length ≤ 15 := by decide) :
    PD X (.Dict keys values pos) (tDisp ts) (wDisp ws) := by
  refine ⟨pe_disp h.pp hall hl h0 h15, fun A S σ H ρ Q Q' R E q k => fun p hp => ?_⟩
  obtain ⟨kds, e, l15, q⟩ := q
  obtain ⟨ps, hps, run⟩ := h.sd A H σ ρ _ E e
  obtain ⟨kvs, rfl, lk⟩ := isP_keys hps
  refine run _ _ ⟨upd_same, kvs, rfl, by rw [lk.length]; exact l15, ?_⟩
  rw [upd_upd]
  have g := grow_new (o := .dK (L2.mergeK [] kvs)) R hp
  exact k _ S A _ _ g (R.new hp) (.dct (R.fresh hp) upd_same (IsK.merge (lk.mono g) .nil)) q
theorem d_dict0 {X : Cx} {pos : Pos} : PD X (.Dict [] [] pos) tDNewK (wC (.dct [])) := ⟨pe_dnewK, fun A S σ H ρ Q Q' R E q k p hp => k _ S A _ _ (grow_new R hp) (R.new hp) (.dct (R.fresh hp) upd_same .nil) q⟩
theorem d_callC {X : Cx} {G' : MG} {k n : Nat} {f : Addr} {fd : FuncData} {ps : List Str} {w : WF} {x : Str} {p pos : Pos} {e : Expr} {es : List Expr} {t : TA} {wl : WL} (F : FnOk X.prog X.w X.K X.mg X.base CX0 k f fd ps (spW G' n w)) (hr : Room k X.A) (hm : X.mg x = some (.ref f)) (hk : PySem.W.keepIn X.K (.ref f) = true) (hb : Binds X.K fd ps [])
    (ha : PDA X (e :: es) t wl) (hG : G' = X.G := by rfl) (hg : Gl X x := by rfl) (hdb : (x == ("__debug__" : Str)) = false := by decide) (he : starEach (e :: es) X.env = (false, eval e X.env) :: starEach es X.env := by rfl) (hpl : (backTo pos (starEach es X.env)).any (·.1) = false := by rfl) :
    PD X (.Call (.Name x p) (e :: es) [] pos) (tCall (spW G' n w) [] E0 t) (wCall n w wl) := by
  subst hG
  exact d_call F hr hm hk hb ha hg hdb he hpl
end DL

set_option Elab.async false
set_option linter.all false
set_option maxRecDepth 100000
namespace K1
open PySem PySem.Spec PyProof.Rows L2 DL
theorem tx_pos (n : Nat) : Str.ofString (toString (n : Int)) = SX.S (TL.numL n) := SX.num_S n
theorem tx_neg (n : Nat) : Str.ofString (toString (Int.negSucc n)) = SX.S (45 :: TL.numL (n + 1)) := by
  refine TL.ext_tl ?_
  have e : toString (Int.negSucc n) = "-" ++ toString (((n + 1 : Nat)) : Int) := rfl
  rw [TL.tl_ofString, e, String.toList_append, List.map_append, ← TL.tl_ofString (toString (((n + 1 : Nat)) : Int)), TL.tl_num]
  rfl
def txL (i : Int) : List Nat := if i < 0 then 45 :: TL.numL i.natAbs else TL.numL i.natAbs
theorem tx (i : Int) : Str.ofString (toString i) = SX.S (txL i) := by
  cases i with
  | ofNat n =>
    unfold txL
    rw [if_neg (show ¬ Int.ofNat n < 0 from Int.not_lt.mpr (Int.natCast_nonneg n))]
    exact tx_pos n
  | negSucc n =>
    unfold txL
    rw [if_pos (Int.negSucc_lt_zero n)]
    exact tx_neg n
theorem no_slash (i : Int) : 47 ∉ txL i := by
  unfold txL
  have h : 47 ∉ TL.numL i.natAbs := TL.numL_free (by omega)
  split
  · intro z
    rcases List.mem_cons.mp z with z | z
    · omega
    · exact h z
  · exact h
theorem par_hit : ∀ (la acc lb : List Nat), 47 ∉ la → TL.par [47] acc (la ++ 47 :: lb) = some (acc ++ la, lb)
  | [], acc, lb, _ => by
    show (if TL.pre [47] (47 :: lb) = true then some (acc, (47 :: lb).drop 1) else _) = _
    rw [if_pos (by simp [TL.pre])]
    simp
  | c :: la, acc, lb, h => by
    have hc : c ≠ 47 := fun z => h (by rw [z]; exact List.mem_cons_self)
    show (if TL.pre [47] (c :: (la ++ 47 :: lb)) = true then _ else TL.par [47] (acc ++ [c]) (la ++ 47 :: lb)) = _
    rw [if_neg (by simp [TL.pre, hc]), par_hit la (acc ++ [c]) lb fun z => h (List.mem_cons_of_mem _ z)]
    simp
theorem par_miss : ∀ (la acc : List Nat), 47 ∉ la → TL.par [47] acc la = none
  | [], acc, _ => rfl
  | c :: la, acc, h => by
    have hc : c ≠ 47 := fun z => h (by rw [z]; exact List.mem_cons_self)
    show (if TL.pre [47] (c :: la) = true then _ else TL.par [47] (acc ++ [c]) la) = _
    rw [if_neg (by simp [TL.pre, hc])]
    exact par_miss la (acc ++ [c]) fun z => h (List.mem_cons_of_mem _ z)
theorem digit_ok {c : Nat} (h : 48 ≤ c ∧ c ≤ 57) : PySem.Unicode.isDigit c = true := by
  have : c = 48 ∨ c = 49 ∨ c = 50 ∨ c = 51 ∨ c = 52 ∨ c = 53 ∨ c = 54 ∨ c = 55 ∨ c = 56 ∨ c = 57 := by omega
  rcases this with rfl | rfl | rfl | rfl | rfl | rfl | rfl | rfl | rfl | rfl <;> decide +kernel
theorem dig_all (n : Nat) : ∀ c ∈ TL.numL n, 48 ≤ c ∧ c ≤ 57 := fun c hc => TL.numL_digits n c hc
theorem isdigit_num (n : Nat) : Txt.isdigit (SX.S (TL.numL n)) = true := by
  unfold Txt.isdigit
  rw [Bool.and_eq_true]
  refine ⟨?_, ?_⟩
  · rw [SX.S_len]
    have := TL.numL_ne n
    cases h : TL.numL n with
    | nil => exact absurd h this
    | cons _ _ => simp
  · show (TL.numL n).toArray.all _ = true
    rw [List.all_toArray, List.all_eq_true]
    exact fun c hc => digit_ok (dig_all n c hc)
theorem isascii_num (n : Nat) : Txt.isascii (SX.S (TL.numL n)) = true := by
  unfold Txt.isascii
  show (TL.numL n).toArray.all _ = true
  rw [List.all_toArray, List.all_eq_true]
  exact fun c hc => decide_eq_true (by have := dig_all n c hc; omega)
theorem num_head (n : Nat) (h : 0 < n) : ∃ c r, TL.numL n = c :: r ∧ c ≠ 48 := by
  induction n using Nat.strongRecOn with
  | _ n ih =>
    by_cases h10 : n < 10
    · exact ⟨48 + n, [], TL.numL_lt h10, by omega⟩
    · obtain ⟨c, r, e, hc⟩ := ih (n / 10) (by omega) (by omega)
      exact ⟨c, r ++ [48 + n % 10], by rw [TL.numL_step (by omega), e]; rfl, hc⟩
theorem sub0 (l m : List Nat) : Builtin.Str.subAt (SX.S l) (SX.S m) 0 = (l.take m.length == m) := by
  rw [StrLaws.subAt_eq]
  show ((l.drop 0).take (SX.S m).length == m) = _
  rw [SX.S_len]
  rfl
theorem minus_S : ("-" : Str) = SX.S [45] := by decide +kernel
theorem zero_S : ("0" : Str) = SX.S [48] := by decide +kernel
theorem slash_S : ("/" : Str) = SX.S [47] := by decide +kernel
theorem noprefix (i : Int) : Txt.removeprefix (SX.S (txL i)) "-" = SX.S (TL.numL i.natAbs) := by
  rw [minus_S, StrLaws.removeprefix_eq, sub0, SX.S_len, SX.S_len]
  unfold txL
  by_cases h : i < 0
  · rw [if_pos h]
    simp [SX.S]
  · rw [if_neg h]
    cases e : TL.numL i.natAbs with
    | nil => exact absurd e (TL.numL_ne _)
    | cons c r =>
      have hc := dig_all i.natAbs c (by rw [e]; exact List.mem_cons_self)
      rw [if_neg]
      simp
      omega
theorem starts0 (n : Nat) : Txt.startswith (SX.S (TL.numL n)) "0" = decide (n = 0) := by
  unfold Txt.startswith
  rw [zero_S, sub0, SX.S_len, SX.S_len]
  by_cases h : n = 0
  · subst h
    decide +kernel
  · obtain ⟨c, r, e, hc⟩ := num_head n (by omega)
    rw [e, decide_eq_false h]
    simp [hc]
theorem int_tx (i : Int) (h : (TL.numL i.natAbs).length ≤ 4000) : intText? (SX.S (txL i)) = some i := by
  unfold txL
  by_cases hi : i < 0
  · rw [if_pos hi]
    have := intText_neg (x := SX.S (45 :: TL.numL i.natAbs)) (cs := TL.numL i.natAbs) rfl (TL.numL_digits _) (TL.numL_ne _) (by rw [SX.S_len]; simp; omega)
    rw [this, TL.numL_val]
    congr 1
    omega
  · rw [if_neg hi]
    have := TL.int_num (n := i.natAbs) (by omega)
    rw [SX.num_S] at this
    rw [this]
    congr 1
    omega
theorem len_tx (i : Int) (h : i.natAbs < 10 ^ 600) : (SX.S (txL i)).length ≤ 640 ∧ (TL.numL i.natAbs).length ≤ 600 := by
  have := TL.numL_len (n := i.natAbs) (k := 600) (by decide) h
  refine ⟨?_, this⟩
  rw [SX.S_len]
  unfold txL
  split
  · simp; omega
  · omega
end K1

set_option Elab.async false
set_option linter.all false
set_option maxRecDepth 100000
set_option maxHeartbeats 0

namespace K1
open PySem PySem.Spec PyProof.Rows L2 DL
def topS (i : Nat) : Stmt := PySem.Challenge.pw_loopbounds_k05_whole_rules_of_ratios.main.body.getD i (.Pass ⟨0, 0, 0, 0⟩)
abbrev s_is_int : Stmt := topS 8
abbrev s_is_number : Stmt := topS 11
abbrev s_as_ratio : Stmt := topS 12
abbrev s_quotient : Stmt := topS 13
abbrev s_raised : Stmt := topS 14
abbrev s_integer_told : Stmt := topS 15
abbrev s_ratio_told : Stmt := topS 16
abbrev s__law_cell : Stmt := topS 19
abbrev s__law_purse : Stmt := topS 20
abbrev s__law_take : Stmt := topS 21
abbrev s__law_low : Stmt := topS 22
abbrev s__law_whole : Stmt := topS 23
abbrev s__law_fraction : Stmt := topS 24
abbrev s__law_made : Stmt := topS 25
abbrev s__law_ring_right : Stmt := topS 26
abbrev s__law_rest_right : Stmt := topS 27
abbrev s__law_order_right : Stmt := topS 28
abbrev s__law_right : Stmt := topS 29
abbrev s_law : Stmt := topS 30
abbrev s_R_top : Stmt := inClass (topS 17) 2
abbrev s_R_bottom : Stmt := inClass (topS 17) 3
abbrev s_R_add : Stmt := inClass (topS 17) 4
abbrev s_R_radd : Stmt := inClass (topS 17) 5
abbrev s_R_sub : Stmt := inClass (topS 17) 6
abbrev s_R_rsub : Stmt := inClass (topS 17) 7
abbrev s_R_mul : Stmt := inClass (topS 17) 8
abbrev s_R_rmul : Stmt := inClass (topS 17) 9
abbrev s_R_floordiv : Stmt := inClass (topS 17) 10
abbrev s_R_rfloordiv : Stmt := inClass (topS 17) 11
abbrev s_R_mod : Stmt := inClass (topS 17) 12
abbrev s_R_rmod : Stmt := inClass (topS 17) 13
abbrev s_R_neg : Stmt := inClass (topS 17) 15
abbrev s_R_abs : Stmt := inClass (topS 17) 16
abbrev s_R_eq : Stmt := inClass (topS 17) 17
abbrev s_R_str : Stmt := inClass (topS 17) 25
abbrev s_R_repr : Stmt := inClass (topS 17) 26
abbrev s_R_ne : Stmt := inClass (topS 17) 18
abbrev s_R_pow : Stmt := inClass (topS 17) 14
abbrev s_R_excess : Stmt := inClass (topS 17) 19
abbrev s_R_lt : Stmt := inClass (topS 17) 20
abbrev s_R_le : Stmt := inClass (topS 17) 21
abbrev s_R_gt : Stmt := inClass (topS 17) 22
abbrev s_R_ge : Stmt := inClass (topS 17) 23
abbrev s_R_bool : Stmt := inClass (topS 17) 24
abbrev s_R_read : Stmt := inClass (topS 17) 1
abbrev s_R_init : Stmt := inClass (topS 17) 0

/-! ### numbers -/
def gc (t b : Int) : Int := ((Nat.gcd t.natAbs b.natAbs : Nat) : Int)
def mkR (t b : Int) : Int × Int := (t.fdiv (gc t b), b.fdiv (gc t b))
def rt (p : Int × Int) : D := .ins "Ratio" [("_top", .int p.1), ("_bottom", .int p.2)]
/-- a number's value: an int, or a ratio as it stands -/
def numD : D → Option (Int × Int)
  | .int i => some (i, 1)
  | .ins c [(f, .int t), (g, .int b)] => if c = "Ratio" ∧ f = "_top" ∧ g = "_bottom" then some (t, b) else none
  | _ => none
theorem numD_int (i : Int) : numD (.int i) = some (i, 1) := rfl
theorem numD_ins (t b : Int) : numD (.ins "Ratio" [("_top", .int t), ("_bottom", .int b)]) = some (t, b) := by
  show (if ("Ratio" : Str) = "Ratio" ∧ ("_top" : Str) = "_top" ∧ ("_bottom" : Str) = "_bottom" then some (t, b) else none) = some (t, b)
  exact if_pos ⟨rfl, rfl, rfl⟩
theorem numD_cases {x : D} {p : Int × Int} (h : numD x = some p) : (∃ i, x = .int i ∧ p = (i, 1)) ∨ x = rt p := by
  unfold numD at h
  split at h
  · cases h; exact .inl ⟨_, rfl, rfl⟩
  · split at h
    · rename_i e
      obtain ⟨rfl, rfl, rfl⟩ := e
      cases h
      exact .inr rfl
    · cases h
  · cases h
theorem num_in {x : D} {p : Int × Int} (h : numD x = some p) : (∃ i, x = .int i ∧ p = (i, 1)) ∨ ∃ t b, x = .ins "Ratio" [("_top", .int t), ("_bottom", .int b)] ∧ p = (t, b) := by
  rcases numD_cases h with h | h
  · exact .inl h
  · exact .inr ⟨p.1, p.2, h, rfl⟩
def Sz (n : Nat) (p : Int × Int) : Prop := 0 < p.2 ∧ p.1.natAbs < 2 ^ n ∧ p.2.natAbs < 2 ^ n
def kt : TyK → TyK → Option Bool
  | .ty a, .ty b => kitB a b
  | .cls c, .cls d => if c = "Ratio" ∧ d = "Ratio" then some true else none
  | .ty a, .cls d => if (a = "int" ∨ a = "bool" ∨ a = "str" ∨ a = "NoneType" ∨ a = "tuple" ∨ a = "list" ∨ a = "dict") ∧ d = "Ratio" then some false else none
  | .cls c, .ty b => if c = "Ratio" ∧ (b = "int" ∨ b = "bool" ∨ b = "str") then some false else none
theorem kt_ii : kt (.ty "int") (.ty "int") = some true := by decide +kernel
theorem kt_ib : kt (.ty "int") (.ty "bool") = some false := by decide +kernel
theorem kt_rr : kt (.cls "Ratio") (.cls "Ratio") = some true := by decide +kernel
theorem kt_ir : kt (.ty "int") (.cls "Ratio") = some false := by decide +kernel
theorem kt_ri : kt (.cls "Ratio") (.ty "int") = some false := by decide +kernel
theorem kt_rb : kt (.cls "Ratio") (.ty "bool") = some false := by decide +kernel
theorem kt_ni : kt (.ty "NoneType") (.ty "int") = some false := by decide +kernel
theorem kt_bi : kt (.ty "bool") (.ty "int") = some true := by decide +kernel
theorem kt_bb : kt (.ty "bool") (.ty "bool") = some true := by decide +kernel
theorem kt_si : kt (.ty "str") (.ty "int") = some false := by decide +kernel
theorem kt_ti : kt (.ty "tuple") (.ty "int") = some false := by decide +kernel
theorem kt_li : kt (.ty "list") (.ty "int") = some false := by decide +kernel
theorem kt_di : kt (.ty "dict") (.ty "int") = some false := by decide +kernel
theorem kt_nr : kt (.ty "NoneType") (.cls "Ratio") = some false := by decide +kernel
theorem kt_br : kt (.ty "bool") (.cls "Ratio") = some false := by decide +kernel
theorem kt_sr : kt (.ty "str") (.cls "Ratio") = some false := by decide +kernel
theorem kt_tr : kt (.ty "tuple") (.cls "Ratio") = some false := by decide +kernel
theorem kt_lr : kt (.ty "list") (.cls "Ratio") = some false := by decide +kernel
theorem kt_dr : kt (.ty "dict") (.cls "Ratio") = some false := by decide +kernel
def tysN : List String := ["NoneType", "bool", "str", "tuple", "list", "dict"]
/-- what is no number -/
def NotN (x : D) : Prop := ∃ T, T ∈ tysN ∧ tyOf x = some (.ty T)
theorem notN_cases {x : D} (h : NotN x) : x = .non ∨ (∃ b, x = .bl b) ∨ (∃ z, x = .str z) ∨ (∃ l, x = .tup l) ∨ (∃ l, x = .lst l) ∨ (∃ m, x = .mut m) ∨ ∃ l, x = .dct l := by
  obtain ⟨T, hT, e⟩ := h
  cases x with
  | non => exact .inl rfl
  | bl b => exact .inr (.inl ⟨b, rfl⟩)
  | str z => exact .inr (.inr (.inl ⟨z, rfl⟩))
  | tup l => exact .inr (.inr (.inr (.inl ⟨l, rfl⟩)))
  | lst l => exact .inr (.inr (.inr (.inr (.inl ⟨l, rfl⟩))))
  | «mut» m => exact .inr (.inr (.inr (.inr (.inr (.inl ⟨m, rfl⟩)))))
  | dct l => exact .inr (.inr (.inr (.inr (.inr (.inr ⟨l, rfl⟩)))))
  | int i => cases e; exact absurd hT (by decide)
  | ins c fs => cases e
  | _ => cases e
theorem if_t1 {A B : Prop} : (if true = true then A else B) = A := if_pos rfl
theorem if_f1 {A B : Prop} : (if false = true then A else B) = B := if_neg Bool.false_ne_true

structure Tx (K : PySem.W.Frag) (mg : Str → Option Value) where
  C : Addr
  f_R_init : Addr
  fd_R_init : FuncData
  ds_R_init1 : List Value
  F_R_init : FunD K "__init__" "Ratio.__init__" (defArgs s_R_init) (defBody s_R_init) (defScope s_R_init) [.int 1] [] f_R_init fd_R_init
  b_R_init1 : Binds K fd_R_init ["self", "top", "bottom"] ds_R_init1
  v_R_init1 : Vals [.int 1] ds_R_init1
  b_R_init2 : Binds K fd_R_init ["self", "top", "bottom"] []
  v_R_init2 : Vals [] []
  kb_R_init_sw : KBn K fd_R_init ["self", "top", "bottom"] 1 ["bottom", "top"] sw1U sw1V
  g_Ratio : mg "Ratio" = some (.ref C)
  cl : Cls K C
  na_top : NoAttr K C "_top"
  na_bottom : NoAttr K C "_bottom"
  own : OwnC K C
  mkk : Mk K C f_R_init
  isi : IsiT K ⟨K, mg⟩ kt
  subN : ∀ T ∈ tysN, PySem.W.subIn K (.type T) (.ref C) = some false
  fo_add : Option Value
  fi_add : PySem.W.findIn K (.type "int") (PySem.dunder "add") = some fo_add
  ro_add : Option Value
  ri_add : PySem.W.findIn K (.type "int") (dunderR "add") = some ro_add
  fo_sub : Option Value
  fi_sub : PySem.W.findIn K (.type "int") (PySem.dunder "sub") = some fo_sub
  ro_sub : Option Value
  ri_sub : PySem.W.findIn K (.type "int") (dunderR "sub") = some ro_sub
  fo_mul : Option Value
  fi_mul : PySem.W.findIn K (.type "int") (PySem.dunder "mul") = some fo_mul
  ro_mul : Option Value
  ri_mul : PySem.W.findIn K (.type "int") (dunderR "mul") = some ro_mul
  fo_floordiv : Option Value
  fi_floordiv : PySem.W.findIn K (.type "int") (PySem.dunder "floordiv") = some fo_floordiv
  ro_floordiv : Option Value
  ri_floordiv : PySem.W.findIn K (.type "int") (dunderR "floordiv") = some ro_floordiv
  fo_mod : Option Value
  fi_mod : PySem.W.findIn K (.type "int") (PySem.dunder "mod") = some fo_mod
  ro_mod : Option Value
  ri_mod : PySem.W.findIn K (.type "int") (dunderR "mod") = some ro_mod
  fo_pow : Option Value
  fi_pow : PySem.W.findIn K (.type "int") (PySem.dunder "pow") = some fo_pow
  ro_pow : Option Value
  ri_pow : PySem.W.findIn K (.type "int") (dunderR "pow") = some ro_pow
  tk_most : Tok
  g_MOST_FACTORS : mg "MOST_FACTORS" = some (.int 64 tk_most)
  nr_pow : PySem.W.findIn K (.ref C) (dunderR "pow") = some none
  g_gcd : mg "gcd" = some (.builtin "math.gcd")
  z_isinstance : mg "isinstance" = none
  z_int : mg "int" = none
  z_bool : mg "bool" = none
  z_str : mg "str" = none
  z_repr : mg "repr" = none
  z_abs : mg "abs" = none
  z_len : mg "len" = none
  z_max : mg "max" = none
  z_min : mg "min" = none
  z_divmod : mg "divmod" = none
  z_all : mg "all" = none
  z_range : mg "range" = none
  f_is_int : Addr
  fd_is_int : FuncData
  F_is_int : Fun K "is_int" "is_int" s_is_int f_is_int fd_is_int
  b_is_int : Binds K fd_is_int ["value"] []
  m_is_int : mg "is_int" = some (.ref f_is_int)
  f_is_number : Addr
  fd_is_number : FuncData
  F_is_number : Fun K "is_number" "is_number" s_is_number f_is_number fd_is_number
  b_is_number : Binds K fd_is_number ["value"] []
  m_is_number : mg "is_number" = some (.ref f_is_number)
  f_as_ratio : Addr
  fd_as_ratio : FuncData
  F_as_ratio : Fun K "as_ratio" "as_ratio" s_as_ratio f_as_ratio fd_as_ratio
  b_as_ratio : Binds K fd_as_ratio ["number"] []
  m_as_ratio : mg "as_ratio" = some (.ref f_as_ratio)
  f_quotient : Addr
  fd_quotient : FuncData
  F_quotient : Fun K "quotient" "quotient" s_quotient f_quotient fd_quotient
  b_quotient : Binds K fd_quotient ["one", "two"] []
  m_quotient : mg "quotient" = some (.ref f_quotient)
  f_raised : Addr
  fd_raised : FuncData
  F_raised : Fun K "raised" "raised" s_raised f_raised fd_raised
  b_raised : Binds K fd_raised ["number", "exponent"] []
  m_raised : mg "raised" = some (.ref f_raised)
  f_integer_told : Addr
  fd_integer_told : FuncData
  F_integer_told : Fun K "integer_told" "integer_told" s_integer_told f_integer_told fd_integer_told
  b_integer_told : Binds K fd_integer_told ["text"] []
  m_integer_told : mg "integer_told" = some (.ref f_integer_told)
  f_ratio_told : Addr
  fd_ratio_told : FuncData
  F_ratio_told : Fun K "ratio_told" "ratio_told" s_ratio_told f_ratio_told fd_ratio_told
  b_ratio_told : Binds K fd_ratio_told ["text"] []
  m_ratio_told : mg "ratio_told" = some (.ref f_ratio_told)
  f__law_cell : Addr
  fd__law_cell : FuncData
  F__law_cell : Fun K "_law_cell" "_law_cell" s__law_cell f__law_cell fd__law_cell
  b__law_cell : Binds K fd__law_cell ["script", "k"] []
  m__law_cell : mg "_law_cell" = some (.ref f__law_cell)
  f__law_purse : Addr
  fd__law_purse : FuncData
  F__law_purse : Fun K "_law_purse" "_law_purse" s__law_purse f__law_purse fd__law_purse
  b__law_purse : Binds K fd__law_purse ["cell"] []
  m__law_purse : mg "_law_purse" = some (.ref f__law_purse)
  f__law_take : Addr
  fd__law_take : FuncData
  F__law_take : Fun K "_law_take" "_law_take" s__law_take f__law_take fd__law_take
  b__law_take : Binds K fd__law_take ["purse", "many"] []
  m__law_take : mg "_law_take" = some (.ref f__law_take)
  f__law_low : Addr
  fd__law_low : FuncData
  F__law_low : Fun K "_law_low" "_law_low" s__law_low f__law_low fd__law_low
  b__law_low : Binds K fd__law_low ["over", "under"] []
  m__law_low : mg "_law_low" = some (.ref f__law_low)
  f__law_whole : Addr
  fd__law_whole : FuncData
  F__law_whole : Fun K "_law_whole" "_law_whole" s__law_whole f__law_whole fd__law_whole
  b__law_whole : Binds K fd__law_whole ["purse"] []
  m__law_whole : mg "_law_whole" = some (.ref f__law_whole)
  f__law_fraction : Addr
  fd__law_fraction : FuncData
  F__law_fraction : Fun K "_law_fraction" "_law_fraction" s__law_fraction f__law_fraction fd__law_fraction
  b__law_fraction : Binds K fd__law_fraction ["purse"] []
  m__law_fraction : mg "_law_fraction" = some (.ref f__law_fraction)
  f__law_made : Addr
  fd__law_made : FuncData
  F__law_made : Fun K "_law_made" "_law_made" s__law_made f__law_made fd__law_made
  b__law_made : Binds K fd__law_made ["purse", "pair"] []
  m__law_made : mg "_law_made" = some (.ref f__law_made)
  f__law_ring_right : Addr
  fd__law_ring_right : FuncData
  F__law_ring_right : Fun K "_law_ring_right" "_law_ring_right" s__law_ring_right f__law_ring_right fd__law_ring_right
  b__law_ring_right : Binds K fd__law_ring_right ["a", "b", "c"] []
  m__law_ring_right : mg "_law_ring_right" = some (.ref f__law_ring_right)
  f__law_rest_right : Addr
  fd__law_rest_right : FuncData
  F__law_rest_right : Fun K "_law_rest_right" "_law_rest_right" s__law_rest_right f__law_rest_right fd__law_rest_right
  b__law_rest_right : Binds K fd__law_rest_right ["a", "b"] []
  m__law_rest_right : mg "_law_rest_right" = some (.ref f__law_rest_right)
  f__law_order_right : Addr
  fd__law_order_right : FuncData
  F__law_order_right : Fun K "_law_order_right" "_law_order_right" s__law_order_right f__law_order_right fd__law_order_right
  b__law_order_right : Binds K fd__law_order_right ["a", "b", "c"] []
  m__law_order_right : mg "_law_order_right" = some (.ref f__law_order_right)
  f__law_right : Addr
  fd__law_right : FuncData
  F__law_right : Fun K "_law_right" "_law_right" s__law_right f__law_right fd__law_right
  b__law_right : Binds K fd__law_right ["purse"] []
  m__law_right : mg "_law_right" = some (.ref f__law_right)
  f_law : Addr
  fd_law : FuncData
  F_law : Fun K "law" "law" s_law f_law fd_law
  b_law : Binds K fd_law ["script"] []
  m_law : mg "law" = some (.ref f_law)
  f_R_top : Addr
  fd_R_top : FuncData
  F_R_top : Fun K "top" "Ratio.top" s_R_top f_R_top fd_R_top
  b_R_top : Binds K fd_R_top ["self"] []
  pa_top : Addr
  p_top : PropOf K C "top" pa_top f_R_top
  f_R_bottom : Addr
  fd_R_bottom : FuncData
  F_R_bottom : Fun K "bottom" "Ratio.bottom" s_R_bottom f_R_bottom fd_R_bottom
  b_R_bottom : Binds K fd_R_bottom ["self"] []
  pa_bottom : Addr
  p_bottom : PropOf K C "bottom" pa_bottom f_R_bottom
  f_R_add : Addr
  fd_R_add : FuncData
  F_R_add : Fun K "__add__" "Ratio.__add__" s_R_add f_R_add fd_R_add
  b_R_add : Binds K fd_R_add ["self", "other"] []
  M_R_add : OwnM K C (PySem.dunder "add") f_R_add
  f_R_radd : Addr
  fd_R_radd : FuncData
  F_R_radd : Fun K "__radd__" "Ratio.__radd__" s_R_radd f_R_radd fd_R_radd
  b_R_radd : Binds K fd_R_radd ["self", "other"] []
  M_R_radd : OwnM K C (dunderR "add") f_R_radd
  f_R_sub : Addr
  fd_R_sub : FuncData
  F_R_sub : Fun K "__sub__" "Ratio.__sub__" s_R_sub f_R_sub fd_R_sub
  b_R_sub : Binds K fd_R_sub ["self", "other"] []
  M_R_sub : OwnM K C (PySem.dunder "sub") f_R_sub
  f_R_rsub : Addr
  fd_R_rsub : FuncData
  F_R_rsub : Fun K "__rsub__" "Ratio.__rsub__" s_R_rsub f_R_rsub fd_R_rsub
  b_R_rsub : Binds K fd_R_rsub ["self", "other"] []
  M_R_rsub : OwnM K C (dunderR "sub") f_R_rsub
  f_R_mul : Addr
  fd_R_mul : FuncData
  F_R_mul : Fun K "__mul__" "Ratio.__mul__" s_R_mul f_R_mul fd_R_mul
  b_R_mul : Binds K fd_R_mul ["self", "other"] []
  M_R_mul : OwnM K C (PySem.dunder "mul") f_R_mul
  f_R_rmul : Addr
  fd_R_rmul : FuncData
  F_R_rmul : Fun K "__rmul__" "Ratio.__rmul__" s_R_rmul f_R_rmul fd_R_rmul
  b_R_rmul : Binds K fd_R_rmul ["self", "other"] []
  M_R_rmul : OwnM K C (dunderR "mul") f_R_rmul
  f_R_floordiv : Addr
  fd_R_floordiv : FuncData
  F_R_floordiv : Fun K "__floordiv__" "Ratio.__floordiv__" s_R_floordiv f_R_floordiv fd_R_floordiv
  b_R_floordiv : Binds K fd_R_floordiv ["self", "other"] []
  M_R_floordiv : OwnM K C (PySem.dunder "floordiv") f_R_floordiv
  f_R_rfloordiv : Addr
  fd_R_rfloordiv : FuncData
  F_R_rfloordiv : Fun K "__rfloordiv__" "Ratio.__rfloordiv__" s_R_rfloordiv f_R_rfloordiv fd_R_rfloordiv
  b_R_rfloordiv : Binds K fd_R_rfloordiv ["self", "other"] []
  M_R_rfloordiv : OwnM K C (dunderR "floordiv") f_R_rfloordiv
  f_R_mod : Addr
  fd_R_mod : FuncData
  F_R_mod : Fun K "__mod__" "Ratio.__mod__" s_R_mod f_R_mod fd_R_mod
  b_R_mod : Binds K fd_R_mod ["self", "other"] []
  M_R_mod : OwnM K C (PySem.dunder "mod") f_R_mod
  f_R_rmod : Addr
  fd_R_rmod : FuncData
  F_R_rmod : Fun K "__rmod__" "Ratio.__rmod__" s_R_rmod f_R_rmod fd_R_rmod
  b_R_rmod : Binds K fd_R_rmod ["self", "other"] []
  M_R_rmod : OwnM K C (dunderR "mod") f_R_rmod
  f_R_neg : Addr
  fd_R_neg : FuncData
  F_R_neg : Fun K "__neg__" "Ratio.__neg__" s_R_neg f_R_neg fd_R_neg
  b_R_neg : Binds K fd_R_neg ["self"] []
  M_R_neg : OwnM K C "__neg__" f_R_neg
  f_R_abs : Addr
  fd_R_abs : FuncData
  F_R_abs : Fun K "__abs__" "Ratio.__abs__" s_R_abs f_R_abs fd_R_abs
  b_R_abs : Binds K fd_R_abs ["self"] []
  M_R_abs : OwnM K C "__abs__" f_R_abs
  f_R_eq : Addr
  fd_R_eq : FuncData
  F_R_eq : Fun K "__eq__" "Ratio.__eq__" s_R_eq f_R_eq fd_R_eq
  b_R_eq : Binds K fd_R_eq ["self", "other"] []
  M_R_eq : OwnM K C "__eq__" f_R_eq
  f_R_str : Addr
  fd_R_str : FuncData
  F_R_str : Fun K "__str__" "Ratio.__str__" s_R_str f_R_str fd_R_str
  b_R_str : Binds K fd_R_str ["self"] []
  M_R_str : OwnM K C "__str__" f_R_str
  f_R_repr : Addr
  fd_R_repr : FuncData
  F_R_repr : Fun K "__repr__" "Ratio.__repr__" s_R_repr f_R_repr fd_R_repr
  b_R_repr : Binds K fd_R_repr ["self"] []
  M_R_repr : OwnM K C "__repr__" f_R_repr
  f_R_ne : Addr
  fd_R_ne : FuncData
  F_R_ne : Fun K "__ne__" "Ratio.__ne__" s_R_ne f_R_ne fd_R_ne
  b_R_ne : Binds K fd_R_ne ["self", "other"] []
  M_R_ne : OwnM K C "__ne__" f_R_ne
  f_R_pow : Addr
  fd_R_pow : FuncData
  F_R_pow : Fun K "__pow__" "Ratio.__pow__" s_R_pow f_R_pow fd_R_pow
  b_R_pow : Binds K fd_R_pow ["self", "other"] []
  M_R_pow : OwnM K C (PySem.dunder "pow") f_R_pow
  f_R_excess : Addr
  fd_R_excess : FuncData
  F_R_excess : Fun K "_excess" "Ratio._excess" s_R_excess f_R_excess fd_R_excess
  b_R_excess : Binds K fd_R_excess ["self", "number"] []
  M_R_excess : Meth K C "_excess" f_R_excess
  f_R_lt : Addr
  fd_R_lt : FuncData
  F_R_lt : Fun K "__lt__" "Ratio.__lt__" s_R_lt f_R_lt fd_R_lt
  b_R_lt : Binds K fd_R_lt ["self", "other"] []
  M_R_lt : OwnM K C "__lt__" f_R_lt
  f_R_le : Addr
  fd_R_le : FuncData
  F_R_le : Fun K "__le__" "Ratio.__le__" s_R_le f_R_le fd_R_le
  b_R_le : Binds K fd_R_le ["self", "other"] []
  M_R_le : OwnM K C "__le__" f_R_le
  f_R_gt : Addr
  fd_R_gt : FuncData
  F_R_gt : Fun K "__gt__" "Ratio.__gt__" s_R_gt f_R_gt fd_R_gt
  b_R_gt : Binds K fd_R_gt ["self", "other"] []
  M_R_gt : OwnM K C "__gt__" f_R_gt
  f_R_ge : Addr
  fd_R_ge : FuncData
  F_R_ge : Fun K "__ge__" "Ratio.__ge__" s_R_ge f_R_ge fd_R_ge
  b_R_ge : Binds K fd_R_ge ["self", "other"] []
  M_R_ge : OwnM K C "__ge__" f_R_ge
  f_R_bool : Addr
  fd_R_bool : FuncData
  F_R_bool : Fun K "__bool__" "Ratio.__bool__" s_R_bool f_R_bool fd_R_bool
  b_R_bool : Binds K fd_R_bool ["self"] []
  M_R_bool : OwnM K C "__bool__" f_R_bool
  f_R_read : Addr
  fd_R_read : FuncData
  F_R_read : Fun K "read" "Ratio.read" s_R_read f_R_read fd_R_read
  b_R_read : Binds K fd_R_read ["cls", "text"] []
  mc_C : Value
  cr_C : ClX.CRead K C mc_C
  pa_read : Addr
  cm_read : ClX.CMet K C mc_C "read" pa_read f_R_read
  kb_quotient_sw : KBinds K fd_quotient ["one", "two"] ["two", "one"] swU swV
section
variable {P : Program} {w : World} {K : PySem.W.Frag} {mg : Str → Option Value} {base : Heap}
end
end K1
set_option Elab.async false
set_option linter.all false
set_option maxRecDepth 100000
namespace K1
open PySem PySem.Spec PyProof.Rows L2 DL
section
variable {P : Program} {w : World} {K : PySem.W.Frag} {mg : Str → Option Value} {base : Heap}
theorem gc_pos {t b : Int} (h : 0 < b) : 0 < gc t b := by
  unfold gc
  have : 0 < Nat.gcd t.natAbs b.natAbs := Nat.gcd_pos_of_pos_right _ (by omega)
  omega
theorem gc_le {t b : Int} (h : 0 < b) : (gc t b).natAbs ≤ b.natAbs := by
  unfold gc
  rw [Int.natAbs_natCast]
  exact Nat.gcd_le_right _ (by omega)
theorem lt_log2 {n k : Nat} (h0 : 0 < k) (h : n < 2 ^ k) : n.log2 < k := PySem.Flt.log2_lt_of h0 h
/-- a promise of one number, of two -/
def w1 (f : Int × Int → MS → (D → MS → Prop) → Prop) : WF := fun ds S Q => match ds with
  | [x] => (match numD x with
    | some p => f p S Q
    | none => False)
  | _ => False
def w2 (f : Int × Int → Int × Int → MS → (D → MS → Prop) → Prop) : WF := fun ds S Q => match ds with
  | [x, y] => (match numD x with
    | some p => (match numD y with
      | some q => f p q S Q
      | none => False)
    | none => False)
  | _ => False
theorem one_num {f} {ds : List D} {S : MS} {Q : D → MS → Prop} (h : w1 f ds S Q) : ∃ x p, ds = [x] ∧ numD x = some p ∧ f p S Q := by
  unfold w1 at h
  split at h
  · split at h
    · exact ⟨_, _, rfl, by assumption, h⟩
    · exact h.elim
  · exact h.elim
theorem two_num {f} {ds : List D} {S : MS} {Q : D → MS → Prop} (h : w2 f ds S Q) : ∃ x p y q, ds = [x, y] ∧ numD x = some p ∧ numD y = some q ∧ f p q S Q := by
  unfold w2 at h
  split at h
  · split at h
    · split at h
      · exact ⟨_, _, _, _, rfl, by assumption, by assumption, h⟩
      · exact h.elim
    · exact h.elim
  · exact h.elim
/-- the first one a ratio -/
def w1r (f : Int × Int → MS → (D → MS → Prop) → Prop) : WF := fun ds S Q => match ds with
  | [.ins c fs] => (match numD (.ins c fs) with
    | some p => f p S Q
    | none => False)
  | _ => False
def w2r (f : Int × Int → Int × Int → MS → (D → MS → Prop) → Prop) : WF := fun ds S Q => match ds with
  | [.ins c fs, y] => (match numD (.ins c fs) with
    | some p => (match numD y with
      | some q => f p q S Q
      | none => False)
    | none => False)
  | _ => False
theorem one_rat {f} {ds : List D} {S : MS} {Q : D → MS → Prop} (h : w1r f ds S Q) : ∃ t b, ds = [.ins "Ratio" [("_top", .int t), ("_bottom", .int b)]] ∧ f (t, b) S Q := by
  unfold w1r at h
  split at h
  · split at h
    · rename_i e
      rcases num_in e with ⟨i, e1, _⟩ | ⟨t, b, e1, rfl⟩
      · cases e1
      · exact ⟨t, b, by rw [e1], h⟩
    · exact h.elim
  · exact h.elim
theorem two_rat {f} {ds : List D} {S : MS} {Q : D → MS → Prop} (h : w2r f ds S Q) : ∃ t b y q, ds = [.ins "Ratio" [("_top", .int t), ("_bottom", .int b)], y] ∧ numD y = some q ∧ f (t, b) q S Q := by
  unfold w2r at h
  split at h
  · split at h
    · split at h
      · rename_i e _ _ _
        rcases num_in e with ⟨i, e1, _⟩ | ⟨t, b, e1, rfl⟩
        · cases e1
        · exact ⟨t, b, _, _, by rw [e1], by assumption, h⟩
      · exact h.elim
    · exact h.elim
  · exact h.elim
/-! ### sizes -/
theorem nmul {a b : Int} {m n : Nat} (ha : a.natAbs < 2 ^ m) (hb : b.natAbs < 2 ^ n) : (a * b).natAbs < 2 ^ (m + n) := wide_lt ha hb
theorem nmono {a : Int} {m n : Nat} (ha : a.natAbs < 2 ^ m) (h : m ≤ n) : a.natAbs < 2 ^ n := Nat.lt_of_lt_of_le ha (Nat.pow_le_pow_right (by decide) h)
theorem nadd {a b : Int} {m : Nat} (ha : a.natAbs < 2 ^ m) (hb : b.natAbs < 2 ^ m) : (a + b).natAbs < 2 ^ (m + 1) := by
  rw [Nat.pow_succ]
  omega
theorem nneg {a : Int} {m : Nat} (ha : a.natAbs < 2 ^ m) : (-a).natAbs < 2 ^ m := by rw [Int.natAbs_neg]; exact ha
theorem cmul {a b : Int} {m n : Nat} (ha : a.natAbs < 2 ^ (m + 1)) (hb : b.natAbs < 2 ^ (n + 1)) (h : m + n + 2 ≤ 1000000) : CMulW a b := wide_mul ha hb (by omega) (by omega) (by omega)
theorem Sz.mono {m n : Nat} {p : Int × Int} (h : Sz m p) (l : m ≤ n) : Sz n p := ⟨h.1, nmono h.2.1 l, nmono h.2.2 l⟩
theorem fdiv_gc {t b : Int} (hb : 0 < b) : t.fdiv (gc t b) = t / gc t b := Int.fdiv_eq_ediv_of_nonneg _ (by have := gc_pos (t := t) hb; omega)
theorem fdiv_gc2 {t b : Int} (hb : 0 < b) : b.fdiv (gc t b) = b / gc t b := Int.fdiv_eq_ediv_of_nonneg _ (by have := gc_pos (t := t) hb; omega)
theorem natAbs_div_le (a b : Int) : (a / b).natAbs ≤ a.natAbs := Int.natAbs_ediv_le_natAbs a b
theorem gc_dvd_r (t b : Int) : gc t b ∣ b := by
  unfold gc
  exact Int.ofNat_dvd_left.mpr (Nat.gcd_dvd_right _ _)
theorem gc_dvd_l (t b : Int) : gc t b ∣ t := by
  unfold gc
  exact Int.ofNat_dvd_left.mpr (Nat.gcd_dvd_left _ _)
theorem mkR_sz {t b : Int} {n : Nat} (hb : 0 < b) (ht : t.natAbs < 2 ^ n) (hb2 : b.natAbs < 2 ^ n) : Sz n (mkR t b) := by
  unfold mkR
  refine ⟨?_, ?_, ?_⟩
  · show 0 < b.fdiv (gc t b)
    rw [fdiv_gc2 hb]
    exact Int.ediv_pos_of_pos_of_dvd hb (by have := gc_pos (t := t) hb; omega) (gc_dvd_r t b)
  · show (t.fdiv (gc t b)).natAbs < _
    rw [fdiv_gc hb]
    exact Nat.lt_of_le_of_lt (natAbs_div_le _ _) ht
  · show (b.fdiv (gc t b)).natAbs < _
    rw [fdiv_gc2 hb]
    exact Nat.lt_of_le_of_lt (natAbs_div_le _ _) hb2
theorem mkR_one (t : Int) : mkR t 1 = (t, 1) := by
  unfold mkR
  have e : gc t 1 = 1 := by unfold gc; simp
  rw [e]
  simp
def addR (p q : Int × Int) : Int × Int := mkR (p.1 * q.2 + q.1 * p.2) (p.2 * q.2)
def negR (p : Int × Int) : Int × Int := mkR (-p.1) p.2
def subR (p q : Int × Int) : Int × Int := addR p (negR q)
def mulR (p q : Int × Int) : Int × Int := mkR (p.1 * q.1) (p.2 * q.2)
def absR (p : Int × Int) : Int × Int := mkR (if p.1 < 0 then -p.1 else p.1) p.2
def fdR (p q : Int × Int) : Int := (p.1 * q.2).fdiv (p.2 * q.1)
def modR (p q : Int × Int) : Int × Int := subR p (mulR q (fdR p q, 1))
theorem rt_eq (t b : Int) : D.ins "Ratio" [("_top", .int (mkR t b).1), ("_bottom", .int (mkR t b).2)] = rt (mkR t b) := rfl
theorem lk_top (t b : Int) : List.lookup ("_top" : Str) [(("_top" : Str), D.int t), ("_bottom", .int b)] = some (.int t) := by simp [List.lookup]
theorem nb : (("_bottom" : Str) == ("_top" : Str)) = false := by decide +kernel
theorem lk_bot (t b : Int) : List.lookup ("_bottom" : Str) [(("_top" : Str), D.int t), ("_bottom", .int b)] = some (.int b) := by
  rw [List.lookup_cons, nb]
  simp [List.lookup]

def w_is_int : WF := fun ds S Q => match ds with
  | [.int _] => Q (.bl true) S
  | [.ins c _] => c = "Ratio" ∧ Q (.bl false) S
  | [x] => NotN x ∧ Q (.bl false) S
  | _ => False
theorem sc_is_int : FnScope ["value"] ["value"] (defScope s_is_int) := ⟨rfl, rfl, rfl, by decide +kernel, rfl, by decide +kernel, by decide +kernel⟩
theorem ok_is_int (T : Tx K mg) : FnOk P w K mg base CX0 1 T.f_is_int T.fd_is_int ["value"] (spW ⟨K, mg⟩ 1 w_is_int) := by
  refine fnD (k := 0) T.F_is_int sc_is_int (fun cdv A outer s H E hr => ⟨_, (dss_one (ds_ret (d_and (d_callB call_isi (snd_isi T.isi) T.z_isinstance (da_cons (dv 0) (da_cons (d_ty (n := "int") T.z_int (hv := bt_int)) da_nil)) (hv := bt_isinstance)) (d_one (d_not (d_callB call_isi (snd_isi T.isi) T.z_isinstance (da_cons (dv 0) (da_cons (d_ty (n := "bool") T.z_bool (hv := bt_bool)) da_nil)) (hv := bt_isinstance)))))))⟩) (fun ds S Q hl h => ?_)
  match ds, h with
  | [.int i], h =>
    simp only [true_and, and_true, oU2, oUn1, oL1, oS1, oR1, oJust, iAdd, iSub, iMul, iFdiv, iMod, iEq, iNe, iLt, iLe, iGt, iGe, iNeg, iAbs, DL.iStr, wFmt, wJs, wJoined, sNext, sSeq, sDrop, sRet, sRetN, sIf, sAsg, sPar, wOp, wVar, wC, wUn, wCons, wNil, wCB, wCall, wMake, wMakeSw, wCallSw, wProp, wFld, oI, oI0, oU, wTest, wAnd, wOr, wNot, wAndV, wOrV, wNotV, wIf, wTup, wLst, wLstM, gwName, gwNil, gwCons, gwTup, gwSub, oIx, oInt1, oAbsI, oLen, oGcd, oDivmod, oMax2, oMin2, oIsi, tyOf, clOf, kt_ii, kt_ib, kt_rr, kt_ir, kt_ri, kt_rb, kt_ni, kt_bi, kt_bb, kt_si, kt_ti, kt_li, kt_di, kt_nr, kt_br, kt_sr, kt_tr, kt_lr, kt_dr, oStrI, if_t1, if_f1, Bool.not_true, Bool.not_false, rt, startD, List.map_cons, List.map_nil, List.length_cons, List.length_nil, List.cons_append, List.nil_append, List.getElem?_cons_zero, List.getElem?_cons_succ, List.set_cons_zero, List.set_cons_succ, List.replicate, Nat.reduceAdd, Nat.reduceSub, Nat.zero_add, Nat.sub_self, Nat.add_sub_cancel]
    exact h
  | [.ins c fs], h =>
    obtain ⟨rfl, h⟩ := h
    simp only [true_and, and_true, oU2, oUn1, oL1, oS1, oR1, oJust, iAdd, iSub, iMul, iFdiv, iMod, iEq, iNe, iLt, iLe, iGt, iGe, iNeg, iAbs, DL.iStr, wFmt, wJs, wJoined, sNext, sSeq, sDrop, sRet, sRetN, sIf, sAsg, sPar, wOp, wVar, wC, wUn, wCons, wNil, wCB, wCall, wMake, wMakeSw, wCallSw, wProp, wFld, oI, oI0, oU, wTest, wAnd, wOr, wNot, wAndV, wOrV, wNotV, wIf, wTup, wLst, wLstM, gwName, gwNil, gwCons, gwTup, gwSub, oIx, oInt1, oAbsI, oLen, oGcd, oDivmod, oMax2, oMin2, oIsi, tyOf, clOf, kt_ii, kt_ib, kt_rr, kt_ir, kt_ri, kt_rb, kt_ni, kt_bi, kt_bb, kt_si, kt_ti, kt_li, kt_di, kt_nr, kt_br, kt_sr, kt_tr, kt_lr, kt_dr, oStrI, if_t1, if_f1, Bool.not_true, Bool.not_false, rt, startD, List.map_cons, List.map_nil, List.length_cons, List.length_nil, List.cons_append, List.nil_append, List.getElem?_cons_zero, List.getElem?_cons_succ, List.set_cons_zero, List.set_cons_succ, List.replicate, Nat.reduceAdd, Nat.reduceSub, Nat.zero_add, Nat.sub_self, Nat.add_sub_cancel]
    exact h
  | [.non], h => simp only [true_and, and_true, oU2, oUn1, oL1, oS1, oR1, oJust, iAdd, iSub, iMul, iFdiv, iMod, iEq, iNe, iLt, iLe, iGt, iGe, iNeg, iAbs, DL.iStr, wFmt, wJs, wJoined, sNext, sSeq, sDrop, sRet, sRetN, sIf, sAsg, sPar, wOp, wVar, wC, wUn, wCons, wNil, wCB, wCall, wMake, wMakeSw, wCallSw, wProp, wFld, oI, oI0, oU, wTest, wAnd, wOr, wNot, wAndV, wOrV, wNotV, wIf, wTup, wLst, wLstM, gwName, gwNil, gwCons, gwTup, gwSub, oIx, oInt1, oAbsI, oLen, oGcd, oDivmod, oMax2, oMin2, oIsi, tyOf, clOf, kt_ii, kt_ib, kt_rr, kt_ir, kt_ri, kt_rb, kt_ni, kt_bi, kt_bb, kt_si, kt_ti, kt_li, kt_di, kt_nr, kt_br, kt_sr, kt_tr, kt_lr, kt_dr, oStrI, if_t1, if_f1, Bool.not_true, Bool.not_false, rt, startD, List.map_cons, List.map_nil, List.length_cons, List.length_nil, List.cons_append, List.nil_append, List.getElem?_cons_zero, List.getElem?_cons_succ, List.set_cons_zero, List.set_cons_succ, List.replicate, Nat.reduceAdd, Nat.reduceSub, Nat.zero_add, Nat.sub_self, Nat.add_sub_cancel]; exact h.2
  | [.bl b], h => simp only [true_and, and_true, oU2, oUn1, oL1, oS1, oR1, oJust, iAdd, iSub, iMul, iFdiv, iMod, iEq, iNe, iLt, iLe, iGt, iGe, iNeg, iAbs, DL.iStr, wFmt, wJs, wJoined, sNext, sSeq, sDrop, sRet, sRetN, sIf, sAsg, sPar, wOp, wVar, wC, wUn, wCons, wNil, wCB, wCall, wMake, wMakeSw, wCallSw, wProp, wFld, oI, oI0, oU, wTest, wAnd, wOr, wNot, wAndV, wOrV, wNotV, wIf, wTup, wLst, wLstM, gwName, gwNil, gwCons, gwTup, gwSub, oIx, oInt1, oAbsI, oLen, oGcd, oDivmod, oMax2, oMin2, oIsi, tyOf, clOf, kt_ii, kt_ib, kt_rr, kt_ir, kt_ri, kt_rb, kt_ni, kt_bi, kt_bb, kt_si, kt_ti, kt_li, kt_di, kt_nr, kt_br, kt_sr, kt_tr, kt_lr, kt_dr, oStrI, if_t1, if_f1, Bool.not_true, Bool.not_false, rt, startD, List.map_cons, List.map_nil, List.length_cons, List.length_nil, List.cons_append, List.nil_append, List.getElem?_cons_zero, List.getElem?_cons_succ, List.set_cons_zero, List.set_cons_succ, List.replicate, Nat.reduceAdd, Nat.reduceSub, Nat.zero_add, Nat.sub_self, Nat.add_sub_cancel]; exact h.2
  | [.str z], h => simp only [true_and, and_true, oU2, oUn1, oL1, oS1, oR1, oJust, iAdd, iSub, iMul, iFdiv, iMod, iEq, iNe, iLt, iLe, iGt, iGe, iNeg, iAbs, DL.iStr, wFmt, wJs, wJoined, sNext, sSeq, sDrop, sRet, sRetN, sIf, sAsg, sPar, wOp, wVar, wC, wUn, wCons, wNil, wCB, wCall, wMake, wMakeSw, wCallSw, wProp, wFld, oI, oI0, oU, wTest, wAnd, wOr, wNot, wAndV, wOrV, wNotV, wIf, wTup, wLst, wLstM, gwName, gwNil, gwCons, gwTup, gwSub, oIx, oInt1, oAbsI, oLen, oGcd, oDivmod, oMax2, oMin2, oIsi, tyOf, clOf, kt_ii, kt_ib, kt_rr, kt_ir, kt_ri, kt_rb, kt_ni, kt_bi, kt_bb, kt_si, kt_ti, kt_li, kt_di, kt_nr, kt_br, kt_sr, kt_tr, kt_lr, kt_dr, oStrI, if_t1, if_f1, Bool.not_true, Bool.not_false, rt, startD, List.map_cons, List.map_nil, List.length_cons, List.length_nil, List.cons_append, List.nil_append, List.getElem?_cons_zero, List.getElem?_cons_succ, List.set_cons_zero, List.set_cons_succ, List.replicate, Nat.reduceAdd, Nat.reduceSub, Nat.zero_add, Nat.sub_self, Nat.add_sub_cancel]; exact h.2
  | [.tup l], h => simp only [true_and, and_true, oU2, oUn1, oL1, oS1, oR1, oJust, iAdd, iSub, iMul, iFdiv, iMod, iEq, iNe, iLt, iLe, iGt, iGe, iNeg, iAbs, DL.iStr, wFmt, wJs, wJoined, sNext, sSeq, sDrop, sRet, sRetN, sIf, sAsg, sPar, wOp, wVar, wC, wUn, wCons, wNil, wCB, wCall, wMake, wMakeSw, wCallSw, wProp, wFld, oI, oI0, oU, wTest, wAnd, wOr, wNot, wAndV, wOrV, wNotV, wIf, wTup, wLst, wLstM, gwName, gwNil, gwCons, gwTup, gwSub, oIx, oInt1, oAbsI, oLen, oGcd, oDivmod, oMax2, oMin2, oIsi, tyOf, clOf, kt_ii, kt_ib, kt_rr, kt_ir, kt_ri, kt_rb, kt_ni, kt_bi, kt_bb, kt_si, kt_ti, kt_li, kt_di, kt_nr, kt_br, kt_sr, kt_tr, kt_lr, kt_dr, oStrI, if_t1, if_f1, Bool.not_true, Bool.not_false, rt, startD, List.map_cons, List.map_nil, List.length_cons, List.length_nil, List.cons_append, List.nil_append, List.getElem?_cons_zero, List.getElem?_cons_succ, List.set_cons_zero, List.set_cons_succ, List.replicate, Nat.reduceAdd, Nat.reduceSub, Nat.zero_add, Nat.sub_self, Nat.add_sub_cancel]; exact h.2
  | [.lst l], h => simp only [true_and, and_true, oU2, oUn1, oL1, oS1, oR1, oJust, iAdd, iSub, iMul, iFdiv, iMod, iEq, iNe, iLt, iLe, iGt, iGe, iNeg, iAbs, DL.iStr, wFmt, wJs, wJoined, sNext, sSeq, sDrop, sRet, sRetN, sIf, sAsg, sPar, wOp, wVar, wC, wUn, wCons, wNil, wCB, wCall, wMake, wMakeSw, wCallSw, wProp, wFld, oI, oI0, oU, wTest, wAnd, wOr, wNot, wAndV, wOrV, wNotV, wIf, wTup, wLst, wLstM, gwName, gwNil, gwCons, gwTup, gwSub, oIx, oInt1, oAbsI, oLen, oGcd, oDivmod, oMax2, oMin2, oIsi, tyOf, clOf, kt_ii, kt_ib, kt_rr, kt_ir, kt_ri, kt_rb, kt_ni, kt_bi, kt_bb, kt_si, kt_ti, kt_li, kt_di, kt_nr, kt_br, kt_sr, kt_tr, kt_lr, kt_dr, oStrI, if_t1, if_f1, Bool.not_true, Bool.not_false, rt, startD, List.map_cons, List.map_nil, List.length_cons, List.length_nil, List.cons_append, List.nil_append, List.getElem?_cons_zero, List.getElem?_cons_succ, List.set_cons_zero, List.set_cons_succ, List.replicate, Nat.reduceAdd, Nat.reduceSub, Nat.zero_add, Nat.sub_self, Nat.add_sub_cancel]; exact h.2
  | [.mut m], h => simp only [true_and, and_true, oU2, oUn1, oL1, oS1, oR1, oJust, iAdd, iSub, iMul, iFdiv, iMod, iEq, iNe, iLt, iLe, iGt, iGe, iNeg, iAbs, DL.iStr, wFmt, wJs, wJoined, sNext, sSeq, sDrop, sRet, sRetN, sIf, sAsg, sPar, wOp, wVar, wC, wUn, wCons, wNil, wCB, wCall, wMake, wMakeSw, wCallSw, wProp, wFld, oI, oI0, oU, wTest, wAnd, wOr, wNot, wAndV, wOrV, wNotV, wIf, wTup, wLst, wLstM, gwName, gwNil, gwCons, gwTup, gwSub, oIx, oInt1, oAbsI, oLen, oGcd, oDivmod, oMax2, oMin2, oIsi, tyOf, clOf, kt_ii, kt_ib, kt_rr, kt_ir, kt_ri, kt_rb, kt_ni, kt_bi, kt_bb, kt_si, kt_ti, kt_li, kt_di, kt_nr, kt_br, kt_sr, kt_tr, kt_lr, kt_dr, oStrI, if_t1, if_f1, Bool.not_true, Bool.not_false, rt, startD, List.map_cons, List.map_nil, List.length_cons, List.length_nil, List.cons_append, List.nil_append, List.getElem?_cons_zero, List.getElem?_cons_succ, List.set_cons_zero, List.set_cons_succ, List.replicate, Nat.reduceAdd, Nat.reduceSub, Nat.zero_add, Nat.sub_self, Nat.add_sub_cancel]; exact h.2
  | [.dct l], h => simp only [true_and, and_true, oU2, oUn1, oL1, oS1, oR1, oJust, iAdd, iSub, iMul, iFdiv, iMod, iEq, iNe, iLt, iLe, iGt, iGe, iNeg, iAbs, DL.iStr, wFmt, wJs, wJoined, sNext, sSeq, sDrop, sRet, sRetN, sIf, sAsg, sPar, wOp, wVar, wC, wUn, wCons, wNil, wCB, wCall, wMake, wMakeSw, wCallSw, wProp, wFld, oI, oI0, oU, wTest, wAnd, wOr, wNot, wAndV, wOrV, wNotV, wIf, wTup, wLst, wLstM, gwName, gwNil, gwCons, gwTup, gwSub, oIx, oInt1, oAbsI, oLen, oGcd, oDivmod, oMax2, oMin2, oIsi, tyOf, clOf, kt_ii, kt_ib, kt_rr, kt_ir, kt_ri, kt_rb, kt_ni, kt_bi, kt_bb, kt_si, kt_ti, kt_li, kt_di, kt_nr, kt_br, kt_sr, kt_tr, kt_lr, kt_dr, oStrI, if_t1, if_f1, Bool.not_true, Bool.not_false, rt, startD, List.map_cons, List.map_nil, List.length_cons, List.length_nil, List.cons_append, List.nil_append, List.getElem?_cons_zero, List.getElem?_cons_succ, List.set_cons_zero, List.set_cons_succ, List.replicate, Nat.reduceAdd, Nat.reduceSub, Nat.zero_add, Nat.sub_self, Nat.add_sub_cancel]; exact h.2
  | [.ty n], h => obtain ⟨⟨_, _, z⟩, _⟩ := h; cases z
  | [.cls c], h => obtain ⟨⟨_, _, z⟩, _⟩ := h; cases z
  | [.scr c], h => obtain ⟨⟨_, _, z⟩, _⟩ := h; cases z
  | [.obj c], h => obtain ⟨⟨_, _, z⟩, _⟩ := h; cases z
  | [.exc _ _ _], h => obtain ⟨⟨_, _, z⟩, _⟩ := h; cases z
def w_is_number : WF := w1 fun p S Q => Q (.bl true) S
theorem sc_is_number : FnScope ["value"] ["value"] (defScope s_is_number) := ⟨rfl, rfl, rfl, by decide +kernel, rfl, by decide +kernel, by decide +kernel⟩
theorem ok_is_number (T : Tx K mg) : FnOk P w K mg base CX0 2 T.f_is_number T.fd_is_number ["value"] (spW ⟨K, mg⟩ 1 w_is_number) := by
  refine fnD (k := 1) T.F_is_number sc_is_number (fun cdv A outer s H E hr => ⟨_, (dss_one (ds_ret (d_or (d_callB call_isi (snd_isi T.isi) T.z_isinstance (da_cons (dv 0) (da_cons (d_cls T.g_Ratio) da_nil)) (hv := bt_isinstance)) (d_one (d_call (ok_is_int T) (hr.mono (by decide)) T.m_is_int T.F_is_int.kp T.b_is_int (da_cons (dv 0) da_nil))))))⟩) (fun ds S Q hl h => ?_)
  obtain ⟨x, p, rfl, hp, h⟩ := one_num h
  rcases num_in hp with ⟨i, rfl, rfl⟩ | ⟨t, b, rfl, rfl⟩
  · simp only [true_and, and_true, oU2, oUn1, oL1, oS1, oR1, oJust, iAdd, iSub, iMul, iFdiv, iMod, iEq, iNe, iLt, iLe, iGt, iGe, iNeg, iAbs, DL.iStr, wFmt, wJs, wJoined, sNext, sSeq, sDrop, sRet, sRetN, sIf, sAsg, sPar, wOp, wVar, wC, wUn, wCons, wNil, wCB, wCall, wMake, wMakeSw, wCallSw, wProp, wFld, oI, oI0, oU, wTest, wAnd, wOr, wNot, wAndV, wOrV, wNotV, wIf, wTup, wLst, wLstM, gwName, gwNil, gwCons, gwTup, gwSub, oIx, oInt1, oAbsI, oLen, oGcd, oDivmod, oMax2, oMin2, oIsi, tyOf, clOf, kt_ii, kt_ib, kt_rr, kt_ir, kt_ri, kt_rb, kt_ni, kt_bi, kt_bb, kt_si, kt_ti, kt_li, kt_di, kt_nr, kt_br, kt_sr, kt_tr, kt_lr, kt_dr, oStrI, if_t1, if_f1, Bool.not_true, Bool.not_false, rt, startD, List.map_cons, List.map_nil, List.length_cons, List.length_nil, List.cons_append, List.nil_append, List.getElem?_cons_zero, List.getElem?_cons_succ, List.set_cons_zero, List.set_cons_succ, List.replicate, Nat.reduceAdd, Nat.reduceSub, Nat.zero_add, Nat.sub_self, Nat.add_sub_cancel]
    exact h
  · simp only [true_and, and_true, oU2, oUn1, oL1, oS1, oR1, oJust, iAdd, iSub, iMul, iFdiv, iMod, iEq, iNe, iLt, iLe, iGt, iGe, iNeg, iAbs, DL.iStr, wFmt, wJs, wJoined, sNext, sSeq, sDrop, sRet, sRetN, sIf, sAsg, sPar, wOp, wVar, wC, wUn, wCons, wNil, wCB, wCall, wMake, wMakeSw, wCallSw, wProp, wFld, oI, oI0, oU, wTest, wAnd, wOr, wNot, wAndV, wOrV, wNotV, wIf, wTup, wLst, wLstM, gwName, gwNil, gwCons, gwTup, gwSub, oIx, oInt1, oAbsI, oLen, oGcd, oDivmod, oMax2, oMin2, oIsi, tyOf, clOf, kt_ii, kt_ib, kt_rr, kt_ir, kt_ri, kt_rb, kt_ni, kt_bi, kt_bb, kt_si, kt_ti, kt_li, kt_di, kt_nr, kt_br, kt_sr, kt_tr, kt_lr, kt_dr, oStrI, if_t1, if_f1, Bool.not_true, Bool.not_false, rt, startD, List.map_cons, List.map_nil, List.length_cons, List.length_nil, List.cons_append, List.nil_append, List.getElem?_cons_zero, List.getElem?_cons_succ, List.set_cons_zero, List.set_cons_succ, List.replicate, Nat.reduceAdd, Nat.reduceSub, Nat.zero_add, Nat.sub_self, Nat.add_sub_cancel]
    exact h
/-- is_int of an int, and nothing is changed -/
def spIsInt : Sp := fun vs H Q _ => ∃ i, vs = [.int i] ∧ Q (.bl true) H
theorem raw_is_int (T : Tx K mg) : FnOk P w K mg base CX0 1 T.f_is_int T.fd_is_int ["value"] spIsInt := by
  refine T.F_is_int.ok (k := 0) sc_is_int (fun vs H Q E h => ?_) (fun cdv A outer s H vs Q E hr h => ⟨_, ((dss_one (ds_ret (d_and (d_callB call_isi (snd_isi T.isi) T.z_isinstance (da_cons (dv 0) (da_cons (d_ty (n := "int") T.z_int (hv := bt_int)) da_nil)) (hv := bt_isinstance)) (d_one (d_not (d_callB call_isi (snd_isi T.isi) T.z_isinstance (da_cons (dv 0) (da_cons (d_ty (n := "bool") T.z_bool (hv := bt_bool)) da_nil)) (hv := bt_isinstance))))))) : PDSs _ _ _ _).pe, ?_⟩)
  · obtain ⟨i, rfl, _⟩ := h
    rfl
  · obtain ⟨i, rfl, q⟩ := h
    refine ⟨_, rfl, _, _, _, _, true, rfl, .ty "int", .base (.int i), kt_ii, true, rfl, iteT ?_⟩
    refine ⟨_, rfl, _, _, _, _, false, rfl, .ty "bool", .base (.int i), kt_ib, false, rfl, ?_⟩
    exact q
def wi_Ratio : WI := fun ds S Q => match ds with
  | [.int t, .int b] => (0 < b ∧ b.natAbs < 2 ^ 9000) ∧ Q [("_top", .int (mkR t b).1), ("_bottom", .int (mkR t b).2)] S
  | _ => False
theorem sc_R_init : FnScope ["self", "top", "bottom", "common"] ["self", "top", "bottom"] (defScope s_R_init) := ⟨rfl, rfl, rfl, by decide +kernel, rfl, by decide +kernel, by decide +kernel⟩
theorem tb_ne : ¬ (("_top" : Str) = "_bottom") := by decide +kernel
theorem ok_R_init (T : Tx K mg) : FnOk P w K mg base CX0 3 T.f_R_init T.fd_R_init ["self", "top", "bottom"] (spInit ⟨K, mg⟩ "Ratio" 2 wi_Ratio) := by
  refine T.F_R_init.ok (k := 2) sc_R_init (fun vs H Q E h => h.len) (fun cdv A outer s H vs Q E hr h => ?_)
  obtain ⟨x, C, dx, A', S, vs', ds, Q', rfl, hC, hx, nx, R, l, hn, hw, kk⟩ := h
  match ds, l, hw with
  | [.int t, .int b], l, hw =>
    obtain ⟨v1, v2, rfl, h1, h2⟩ := l.two
    cases h1; cases h2
    obtain ⟨⟨hb0, hb1⟩, hw⟩ := hw
    have hC' : mg "Ratio" = some (.ref C) := hC
    rw [T.g_Ratio] at hC'
    cases hC'
    refine ⟨_, PSs.nox (pss_cons (ps_if (pt_not (pt_val (pe_call (raw_is_int T) (hr.mono (by decide)) rfl T.m_is_int T.F_is_int.kp T.b_is_int .nil pass0 (pa_cons (pv 1) pa_nil)))) pss_never pss_nil)
      (pss_cons (ps_if (PW.pt (pw_or (pt_not (pt_val (pe_call (raw_is_int T) (hr.mono (by decide)) rfl T.m_is_int T.F_is_int.kp T.b_is_int .nil pass0 (pa_cons (pv 2) pa_nil)))) (pw_or1 (pt_cmpR op_lt (pv 2) pe_int (nomark _))))) pss_never pss_nil)
      (pss_cons (ps_set (i := 3) sc_R_init.nd rfl (Or.inl rfl) (pe_callBfun cr_gcd rfl T.g_gcd (pa_cons (pv 1) (pa_cons (pv 2) pa_nil))))
      (pss_cons (ps_fld (pv 0) (pe_op op_fdivWN (pv 1) (pv 3)) rfl) (pss_one (ps_fld (pv 0) (pe_op op_fdivWN (pv 2) (pv 3)) rfl)))))), ?_⟩
    have hd : CDivWN t (gc t b) := ⟨by have := gc_pos (t := t) hb0; omega, lt_log2 (by decide) (Nat.lt_of_le_of_lt (gc_le hb0) hb1)⟩
    have hd2 : CDivWN b (gc t b) := hd
    refine ⟨_, rfl, t, rfl, true, rfl, iteF ?_⟩
    refine ⟨_, rfl, b, rfl, true, rfl, iteF ?_⟩
    refine ⟨_, rfl, _, _, rfl, rfl, _, rfl, ?_⟩
    have e1 : decide (b < 1) = false := by simp; omega
    rw [e1]
    refine iteF ?_
    refine ⟨_, rfl, _, rfl, t, b, rfl, ?_⟩
    refine ⟨_, rfl, _, rfl, _, _, rfl, rfl, hd, _, rfl, x, T.C, dx, [], rfl, hx, T.cl, T.na_top, (by show 0 < 1000; decide), ?_⟩
    refine ⟨_, rfl, _, rfl, _, _, rfl, rfl, hd2, _, rfl, x, T.C, dx, _, rfl, upd_same, T.cl, T.na_bottom, (by show 1 < 1000; decide), ?_⟩
    refine kk _ _ _ (fun c o hc e => ?_) upd_same ?_ hw
    · rw [upd_ne hc, upd_ne hc]
      exact e
    · show IsF _ _ _ (if ("_top" : Str) = "_bottom" then _ else (("_top" : Str), V.int _) :: putF "_bottom" _ []) _
      rw [if_neg tb_ne]
      exact .cons (.int _) (.cons (.int _) .nil)
def w_as_ratio : WF := w1 fun p S Q => Q (rt p) S
theorem sc_as_ratio : FnScope ["number"] ["number"] (defScope s_as_ratio) := ⟨rfl, rfl, rfl, by decide +kernel, rfl, by decide +kernel, by decide +kernel⟩
theorem ok_as_ratio (T : Tx K mg) : FnOk P w K mg base CX0 5 T.f_as_ratio T.fd_as_ratio ["number"] (spW ⟨K, mg⟩ 1 w_as_ratio) := by
  refine fnD (k := 4) T.F_as_ratio sc_as_ratio (fun cdv A outer s H E hr => ⟨_, (dss_cons (ds_if (dt_val (d_callB call_isi (snd_isi T.isi) T.z_isinstance (da_cons (dv 0) (da_cons (d_cls T.g_Ratio) da_nil)) (hv := bt_isinstance))) (dss_one (ds_ret (dv 0))) dss_nil)
  (dss_one (ds_ret (d_make T.mkk (ok_R_init T) (hr.mono (by decide)) T.g_Ratio T.b_R_init1 T.v_R_init1 (fun _ _ => .cons (.int 1) .nil) (da_cons (dv 0) da_nil)))))⟩) (fun ds S Q hl h => ?_)
  obtain ⟨x, p, rfl, hp, h⟩ := one_num h
  rcases num_in hp with ⟨i, rfl, rfl⟩ | ⟨t, b, rfl, rfl⟩
  · simp only [true_and, and_true, oU2, oUn1, oL1, oS1, oR1, oJust, iAdd, iSub, iMul, iFdiv, iMod, iEq, iNe, iLt, iLe, iGt, iGe, iNeg, iAbs, DL.iStr, wFmt, wJs, wJoined, sNext, sSeq, sDrop, sRet, sRetN, sIf, sAsg, sPar, wOp, wVar, wC, wUn, wCons, wNil, wCB, wCall, wMake, wMakeSw, wCallSw, wProp, wFld, oI, oI0, oU, wTest, wAnd, wOr, wNot, wAndV, wOrV, wNotV, wIf, wTup, wLst, wLstM, gwName, gwNil, gwCons, gwTup, gwSub, oIx, oInt1, oAbsI, oLen, oGcd, oDivmod, oMax2, oMin2, oIsi, tyOf, clOf, kt_ii, kt_ib, kt_rr, kt_ir, kt_ri, kt_rb, kt_ni, kt_bi, kt_bb, kt_si, kt_ti, kt_li, kt_di, kt_nr, kt_br, kt_sr, kt_tr, kt_lr, kt_dr, oStrI, if_t1, if_f1, Bool.not_true, Bool.not_false, rt, startD, List.map_cons, List.map_nil, List.length_cons, List.length_nil, List.cons_append, List.nil_append, List.getElem?_cons_zero, List.getElem?_cons_succ, List.set_cons_zero, List.set_cons_succ, List.replicate, Nat.reduceAdd, Nat.reduceSub, Nat.zero_add, Nat.sub_self, Nat.add_sub_cancel, lk_top, lk_bot, w1, w2, numD_int, numD_ins, w_is_int, w_is_number, wi_Ratio]
    refine ⟨⟨by decide, nmono (m := 1) (by decide) (by decide)⟩, ?_⟩
    rw [mkR_one]
    exact h
  · simp only [true_and, and_true, oU2, oUn1, oL1, oS1, oR1, oJust, iAdd, iSub, iMul, iFdiv, iMod, iEq, iNe, iLt, iLe, iGt, iGe, iNeg, iAbs, DL.iStr, wFmt, wJs, wJoined, sNext, sSeq, sDrop, sRet, sRetN, sIf, sAsg, sPar, wOp, wVar, wC, wUn, wCons, wNil, wCB, wCall, wMake, wMakeSw, wCallSw, wProp, wFld, oI, oI0, oU, wTest, wAnd, wOr, wNot, wAndV, wOrV, wNotV, wIf, wTup, wLst, wLstM, gwName, gwNil, gwCons, gwTup, gwSub, oIx, oInt1, oAbsI, oLen, oGcd, oDivmod, oMax2, oMin2, oIsi, tyOf, clOf, kt_ii, kt_ib, kt_rr, kt_ir, kt_ri, kt_rb, kt_ni, kt_bi, kt_bb, kt_si, kt_ti, kt_li, kt_di, kt_nr, kt_br, kt_sr, kt_tr, kt_lr, kt_dr, oStrI, if_t1, if_f1, Bool.not_true, Bool.not_false, rt, startD, List.map_cons, List.map_nil, List.length_cons, List.length_nil, List.cons_append, List.nil_append, List.getElem?_cons_zero, List.getElem?_cons_succ, List.set_cons_zero, List.set_cons_succ, List.replicate, Nat.reduceAdd, Nat.reduceSub, Nat.zero_add, Nat.sub_self, Nat.add_sub_cancel, lk_top, lk_bot, w1, w2, numD_int, numD_ins, w_is_int, w_is_number, wi_Ratio]
    exact h
def w_top : WF := w1r fun p S Q => Q (.int p.1) S
theorem sc_R_top : FnScope ["self"] ["self"] (defScope s_R_top) := ⟨rfl, rfl, rfl, by decide +kernel, rfl, by decide +kernel, by decide +kernel⟩
theorem ok_R_top (T : Tx K mg) : FnOk P w K mg base CX0 1 T.f_R_top T.fd_R_top ["self"] (spW ⟨K, mg⟩ 1 w_top) := by
  refine fnD (k := 0) T.F_R_top sc_R_top (fun cdv A outer s H E hr => ⟨_, (dss_one (ds_ret (d_fld (dv 0) T.g_Ratio T.cl T.na_top)))⟩) (fun ds S Q hl h => ?_)
  obtain ⟨t, b, rfl, h⟩ := one_rat h
  simp only [true_and, and_true, oU2, oUn1, oL1, oS1, oR1, oJust, iAdd, iSub, iMul, iFdiv, iMod, iEq, iNe, iLt, iLe, iGt, iGe, iNeg, iAbs, DL.iStr, wFmt, wJs, wJoined, sNext, sSeq, sDrop, sRet, sRetN, sIf, sAsg, sPar, wOp, wVar, wC, wUn, wCons, wNil, wCB, wCall, wMake, wMakeSw, wCallSw, wProp, wFld, oI, oI0, oU, wTest, wAnd, wOr, wNot, wAndV, wOrV, wNotV, wIf, wTup, wLst, wLstM, gwName, gwNil, gwCons, gwTup, gwSub, oIx, oInt1, oAbsI, oLen, oGcd, oDivmod, oMax2, oMin2, oIsi, tyOf, clOf, kt_ii, kt_ib, kt_rr, kt_ir, kt_ri, kt_rb, kt_ni, kt_bi, kt_bb, kt_si, kt_ti, kt_li, kt_di, kt_nr, kt_br, kt_sr, kt_tr, kt_lr, kt_dr, oStrI, if_t1, if_f1, Bool.not_true, Bool.not_false, rt, startD, List.map_cons, List.map_nil, List.length_cons, List.length_nil, List.cons_append, List.nil_append, List.getElem?_cons_zero, List.getElem?_cons_succ, List.set_cons_zero, List.set_cons_succ, List.replicate, Nat.reduceAdd, Nat.reduceSub, Nat.zero_add, Nat.sub_self, Nat.add_sub_cancel, lk_top, lk_bot, w1, w2, numD_int, numD_ins, w_is_int, w_is_number, wi_Ratio, w_as_ratio]
  exact h
def w_bottom : WF := w1r fun p S Q => Q (.int p.2) S
theorem sc_R_bottom : FnScope ["self"] ["self"] (defScope s_R_bottom) := ⟨rfl, rfl, rfl, by decide +kernel, rfl, by decide +kernel, by decide +kernel⟩
theorem ok_R_bottom (T : Tx K mg) : FnOk P w K mg base CX0 1 T.f_R_bottom T.fd_R_bottom ["self"] (spW ⟨K, mg⟩ 1 w_bottom) := by
  refine fnD (k := 0) T.F_R_bottom sc_R_bottom (fun cdv A outer s H E hr => ⟨_, (dss_one (ds_ret (d_fld (dv 0) T.g_Ratio T.cl T.na_bottom)))⟩) (fun ds S Q hl h => ?_)
  obtain ⟨t, b, rfl, h⟩ := one_rat h
  simp only [true_and, and_true, oU2, oUn1, oL1, oS1, oR1, oJust, iAdd, iSub, iMul, iFdiv, iMod, iEq, iNe, iLt, iLe, iGt, iGe, iNeg, iAbs, DL.iStr, wFmt, wJs, wJoined, sNext, sSeq, sDrop, sRet, sRetN, sIf, sAsg, sPar, wOp, wVar, wC, wUn, wCons, wNil, wCB, wCall, wMake, wMakeSw, wCallSw, wProp, wFld, oI, oI0, oU, wTest, wAnd, wOr, wNot, wAndV, wOrV, wNotV, wIf, wTup, wLst, wLstM, gwName, gwNil, gwCons, gwTup, gwSub, oIx, oInt1, oAbsI, oLen, oGcd, oDivmod, oMax2, oMin2, oIsi, tyOf, clOf, kt_ii, kt_ib, kt_rr, kt_ir, kt_ri, kt_rb, kt_ni, kt_bi, kt_bb, kt_si, kt_ti, kt_li, kt_di, kt_nr, kt_br, kt_sr, kt_tr, kt_lr, kt_dr, oStrI, if_t1, if_f1, Bool.not_true, Bool.not_false, rt, startD, List.map_cons, List.map_nil, List.length_cons, List.length_nil, List.cons_append, List.nil_append, List.getElem?_cons_zero, List.getElem?_cons_succ, List.set_cons_zero, List.set_cons_succ, List.replicate, Nat.reduceAdd, Nat.reduceSub, Nat.zero_add, Nat.sub_self, Nat.add_sub_cancel, lk_top, lk_bot, w1, w2, numD_int, numD_ins, w_is_int, w_is_number, wi_Ratio, w_as_ratio]
  exact h
theorem sz_add {p q : Int × Int} {n : Nat} (hp : Sz n p) (hq : Sz n q) : (p.1 * q.2 + q.1 * p.2).natAbs < 2 ^ (n + n + 1) ∧ 0 < p.2 * q.2 ∧ (p.2 * q.2).natAbs < 2 ^ (n + n) :=
  ⟨nadd (nmul hp.2.1 hq.2.2) (nmul hq.2.1 hp.2.2), Int.mul_pos hp.1 hq.1, nmul hp.2.2 hq.2.2⟩
theorem sz_mul {p q : Int × Int} {n : Nat} (hp : Sz n p) (hq : Sz n q) : (p.1 * q.1).natAbs < 2 ^ (n + n) ∧ 0 < p.2 * q.2 ∧ (p.2 * q.2).natAbs < 2 ^ (n + n) :=
  ⟨nmul hp.2.1 hq.2.1, Int.mul_pos hp.1 hq.1, nmul hp.2.2 hq.2.2⟩
theorem cm8 {a b : Int} (ha : a.natAbs < 2 ^ 2000) (hb : b.natAbs < 2 ^ 2000) : CMulW a b := wide_mul ha hb (by decide) (by decide) (by decide)
theorem Sz.one {i : Int} {n : Nat} (hn : 0 < n) (h : i.natAbs < 2 ^ n) : Sz n (i, 1) := ⟨(by show (0 : Int) < 1; decide), h, nmono (m := 1) (by show 1 < 2; decide) (by omega)⟩

def w_add : WF := w2r fun p q S Q => (Sz 2000 p ∧ Sz 2000 q) ∧ Q (rt (addR p q)) S
theorem sc_R_add : FnScope ["self", "other", "right"] ["self", "other"] (defScope s_R_add) := ⟨rfl, rfl, rfl, by decide +kernel, rfl, by decide +kernel, by decide +kernel⟩
theorem ok_R_add (T : Tx K mg) : FnOk P w K mg base CX0 6 T.f_R_add T.fd_R_add ["self", "other"] (spW ⟨K, mg⟩ 2 w_add) := by
  refine fnD (k := 5) T.F_R_add sc_R_add (fun cdv A outer s H E hr => ⟨_, (dss_cons (ds_if (dt_not (dt_val (d_call (ok_is_number T) (hr.mono (by decide)) T.m_is_number T.F_is_number.kp T.b_is_number (da_cons (dv 1) da_nil)))) (dss_one ds_never) dss_nil)
  (dss_cons (ds_set (i := 2) sc_R_add.nd (d_call (ok_as_ratio T) (hr.mono (by decide)) T.m_as_ratio T.F_as_ratio.kp T.b_as_ratio (da_cons (dv 1) da_nil)))
  (dss_one (ds_ret (d_make T.mkk (ok_R_init T) (hr.mono (by decide)) T.g_Ratio T.b_R_init2 T.v_R_init2 (fun _ _ => .nil) (da_cons (d_op op_add snd_iAdd (d_op op_mulW snd_iMul (d_fld (dv 0) T.g_Ratio T.cl T.na_top) (d_prop (dv 2) T.g_Ratio T.cl T.p_bottom (ok_R_bottom T) (hr.mono (by decide)) T.b_R_bottom)) (d_op op_mulW snd_iMul (d_prop (dv 2) T.g_Ratio T.cl T.p_top (ok_R_top T) (hr.mono (by decide)) T.b_R_top) (d_fld (dv 0) T.g_Ratio T.cl T.na_bottom))) (da_cons (d_op op_mulW snd_iMul (d_fld (dv 0) T.g_Ratio T.cl T.na_bottom) (d_prop (dv 2) T.g_Ratio T.cl T.p_bottom (ok_R_bottom T) (hr.mono (by decide)) T.b_R_bottom)) da_nil)))))))⟩) (fun ds S Q hl h => ?_)
  obtain ⟨t, b, y, q, rfl, hq, ⟨sp, sq⟩, h⟩ := two_rat h
  have h1 : t.natAbs < 2 ^ 2000 := sp.2.1
  have h2 : b.natAbs < 2 ^ 2000 := sp.2.2
  have h3 : q.1.natAbs < 2 ^ 2000 := sq.2.1
  have h4 : q.2.natAbs < 2 ^ 2000 := sq.2.2
  have z := sz_add sp sq
  have e : addR (t, b) q = mkR (t * q.2 + q.1 * b) (b * q.2) := rfl
  rw [e] at h
  rcases num_in hq with ⟨i, rfl, rfl⟩ | ⟨u, d, rfl, rfl⟩
  · simp only [true_and, and_true, oU2, oUn1, oL1, oS1, oR1, oJust, iAdd, iSub, iMul, iFdiv, iMod, iEq, iNe, iLt, iLe, iGt, iGe, iNeg, iAbs, DL.iStr, wFmt, wJs, wJoined, sNext, sSeq, sDrop, sRet, sRetN, sIf, sAsg, sPar, wOp, wVar, wC, wUn, wCons, wNil, wCB, wCall, wMake, wMakeSw, wCallSw, wProp, wFld, oI, oI0, oU, wTest, wAnd, wOr, wNot, wAndV, wOrV, wNotV, wIf, wTup, wLst, wLstM, gwName, gwNil, gwCons, gwTup, gwSub, oIx, oInt1, oAbsI, oLen, oGcd, oDivmod, oMax2, oMin2, oIsi, tyOf, clOf, kt_ii, kt_ib, kt_rr, kt_ir, kt_ri, kt_rb, kt_ni, kt_bi, kt_bb, kt_si, kt_ti, kt_li, kt_di, kt_nr, kt_br, kt_sr, kt_tr, kt_lr, kt_dr, oStrI, if_t1, if_f1, Bool.not_true, Bool.not_false, rt, startD, List.map_cons, List.map_nil, List.length_cons, List.length_nil, List.cons_append, List.nil_append, List.getElem?_cons_zero, List.getElem?_cons_succ, List.set_cons_zero, List.set_cons_succ, List.replicate, Nat.reduceAdd, Nat.reduceSub, Nat.zero_add, Nat.sub_self, Nat.add_sub_cancel, lk_top, lk_bot, w1, w2, numD_int, numD_ins, w_is_int, w_is_number, wi_Ratio, w_as_ratio, w_top, w_bottom, w1r, w2r]
    exact ⟨cm8 h1 h4, cm8 h3 h2, cm8 h2 h4, ⟨z.2.1, nmono z.2.2 (by decide)⟩, h⟩
  · simp only [true_and, and_true, oU2, oUn1, oL1, oS1, oR1, oJust, iAdd, iSub, iMul, iFdiv, iMod, iEq, iNe, iLt, iLe, iGt, iGe, iNeg, iAbs, DL.iStr, wFmt, wJs, wJoined, sNext, sSeq, sDrop, sRet, sRetN, sIf, sAsg, sPar, wOp, wVar, wC, wUn, wCons, wNil, wCB, wCall, wMake, wMakeSw, wCallSw, wProp, wFld, oI, oI0, oU, wTest, wAnd, wOr, wNot, wAndV, wOrV, wNotV, wIf, wTup, wLst, wLstM, gwName, gwNil, gwCons, gwTup, gwSub, oIx, oInt1, oAbsI, oLen, oGcd, oDivmod, oMax2, oMin2, oIsi, tyOf, clOf, kt_ii, kt_ib, kt_rr, kt_ir, kt_ri, kt_rb, kt_ni, kt_bi, kt_bb, kt_si, kt_ti, kt_li, kt_di, kt_nr, kt_br, kt_sr, kt_tr, kt_lr, kt_dr, oStrI, if_t1, if_f1, Bool.not_true, Bool.not_false, rt, startD, List.map_cons, List.map_nil, List.length_cons, List.length_nil, List.cons_append, List.nil_append, List.getElem?_cons_zero, List.getElem?_cons_succ, List.set_cons_zero, List.set_cons_succ, List.replicate, Nat.reduceAdd, Nat.reduceSub, Nat.zero_add, Nat.sub_self, Nat.add_sub_cancel, lk_top, lk_bot, w1, w2, numD_int, numD_ins, w_is_int, w_is_number, wi_Ratio, w_as_ratio, w_top, w_bottom, w1r, w2r]
    exact ⟨cm8 h1 h4, cm8 h3 h2, cm8 h2 h4, ⟨z.2.1, nmono z.2.2 (by decide)⟩, h⟩
theorem dec_add {P : Program} {w : World} {A : Around} {E : Value → Shared → Prop} {s : Shared} {i : Int} {t : Tok} {x : Addr} {ox : Obj} (Q' : Value → Shared → Prop) (h1 : s.heap.get? x = some ox) (h2 : ox.data = .plain) (q : Q' .notImplemented s) :
    wpAny (model P w) A (call (.builtin "int.__add__") [.int i t, .ref x]) Q' E s := int_declines PySem.F.slot_int_add PySem.F.entry_int_add (PySem.F.args_int_add_2 _ _) rfl h1 h2 q
theorem dec_sub {P : Program} {w : World} {A : Around} {E : Value → Shared → Prop} {s : Shared} {i : Int} {t : Tok} {x : Addr} {ox : Obj} (Q' : Value → Shared → Prop) (h1 : s.heap.get? x = some ox) (h2 : ox.data = .plain) (q : Q' .notImplemented s) :
    wpAny (model P w) A (call (.builtin "int.__sub__") [.int i t, .ref x]) Q' E s := int_declines PySem.F.slot_int_sub PySem.F.entry_int_sub (PySem.F.args_int_sub_2 _ _) rfl h1 h2 q
theorem dec_mul {P : Program} {w : World} {A : Around} {E : Value → Shared → Prop} {s : Shared} {i : Int} {t : Tok} {x : Addr} {ox : Obj} (Q' : Value → Shared → Prop) (h1 : s.heap.get? x = some ox) (h2 : ox.data = .plain) (q : Q' .notImplemented s) :
    wpAny (model P w) A (call (.builtin "int.__mul__") [.int i t, .ref x]) Q' E s := int_declines PySem.F.slot_int_mul PySem.F.entry_int_mul (PySem.F.args_int_mul_2 _ _) rfl h1 h2 q
theorem dec_mod {P : Program} {w : World} {A : Around} {E : Value → Shared → Prop} {s : Shared} {i : Int} {t : Tok} {x : Addr} {ox : Obj} (Q' : Value → Shared → Prop) (h1 : s.heap.get? x = some ox) (h2 : ox.data = .plain) (q : Q' .notImplemented s) :
    wpAny (model P w) A (call (.builtin "int.__mod__") [.int i t, .ref x]) Q' E s := int_declines PySem.F.slot_int_mod PySem.F.entry_int_mod (PySem.F.args_int_mod_2 _ _) rfl h1 h2 q
theorem dec_floordiv {P : Program} {w : World} {A : Around} {E : Value → Shared → Prop} {s : Shared} {i : Int} {t : Tok} {x : Addr} {ox : Obj} (Q' : Value → Shared → Prop) (h1 : s.heap.get? x = some ox) (h2 : ox.data = .plain) (q : Q' .notImplemented s) :
    wpAny (model P w) A (call (.builtin "int.__floordiv__") [.int i t, .ref x]) Q' E s := int_fdeclines h1 h2 q
theorem negR_int (i : Int) : negR (i, 1) = (-i, 1) := mkR_one (-i)
theorem negR_sz {p : Int × Int} {n : Nat} (h : Sz n p) : Sz n (negR p) := mkR_sz h.1 (nneg h.2.1) h.2.2
theorem mulR_int (i j : Int) : mulR (i, 1) (j, 1) = (i * j, 1) := by
  show mkR (i * j) (1 * 1) = _
  exact mkR_one _

def w_neg : WF := w1r fun p S Q => Sz 2000 p ∧ Q (rt (negR p)) S
theorem sc_R_neg : FnScope ["self"] ["self"] (defScope s_R_neg) := ⟨rfl, rfl, rfl, by decide +kernel, rfl, by decide +kernel, by decide +kernel⟩
theorem ok_R_neg (T : Tx K mg) : FnOk P w K mg base CX0 5 T.f_R_neg T.fd_R_neg ["self"] (spW ⟨K, mg⟩ 1 w_neg) := by
  refine fnD (k := 4) T.F_R_neg sc_R_neg (fun cdv A outer s H E hr => ⟨_, (dss_one (ds_ret (d_make T.mkk (ok_R_init T) (hr.mono (by decide)) T.g_Ratio T.b_R_init2 T.v_R_init2 (fun _ _ => .nil) (da_cons (d_un un_neg (snd_rU fun _ _ _ => .int _) (d_fld (dv 0) T.g_Ratio T.cl T.na_top)) (da_cons (d_fld (dv 0) T.g_Ratio T.cl T.na_bottom) da_nil)))))⟩) (fun ds S Q hl h => ?_)
  obtain ⟨t, b, rfl, sp, h⟩ := one_rat h
  have h1 : t.natAbs < 2 ^ 2000 := sp.2.1
  have h2 : b.natAbs < 2 ^ 2000 := sp.2.2
  simp only [true_and, and_true, oU2, oUn1, oL1, oS1, oR1, oJust, iAdd, iSub, iMul, iFdiv, iMod, iEq, iNe, iLt, iLe, iGt, iGe, iNeg, iAbs, DL.iStr, wFmt, wJs, wJoined, sNext, sSeq, sDrop, sRet, sRetN, sIf, sAsg, sPar, wOp, wVar, wC, wUn, wCons, wNil, wCB, wCall, wMake, wMakeSw, wCallSw, wProp, wFld, oI, oI0, oU, wTest, wAnd, wOr, wNot, wAndV, wOrV, wNotV, wIf, wTup, wLst, wLstM, gwName, gwNil, gwCons, gwTup, gwSub, oIx, oInt1, oAbsI, oLen, oGcd, oDivmod, oMax2, oMin2, oIsi, tyOf, clOf, kt_ii, kt_ib, kt_rr, kt_ir, kt_ri, kt_rb, kt_ni, kt_bi, kt_bb, kt_si, kt_ti, kt_li, kt_di, kt_nr, kt_br, kt_sr, kt_tr, kt_lr, kt_dr, oStrI, if_t1, if_f1, Bool.not_true, Bool.not_false, rt, startD, List.map_cons, List.map_nil, List.length_cons, List.length_nil, List.cons_append, List.nil_append, List.getElem?_cons_zero, List.getElem?_cons_succ, List.set_cons_zero, List.set_cons_succ, List.replicate, Nat.reduceAdd, Nat.reduceSub, Nat.zero_add, Nat.sub_self, Nat.add_sub_cancel, lk_top, lk_bot, w1, w2, numD_int, numD_ins, w_is_int, w_is_number, wi_Ratio, w_as_ratio, w_top, w_bottom, w1r, w2r, w_add]
  exact ⟨⟨sp.1, nmono h2 (by decide)⟩, h⟩
def w_abs : WF := w1r fun p S Q => Sz 2000 p ∧ Q (rt (absR p)) S
theorem sc_R_abs : FnScope ["self"] ["self"] (defScope s_R_abs) := ⟨rfl, rfl, rfl, by decide +kernel, rfl, by decide +kernel, by decide +kernel⟩
theorem ok_R_abs (T : Tx K mg) : FnOk P w K mg base CX0 5 T.f_R_abs T.fd_R_abs ["self"] (spW ⟨K, mg⟩ 1 w_abs) := by
  refine fnD (k := 4) T.F_R_abs sc_R_abs (fun cdv A outer s H E hr => ⟨_, (dss_one (ds_ret (d_make T.mkk (ok_R_init T) (hr.mono (by decide)) T.g_Ratio T.b_R_init2 T.v_R_init2 (fun _ _ => .nil) (da_cons (d_callB call_abs snd_absI T.z_abs (da_cons (d_fld (dv 0) T.g_Ratio T.cl T.na_top) da_nil) (hv := bt_abs)) (da_cons (d_fld (dv 0) T.g_Ratio T.cl T.na_bottom) da_nil)))))⟩) (fun ds S Q hl h => ?_)
  obtain ⟨t, b, rfl, sp, h⟩ := one_rat h
  have h1 : t.natAbs < 2 ^ 2000 := sp.2.1
  have h2 : b.natAbs < 2 ^ 2000 := sp.2.2
  simp only [true_and, and_true, oU2, oUn1, oL1, oS1, oR1, oJust, iAdd, iSub, iMul, iFdiv, iMod, iEq, iNe, iLt, iLe, iGt, iGe, iNeg, iAbs, DL.iStr, wFmt, wJs, wJoined, sNext, sSeq, sDrop, sRet, sRetN, sIf, sAsg, sPar, wOp, wVar, wC, wUn, wCons, wNil, wCB, wCall, wMake, wMakeSw, wCallSw, wProp, wFld, oI, oI0, oU, wTest, wAnd, wOr, wNot, wAndV, wOrV, wNotV, wIf, wTup, wLst, wLstM, gwName, gwNil, gwCons, gwTup, gwSub, oIx, oInt1, oAbsI, oLen, oGcd, oDivmod, oMax2, oMin2, oIsi, tyOf, clOf, kt_ii, kt_ib, kt_rr, kt_ir, kt_ri, kt_rb, kt_ni, kt_bi, kt_bb, kt_si, kt_ti, kt_li, kt_di, kt_nr, kt_br, kt_sr, kt_tr, kt_lr, kt_dr, oStrI, if_t1, if_f1, Bool.not_true, Bool.not_false, rt, startD, List.map_cons, List.map_nil, List.length_cons, List.length_nil, List.cons_append, List.nil_append, List.getElem?_cons_zero, List.getElem?_cons_succ, List.set_cons_zero, List.set_cons_succ, List.replicate, Nat.reduceAdd, Nat.reduceSub, Nat.zero_add, Nat.sub_self, Nat.add_sub_cancel, lk_top, lk_bot, w1, w2, numD_int, numD_ins, w_is_int, w_is_number, wi_Ratio, w_as_ratio, w_top, w_bottom, w1r, w2r, w_add]
  exact ⟨⟨sp.1, nmono h2 (by decide)⟩, h⟩
def w_radd : WF := w2r fun p q S Q => (Sz 2000 p ∧ Sz 2000 q) ∧ Q (rt (addR p q)) S
theorem sc_R_radd : FnScope ["self", "other"] ["self", "other"] (defScope s_R_radd) := ⟨rfl, rfl, rfl, by decide +kernel, rfl, by decide +kernel, by decide +kernel⟩
theorem ok_R_radd (T : Tx K mg) : FnOk P w K mg base CX0 7 T.f_R_radd T.fd_R_radd ["self", "other"] (spW ⟨K, mg⟩ 2 w_radd) := by
  refine fnD (k := 6) T.F_R_radd sc_R_radd (fun cdv A outer s H E hr => ⟨_, (dss_cons (ds_if (dt_not (dt_val (d_call (ok_is_number T) (hr.mono (by decide)) T.m_is_number T.F_is_number.kp T.b_is_number (da_cons (dv 1) da_nil)))) (dss_one ds_never) dss_nil)
  (dss_one (ds_ret (d_op (OpR.or op_add (op_ownB (op := .Add) T.own T.M_R_add T.M_R_radd.at_ (.inr ⟨_, rfl⟩) T.fi_add T.ri_add (ok_R_add T) (hr.mono (by decide)) T.b_R_add pass0)) (snd_U1 snd_iAdd T.g_Ratio) (dv 0) (dv 1)))))⟩) (fun ds S Q hl h => ?_)
  obtain ⟨t, b, y, q, rfl, hq, ⟨sp, sq⟩, h⟩ := two_rat h
  have h1 : t.natAbs < 2 ^ 2000 := sp.2.1
  have h2 : b.natAbs < 2 ^ 2000 := sp.2.2
  have h3 : q.1.natAbs < 2 ^ 2000 := sq.2.1
  have h4 : q.2.natAbs < 2 ^ 2000 := sq.2.2
  rcases num_in hq with ⟨i, rfl, rfl⟩ | ⟨u, d, rfl, rfl⟩
  · simp only [true_and, and_true, oU2, oUn1, oL1, oS1, oR1, oJust, iAdd, iSub, iMul, iFdiv, iMod, iEq, iNe, iLt, iLe, iGt, iGe, iNeg, iAbs, DL.iStr, wFmt, wJs, wJoined, sNext, sSeq, sDrop, sRet, sRetN, sIf, sAsg, sPar, wOp, wVar, wC, wUn, wCons, wNil, wCB, wCall, wMake, wMakeSw, wCallSw, wProp, wFld, oI, oI0, oU, wTest, wAnd, wOr, wNot, wAndV, wOrV, wNotV, wIf, wTup, wLst, wLstM, gwName, gwNil, gwCons, gwTup, gwSub, oIx, oInt1, oAbsI, oLen, oGcd, oDivmod, oMax2, oMin2, oIsi, tyOf, clOf, kt_ii, kt_ib, kt_rr, kt_ir, kt_ri, kt_rb, kt_ni, kt_bi, kt_bb, kt_si, kt_ti, kt_li, kt_di, kt_nr, kt_br, kt_sr, kt_tr, kt_lr, kt_dr, oStrI, if_t1, if_f1, Bool.not_true, Bool.not_false, rt, startD, List.map_cons, List.map_nil, List.length_cons, List.length_nil, List.cons_append, List.nil_append, List.getElem?_cons_zero, List.getElem?_cons_succ, List.set_cons_zero, List.set_cons_succ, List.replicate, Nat.reduceAdd, Nat.reduceSub, Nat.zero_add, Nat.sub_self, Nat.add_sub_cancel, lk_top, lk_bot, w1, w2, numD_int, numD_ins, w_is_int, w_is_number, wi_Ratio, w_as_ratio, w_top, w_bottom, w1r, w2r, w_add, w_neg, w_abs]
    exact ⟨⟨sp, sq⟩, h⟩
  · simp only [true_and, and_true, oU2, oUn1, oL1, oS1, oR1, oJust, iAdd, iSub, iMul, iFdiv, iMod, iEq, iNe, iLt, iLe, iGt, iGe, iNeg, iAbs, DL.iStr, wFmt, wJs, wJoined, sNext, sSeq, sDrop, sRet, sRetN, sIf, sAsg, sPar, wOp, wVar, wC, wUn, wCons, wNil, wCB, wCall, wMake, wMakeSw, wCallSw, wProp, wFld, oI, oI0, oU, wTest, wAnd, wOr, wNot, wAndV, wOrV, wNotV, wIf, wTup, wLst, wLstM, gwName, gwNil, gwCons, gwTup, gwSub, oIx, oInt1, oAbsI, oLen, oGcd, oDivmod, oMax2, oMin2, oIsi, tyOf, clOf, kt_ii, kt_ib, kt_rr, kt_ir, kt_ri, kt_rb, kt_ni, kt_bi, kt_bb, kt_si, kt_ti, kt_li, kt_di, kt_nr, kt_br, kt_sr, kt_tr, kt_lr, kt_dr, oStrI, if_t1, if_f1, Bool.not_true, Bool.not_false, rt, startD, List.map_cons, List.map_nil, List.length_cons, List.length_nil, List.cons_append, List.nil_append, List.getElem?_cons_zero, List.getElem?_cons_succ, List.set_cons_zero, List.set_cons_succ, List.replicate, Nat.reduceAdd, Nat.reduceSub, Nat.zero_add, Nat.sub_self, Nat.add_sub_cancel, lk_top, lk_bot, w1, w2, numD_int, numD_ins, w_is_int, w_is_number, wi_Ratio, w_as_ratio, w_top, w_bottom, w1r, w2r, w_add, w_neg, w_abs]
    exact ⟨⟨sp, sq⟩, h⟩
def w_sub : WF := w2r fun p q S Q => (Sz 2000 p ∧ Sz 2000 q) ∧ Q (rt (subR p q)) S
theorem sc_R_sub : FnScope ["self", "other"] ["self", "other"] (defScope s_R_sub) := ⟨rfl, rfl, rfl, by decide +kernel, rfl, by decide +kernel, by decide +kernel⟩
theorem ok_R_sub (T : Tx K mg) : FnOk P w K mg base CX0 7 T.f_R_sub T.fd_R_sub ["self", "other"] (spW ⟨K, mg⟩ 2 w_sub) := by
  refine fnD (k := 6) T.F_R_sub sc_R_sub (fun cdv A outer s H E hr => ⟨_, (dss_cons (ds_if (dt_not (dt_val (d_call (ok_is_number T) (hr.mono (by decide)) T.m_is_number T.F_is_number.kp T.b_is_number (da_cons (dv 1) da_nil)))) (dss_one ds_never) dss_nil)
  (dss_one (ds_ret (d_op (OpR.or op_add (op_ownB (op := .Add) T.own T.M_R_add T.M_R_radd.at_ (.inr ⟨_, rfl⟩) T.fi_add T.ri_add (ok_R_add T) (hr.mono (by decide)) T.b_R_add pass0)) (snd_U1 snd_iAdd T.g_Ratio) (dv 0) (d_un (DL.UnR.or un_neg (un_ownNeg T.M_R_neg (ok_R_neg T) (hr.mono (by decide)) T.b_R_neg pass0)) (snd_neg1 T.g_Ratio) (dv 1))))))⟩) (fun ds S Q hl h => ?_)
  obtain ⟨t, b, y, q, rfl, hq, ⟨sp, sq⟩, h⟩ := two_rat h
  have h1 : t.natAbs < 2 ^ 2000 := sp.2.1
  have h2 : b.natAbs < 2 ^ 2000 := sp.2.2
  have h3 : q.1.natAbs < 2 ^ 2000 := sq.2.1
  have h4 : q.2.natAbs < 2 ^ 2000 := sq.2.2
  have sn := negR_sz sq
  rcases num_in hq with ⟨i, rfl, rfl⟩ | ⟨u, d, rfl, rfl⟩
  · simp only [true_and, and_true, oU2, oUn1, oL1, oS1, oR1, oJust, iAdd, iSub, iMul, iFdiv, iMod, iEq, iNe, iLt, iLe, iGt, iGe, iNeg, iAbs, DL.iStr, wFmt, wJs, wJoined, sNext, sSeq, sDrop, sRet, sRetN, sIf, sAsg, sPar, wOp, wVar, wC, wUn, wCons, wNil, wCB, wCall, wMake, wMakeSw, wCallSw, wProp, wFld, oI, oI0, oU, wTest, wAnd, wOr, wNot, wAndV, wOrV, wNotV, wIf, wTup, wLst, wLstM, gwName, gwNil, gwCons, gwTup, gwSub, oIx, oInt1, oAbsI, oLen, oGcd, oDivmod, oMax2, oMin2, oIsi, tyOf, clOf, kt_ii, kt_ib, kt_rr, kt_ir, kt_ri, kt_rb, kt_ni, kt_bi, kt_bb, kt_si, kt_ti, kt_li, kt_di, kt_nr, kt_br, kt_sr, kt_tr, kt_lr, kt_dr, oStrI, if_t1, if_f1, Bool.not_true, Bool.not_false, rt, startD, List.map_cons, List.map_nil, List.length_cons, List.length_nil, List.cons_append, List.nil_append, List.getElem?_cons_zero, List.getElem?_cons_succ, List.set_cons_zero, List.set_cons_succ, List.replicate, Nat.reduceAdd, Nat.reduceSub, Nat.zero_add, Nat.sub_self, Nat.add_sub_cancel, lk_top, lk_bot, w1, w2, numD_int, numD_ins, w_is_int, w_is_number, wi_Ratio, w_as_ratio, w_top, w_bottom, w1r, w2r, w_add, w_neg, w_abs]
    rw [negR_int] at sn
    refine ⟨⟨sp, sn⟩, ?_⟩
    have h : Q (rt (addR (t, b) (negR (i, 1)))) S := h
    rw [negR_int] at h
    exact h
  · simp only [true_and, and_true, oU2, oUn1, oL1, oS1, oR1, oJust, iAdd, iSub, iMul, iFdiv, iMod, iEq, iNe, iLt, iLe, iGt, iGe, iNeg, iAbs, DL.iStr, wFmt, wJs, wJoined, sNext, sSeq, sDrop, sRet, sRetN, sIf, sAsg, sPar, wOp, wVar, wC, wUn, wCons, wNil, wCB, wCall, wMake, wMakeSw, wCallSw, wProp, wFld, oI, oI0, oU, wTest, wAnd, wOr, wNot, wAndV, wOrV, wNotV, wIf, wTup, wLst, wLstM, gwName, gwNil, gwCons, gwTup, gwSub, oIx, oInt1, oAbsI, oLen, oGcd, oDivmod, oMax2, oMin2, oIsi, tyOf, clOf, kt_ii, kt_ib, kt_rr, kt_ir, kt_ri, kt_rb, kt_ni, kt_bi, kt_bb, kt_si, kt_ti, kt_li, kt_di, kt_nr, kt_br, kt_sr, kt_tr, kt_lr, kt_dr, oStrI, if_t1, if_f1, Bool.not_true, Bool.not_false, rt, startD, List.map_cons, List.map_nil, List.length_cons, List.length_nil, List.cons_append, List.nil_append, List.getElem?_cons_zero, List.getElem?_cons_succ, List.set_cons_zero, List.set_cons_succ, List.replicate, Nat.reduceAdd, Nat.reduceSub, Nat.zero_add, Nat.sub_self, Nat.add_sub_cancel, lk_top, lk_bot, w1, w2, numD_int, numD_ins, w_is_int, w_is_number, wi_Ratio, w_as_ratio, w_top, w_bottom, w1r, w2r, w_add, w_neg, w_abs]
    exact ⟨sq, ⟨sp, sn⟩, h⟩
def w_rsub : WF := w2r fun p q S Q => (Sz 2000 p ∧ Sz 2000 q) ∧ Q (rt (addR (negR p) q)) S
theorem sc_R_rsub : FnScope ["self", "other"] ["self", "other"] (defScope s_R_rsub) := ⟨rfl, rfl, rfl, by decide +kernel, rfl, by decide +kernel, by decide +kernel⟩
theorem ok_R_rsub (T : Tx K mg) : FnOk P w K mg base CX0 7 T.f_R_rsub T.fd_R_rsub ["self", "other"] (spW ⟨K, mg⟩ 2 w_rsub) := by
  refine fnD (k := 6) T.F_R_rsub sc_R_rsub (fun cdv A outer s H E hr => ⟨_, (dss_cons (ds_if (dt_not (dt_val (d_call (ok_is_number T) (hr.mono (by decide)) T.m_is_number T.F_is_number.kp T.b_is_number (da_cons (dv 1) da_nil)))) (dss_one ds_never) dss_nil)
  (dss_one (ds_ret (d_op (OpR.or op_add (op_ownB (op := .Add) T.own T.M_R_add T.M_R_radd.at_ (.inr ⟨_, rfl⟩) T.fi_add T.ri_add (ok_R_add T) (hr.mono (by decide)) T.b_R_add pass0)) (snd_U1 snd_iAdd T.g_Ratio) (d_un (DL.UnR.or un_neg (un_ownNeg T.M_R_neg (ok_R_neg T) (hr.mono (by decide)) T.b_R_neg pass0)) (snd_neg1 T.g_Ratio) (dv 0)) (dv 1)))))⟩) (fun ds S Q hl h => ?_)
  obtain ⟨t, b, y, q, rfl, hq, ⟨sp, sq⟩, h⟩ := two_rat h
  have h1 : t.natAbs < 2 ^ 2000 := sp.2.1
  have h2 : b.natAbs < 2 ^ 2000 := sp.2.2
  have h3 : q.1.natAbs < 2 ^ 2000 := sq.2.1
  have h4 : q.2.natAbs < 2 ^ 2000 := sq.2.2
  have sn := negR_sz sp
  rcases num_in hq with ⟨i, rfl, rfl⟩ | ⟨u, d, rfl, rfl⟩
  · simp only [true_and, and_true, oU2, oUn1, oL1, oS1, oR1, oJust, iAdd, iSub, iMul, iFdiv, iMod, iEq, iNe, iLt, iLe, iGt, iGe, iNeg, iAbs, DL.iStr, wFmt, wJs, wJoined, sNext, sSeq, sDrop, sRet, sRetN, sIf, sAsg, sPar, wOp, wVar, wC, wUn, wCons, wNil, wCB, wCall, wMake, wMakeSw, wCallSw, wProp, wFld, oI, oI0, oU, wTest, wAnd, wOr, wNot, wAndV, wOrV, wNotV, wIf, wTup, wLst, wLstM, gwName, gwNil, gwCons, gwTup, gwSub, oIx, oInt1, oAbsI, oLen, oGcd, oDivmod, oMax2, oMin2, oIsi, tyOf, clOf, kt_ii, kt_ib, kt_rr, kt_ir, kt_ri, kt_rb, kt_ni, kt_bi, kt_bb, kt_si, kt_ti, kt_li, kt_di, kt_nr, kt_br, kt_sr, kt_tr, kt_lr, kt_dr, oStrI, if_t1, if_f1, Bool.not_true, Bool.not_false, rt, startD, List.map_cons, List.map_nil, List.length_cons, List.length_nil, List.cons_append, List.nil_append, List.getElem?_cons_zero, List.getElem?_cons_succ, List.set_cons_zero, List.set_cons_succ, List.replicate, Nat.reduceAdd, Nat.reduceSub, Nat.zero_add, Nat.sub_self, Nat.add_sub_cancel, lk_top, lk_bot, w1, w2, numD_int, numD_ins, w_is_int, w_is_number, wi_Ratio, w_as_ratio, w_top, w_bottom, w1r, w2r, w_add, w_neg, w_abs]
    exact ⟨sp, ⟨sn, sq⟩, h⟩
  · simp only [true_and, and_true, oU2, oUn1, oL1, oS1, oR1, oJust, iAdd, iSub, iMul, iFdiv, iMod, iEq, iNe, iLt, iLe, iGt, iGe, iNeg, iAbs, DL.iStr, wFmt, wJs, wJoined, sNext, sSeq, sDrop, sRet, sRetN, sIf, sAsg, sPar, wOp, wVar, wC, wUn, wCons, wNil, wCB, wCall, wMake, wMakeSw, wCallSw, wProp, wFld, oI, oI0, oU, wTest, wAnd, wOr, wNot, wAndV, wOrV, wNotV, wIf, wTup, wLst, wLstM, gwName, gwNil, gwCons, gwTup, gwSub, oIx, oInt1, oAbsI, oLen, oGcd, oDivmod, oMax2, oMin2, oIsi, tyOf, clOf, kt_ii, kt_ib, kt_rr, kt_ir, kt_ri, kt_rb, kt_ni, kt_bi, kt_bb, kt_si, kt_ti, kt_li, kt_di, kt_nr, kt_br, kt_sr, kt_tr, kt_lr, kt_dr, oStrI, if_t1, if_f1, Bool.not_true, Bool.not_false, rt, startD, List.map_cons, List.map_nil, List.length_cons, List.length_nil, List.cons_append, List.nil_append, List.getElem?_cons_zero, List.getElem?_cons_succ, List.set_cons_zero, List.set_cons_succ, List.replicate, Nat.reduceAdd, Nat.reduceSub, Nat.zero_add, Nat.sub_self, Nat.add_sub_cancel, lk_top, lk_bot, w1, w2, numD_int, numD_ins, w_is_int, w_is_number, wi_Ratio, w_as_ratio, w_top, w_bottom, w1r, w2r, w_add, w_neg, w_abs]
    exact ⟨sp, ⟨sn, sq⟩, h⟩
def w_mul : WF := w2r fun p q S Q => (Sz 2000 p ∧ Sz 2000 q) ∧ Q (rt (mulR p q)) S
theorem sc_R_mul : FnScope ["self", "other", "right"] ["self", "other"] (defScope s_R_mul) := ⟨rfl, rfl, rfl, by decide +kernel, rfl, by decide +kernel, by decide +kernel⟩
theorem ok_R_mul (T : Tx K mg) : FnOk P w K mg base CX0 6 T.f_R_mul T.fd_R_mul ["self", "other"] (spW ⟨K, mg⟩ 2 w_mul) := by
  refine fnD (k := 5) T.F_R_mul sc_R_mul (fun cdv A outer s H E hr => ⟨_, (dss_cons (ds_if (dt_not (dt_val (d_call (ok_is_number T) (hr.mono (by decide)) T.m_is_number T.F_is_number.kp T.b_is_number (da_cons (dv 1) da_nil)))) (dss_one ds_never) dss_nil)
  (dss_cons (ds_set (i := 2) sc_R_mul.nd (d_call (ok_as_ratio T) (hr.mono (by decide)) T.m_as_ratio T.F_as_ratio.kp T.b_as_ratio (da_cons (dv 1) da_nil)))
  (dss_one (ds_ret (d_make T.mkk (ok_R_init T) (hr.mono (by decide)) T.g_Ratio T.b_R_init2 T.v_R_init2 (fun _ _ => .nil) (da_cons (d_op op_mulW snd_iMul (d_fld (dv 0) T.g_Ratio T.cl T.na_top) (d_prop (dv 2) T.g_Ratio T.cl T.p_top (ok_R_top T) (hr.mono (by decide)) T.b_R_top)) (da_cons (d_op op_mulW snd_iMul (d_fld (dv 0) T.g_Ratio T.cl T.na_bottom) (d_prop (dv 2) T.g_Ratio T.cl T.p_bottom (ok_R_bottom T) (hr.mono (by decide)) T.b_R_bottom)) da_nil)))))))⟩) (fun ds S Q hl h => ?_)
  obtain ⟨t, b, y, q, rfl, hq, ⟨sp, sq⟩, h⟩ := two_rat h
  have h1 : t.natAbs < 2 ^ 2000 := sp.2.1
  have h2 : b.natAbs < 2 ^ 2000 := sp.2.2
  have h3 : q.1.natAbs < 2 ^ 2000 := sq.2.1
  have h4 : q.2.natAbs < 2 ^ 2000 := sq.2.2
  have z := sz_mul sp sq
  rcases num_in hq with ⟨i, rfl, rfl⟩ | ⟨u, d, rfl, rfl⟩
  · simp only [true_and, and_true, oU2, oUn1, oL1, oS1, oR1, oJust, iAdd, iSub, iMul, iFdiv, iMod, iEq, iNe, iLt, iLe, iGt, iGe, iNeg, iAbs, DL.iStr, wFmt, wJs, wJoined, sNext, sSeq, sDrop, sRet, sRetN, sIf, sAsg, sPar, wOp, wVar, wC, wUn, wCons, wNil, wCB, wCall, wMake, wMakeSw, wCallSw, wProp, wFld, oI, oI0, oU, wTest, wAnd, wOr, wNot, wAndV, wOrV, wNotV, wIf, wTup, wLst, wLstM, gwName, gwNil, gwCons, gwTup, gwSub, oIx, oInt1, oAbsI, oLen, oGcd, oDivmod, oMax2, oMin2, oIsi, tyOf, clOf, kt_ii, kt_ib, kt_rr, kt_ir, kt_ri, kt_rb, kt_ni, kt_bi, kt_bb, kt_si, kt_ti, kt_li, kt_di, kt_nr, kt_br, kt_sr, kt_tr, kt_lr, kt_dr, oStrI, if_t1, if_f1, Bool.not_true, Bool.not_false, rt, startD, List.map_cons, List.map_nil, List.length_cons, List.length_nil, List.cons_append, List.nil_append, List.getElem?_cons_zero, List.getElem?_cons_succ, List.set_cons_zero, List.set_cons_succ, List.replicate, Nat.reduceAdd, Nat.reduceSub, Nat.zero_add, Nat.sub_self, Nat.add_sub_cancel, lk_top, lk_bot, w1, w2, numD_int, numD_ins, w_is_int, w_is_number, wi_Ratio, w_as_ratio, w_top, w_bottom, w1r, w2r, w_add, w_neg, w_abs]
    exact ⟨cm8 h1 h3, cm8 h2 h4, ⟨z.2.1, nmono z.2.2 (by decide)⟩, h⟩
  · simp only [true_and, and_true, oU2, oUn1, oL1, oS1, oR1, oJust, iAdd, iSub, iMul, iFdiv, iMod, iEq, iNe, iLt, iLe, iGt, iGe, iNeg, iAbs, DL.iStr, wFmt, wJs, wJoined, sNext, sSeq, sDrop, sRet, sRetN, sIf, sAsg, sPar, wOp, wVar, wC, wUn, wCons, wNil, wCB, wCall, wMake, wMakeSw, wCallSw, wProp, wFld, oI, oI0, oU, wTest, wAnd, wOr, wNot, wAndV, wOrV, wNotV, wIf, wTup, wLst, wLstM, gwName, gwNil, gwCons, gwTup, gwSub, oIx, oInt1, oAbsI, oLen, oGcd, oDivmod, oMax2, oMin2, oIsi, tyOf, clOf, kt_ii, kt_ib, kt_rr, kt_ir, kt_ri, kt_rb, kt_ni, kt_bi, kt_bb, kt_si, kt_ti, kt_li, kt_di, kt_nr, kt_br, kt_sr, kt_tr, kt_lr, kt_dr, oStrI, if_t1, if_f1, Bool.not_true, Bool.not_false, rt, startD, List.map_cons, List.map_nil, List.length_cons, List.length_nil, List.cons_append, List.nil_append, List.getElem?_cons_zero, List.getElem?_cons_succ, List.set_cons_zero, List.set_cons_succ, List.replicate, Nat.reduceAdd, Nat.reduceSub, Nat.zero_add, Nat.sub_self, Nat.add_sub_cancel, lk_top, lk_bot, w1, w2, numD_int, numD_ins, w_is_int, w_is_number, wi_Ratio, w_as_ratio, w_top, w_bottom, w1r, w2r, w_add, w_neg, w_abs]
    exact ⟨cm8 h1 h3, cm8 h2 h4, ⟨z.2.1, nmono z.2.2 (by decide)⟩, h⟩
def w_rmul : WF := w2r fun p q S Q => (Sz 2000 p ∧ Sz 2000 q) ∧ Q (rt (mulR p q)) S
theorem sc_R_rmul : FnScope ["self", "other"] ["self", "other"] (defScope s_R_rmul) := ⟨rfl, rfl, rfl, by decide +kernel, rfl, by decide +kernel, by decide +kernel⟩
theorem ok_R_rmul (T : Tx K mg) : FnOk P w K mg base CX0 7 T.f_R_rmul T.fd_R_rmul ["self", "other"] (spW ⟨K, mg⟩ 2 w_rmul) := by
  refine fnD (k := 6) T.F_R_rmul sc_R_rmul (fun cdv A outer s H E hr => ⟨_, (dss_cons (ds_if (dt_not (dt_val (d_call (ok_is_number T) (hr.mono (by decide)) T.m_is_number T.F_is_number.kp T.b_is_number (da_cons (dv 1) da_nil)))) (dss_one ds_never) dss_nil)
  (dss_one (ds_ret (d_op (OpR.or op_mulW (op_ownB (op := .Mult) T.own T.M_R_mul T.M_R_rmul.at_ (.inr ⟨_, rfl⟩) T.fi_mul T.ri_mul (ok_R_mul T) (hr.mono (by decide)) T.b_R_mul pass0)) (snd_U1 snd_iMul T.g_Ratio) (dv 0) (dv 1)))))⟩) (fun ds S Q hl h => ?_)
  obtain ⟨t, b, y, q, rfl, hq, ⟨sp, sq⟩, h⟩ := two_rat h
  have h1 : t.natAbs < 2 ^ 2000 := sp.2.1
  have h2 : b.natAbs < 2 ^ 2000 := sp.2.2
  have h3 : q.1.natAbs < 2 ^ 2000 := sq.2.1
  have h4 : q.2.natAbs < 2 ^ 2000 := sq.2.2
  rcases num_in hq with ⟨i, rfl, rfl⟩ | ⟨u, d, rfl, rfl⟩
  · simp only [true_and, and_true, oU2, oUn1, oL1, oS1, oR1, oJust, iAdd, iSub, iMul, iFdiv, iMod, iEq, iNe, iLt, iLe, iGt, iGe, iNeg, iAbs, DL.iStr, wFmt, wJs, wJoined, sNext, sSeq, sDrop, sRet, sRetN, sIf, sAsg, sPar, wOp, wVar, wC, wUn, wCons, wNil, wCB, wCall, wMake, wMakeSw, wCallSw, wProp, wFld, oI, oI0, oU, wTest, wAnd, wOr, wNot, wAndV, wOrV, wNotV, wIf, wTup, wLst, wLstM, gwName, gwNil, gwCons, gwTup, gwSub, oIx, oInt1, oAbsI, oLen, oGcd, oDivmod, oMax2, oMin2, oIsi, tyOf, clOf, kt_ii, kt_ib, kt_rr, kt_ir, kt_ri, kt_rb, kt_ni, kt_bi, kt_bb, kt_si, kt_ti, kt_li, kt_di, kt_nr, kt_br, kt_sr, kt_tr, kt_lr, kt_dr, oStrI, if_t1, if_f1, Bool.not_true, Bool.not_false, rt, startD, List.map_cons, List.map_nil, List.length_cons, List.length_nil, List.cons_append, List.nil_append, List.getElem?_cons_zero, List.getElem?_cons_succ, List.set_cons_zero, List.set_cons_succ, List.replicate, Nat.reduceAdd, Nat.reduceSub, Nat.zero_add, Nat.sub_self, Nat.add_sub_cancel, lk_top, lk_bot, w1, w2, numD_int, numD_ins, w_is_int, w_is_number, wi_Ratio, w_as_ratio, w_top, w_bottom, w1r, w2r, w_add, w_neg, w_abs, w_sub, w_mul, w_radd, w_rsub]
    exact ⟨⟨sp, sq⟩, h⟩
  · simp only [true_and, and_true, oU2, oUn1, oL1, oS1, oR1, oJust, iAdd, iSub, iMul, iFdiv, iMod, iEq, iNe, iLt, iLe, iGt, iGe, iNeg, iAbs, DL.iStr, wFmt, wJs, wJoined, sNext, sSeq, sDrop, sRet, sRetN, sIf, sAsg, sPar, wOp, wVar, wC, wUn, wCons, wNil, wCB, wCall, wMake, wMakeSw, wCallSw, wProp, wFld, oI, oI0, oU, wTest, wAnd, wOr, wNot, wAndV, wOrV, wNotV, wIf, wTup, wLst, wLstM, gwName, gwNil, gwCons, gwTup, gwSub, oIx, oInt1, oAbsI, oLen, oGcd, oDivmod, oMax2, oMin2, oIsi, tyOf, clOf, kt_ii, kt_ib, kt_rr, kt_ir, kt_ri, kt_rb, kt_ni, kt_bi, kt_bb, kt_si, kt_ti, kt_li, kt_di, kt_nr, kt_br, kt_sr, kt_tr, kt_lr, kt_dr, oStrI, if_t1, if_f1, Bool.not_true, Bool.not_false, rt, startD, List.map_cons, List.map_nil, List.length_cons, List.length_nil, List.cons_append, List.nil_append, List.getElem?_cons_zero, List.getElem?_cons_succ, List.set_cons_zero, List.set_cons_succ, List.replicate, Nat.reduceAdd, Nat.reduceSub, Nat.zero_add, Nat.sub_self, Nat.add_sub_cancel, lk_top, lk_bot, w1, w2, numD_int, numD_ins, w_is_int, w_is_number, wi_Ratio, w_as_ratio, w_top, w_bottom, w1r, w2r, w_add, w_neg, w_abs, w_sub, w_mul, w_radd, w_rsub]
    exact ⟨⟨sp, sq⟩, h⟩
def w_floordiv : WF := w2r fun p q S Q => (Sz 2000 p ∧ Sz 2000 q ∧ q.1 ≠ 0) ∧ Q (.int (fdR p q)) S
theorem sc_R_floordiv : FnScope ["self", "other", "right"] ["self", "other"] (defScope s_R_floordiv) := ⟨rfl, rfl, rfl, by decide +kernel, rfl, by decide +kernel, by decide +kernel⟩
theorem ok_R_floordiv (T : Tx K mg) : FnOk P w K mg base CX0 6 T.f_R_floordiv T.fd_R_floordiv ["self", "other"] (spW ⟨K, mg⟩ 2 w_floordiv) := by
  refine fnD (k := 5) T.F_R_floordiv sc_R_floordiv (fun cdv A outer s H E hr => ⟨_, (dss_cons (ds_if (dt_not (dt_val (d_call (ok_is_number T) (hr.mono (by decide)) T.m_is_number T.F_is_number.kp T.b_is_number (da_cons (dv 1) da_nil)))) (dss_one ds_never) dss_nil)
  (dss_cons (ds_set (i := 2) sc_R_floordiv.nd (d_call (ok_as_ratio T) (hr.mono (by decide)) T.m_as_ratio T.F_as_ratio.kp T.b_as_ratio (da_cons (dv 1) da_nil)))
  (dss_cons (ds_if (dt_cmp op_eq snd_iEq (d_prop (dv 2) T.g_Ratio T.cl T.p_top (ok_R_top T) (hr.mono (by decide)) T.b_R_top) d_int (nomark _)) (dss_one ds_never) dss_nil)
  (dss_one (ds_ret (d_op op_fdivWN snd_iFdiv (d_op op_mulW snd_iMul (d_fld (dv 0) T.g_Ratio T.cl T.na_top) (d_prop (dv 2) T.g_Ratio T.cl T.p_bottom (ok_R_bottom T) (hr.mono (by decide)) T.b_R_bottom)) (d_op op_mulW snd_iMul (d_fld (dv 0) T.g_Ratio T.cl T.na_bottom) (d_prop (dv 2) T.g_Ratio T.cl T.p_top (ok_R_top T) (hr.mono (by decide)) T.b_R_top))))))))⟩) (fun ds S Q hl h => ?_)
  obtain ⟨t, b, y, q, rfl, hq, ⟨sp, sq, nz⟩, h⟩ := two_rat h
  have h1 : t.natAbs < 2 ^ 2000 := sp.2.1
  have h2 : b.natAbs < 2 ^ 2000 := sp.2.2
  have h3 : q.1.natAbs < 2 ^ 2000 := sq.2.1
  have h4 : q.2.natAbs < 2 ^ 2000 := sq.2.2
  have nz2 : b * q.1 ≠ 0 := Int.mul_ne_zero (by have : 0 < b := sp.1; omega) nz
  have hd : CDivWN (t * q.2) (b * q.1) := ⟨nz2, lt_log2 (by decide) (nmono (nmul h2 h3) (by decide))⟩
  have e0 : decide (q.1 = 0) = false := decide_eq_false nz
  rcases num_in hq with ⟨i, rfl, rfl⟩ | ⟨u, d, rfl, rfl⟩
  · have e0 : decide (i = 0) = false := e0
    simp only [true_and, and_true, oU2, oUn1, oL1, oS1, oR1, oJust, iAdd, iSub, iMul, iFdiv, iMod, iEq, iNe, iLt, iLe, iGt, iGe, iNeg, iAbs, DL.iStr, wFmt, wJs, wJoined, sNext, sSeq, sDrop, sRet, sRetN, sIf, sAsg, sPar, wOp, wVar, wC, wUn, wCons, wNil, wCB, wCall, wMake, wMakeSw, wCallSw, wProp, wFld, oI, oI0, oU, wTest, wAnd, wOr, wNot, wAndV, wOrV, wNotV, wIf, wTup, wLst, wLstM, gwName, gwNil, gwCons, gwTup, gwSub, oIx, oInt1, oAbsI, oLen, oGcd, oDivmod, oMax2, oMin2, oIsi, tyOf, clOf, kt_ii, kt_ib, kt_rr, kt_ir, kt_ri, kt_rb, kt_ni, kt_bi, kt_bb, kt_si, kt_ti, kt_li, kt_di, kt_nr, kt_br, kt_sr, kt_tr, kt_lr, kt_dr, oStrI, if_t1, if_f1, Bool.not_true, Bool.not_false, rt, startD, List.map_cons, List.map_nil, List.length_cons, List.length_nil, List.cons_append, List.nil_append, List.getElem?_cons_zero, List.getElem?_cons_succ, List.set_cons_zero, List.set_cons_succ, List.replicate, Nat.reduceAdd, Nat.reduceSub, Nat.zero_add, Nat.sub_self, Nat.add_sub_cancel, lk_top, lk_bot, w1, w2, numD_int, numD_ins, w_is_int, w_is_number, wi_Ratio, w_as_ratio, w_top, w_bottom, w1r, w2r, w_add, w_neg, w_abs, w_sub, w_mul, w_radd, w_rsub]
    rw [e0]
    simp only [true_and, and_true, oU2, oUn1, oL1, oS1, oR1, oJust, iAdd, iSub, iMul, iFdiv, iMod, iEq, iNe, iLt, iLe, iGt, iGe, iNeg, iAbs, DL.iStr, wFmt, wJs, wJoined, sNext, sSeq, sDrop, sRet, sRetN, sIf, sAsg, sPar, wOp, wVar, wC, wUn, wCons, wNil, wCB, wCall, wMake, wMakeSw, wCallSw, wProp, wFld, oI, oI0, oU, wTest, wAnd, wOr, wNot, wAndV, wOrV, wNotV, wIf, wTup, wLst, wLstM, gwName, gwNil, gwCons, gwTup, gwSub, oIx, oInt1, oAbsI, oLen, oGcd, oDivmod, oMax2, oMin2, oIsi, tyOf, clOf, kt_ii, kt_ib, kt_rr, kt_ir, kt_ri, kt_rb, kt_ni, kt_bi, kt_bb, kt_si, kt_ti, kt_li, kt_di, kt_nr, kt_br, kt_sr, kt_tr, kt_lr, kt_dr, oStrI, if_t1, if_f1, Bool.not_true, Bool.not_false, rt, startD, List.map_cons, List.map_nil, List.length_cons, List.length_nil, List.cons_append, List.nil_append, List.getElem?_cons_zero, List.getElem?_cons_succ, List.set_cons_zero, List.set_cons_succ, List.replicate, Nat.reduceAdd, Nat.reduceSub, Nat.zero_add, Nat.sub_self, Nat.add_sub_cancel, lk_top, lk_bot, w1, w2, numD_int, numD_ins, w_is_int, w_is_number, wi_Ratio, w_as_ratio, w_top, w_bottom, w1r, w2r, w_add, w_neg, w_abs, w_sub, w_mul, w_radd, w_rsub]
    exact ⟨cm8 h1 h4, cm8 h2 h3, hd, h⟩
  · have e0 : decide (u = 0) = false := e0
    simp only [true_and, and_true, oU2, oUn1, oL1, oS1, oR1, oJust, iAdd, iSub, iMul, iFdiv, iMod, iEq, iNe, iLt, iLe, iGt, iGe, iNeg, iAbs, DL.iStr, wFmt, wJs, wJoined, sNext, sSeq, sDrop, sRet, sRetN, sIf, sAsg, sPar, wOp, wVar, wC, wUn, wCons, wNil, wCB, wCall, wMake, wMakeSw, wCallSw, wProp, wFld, oI, oI0, oU, wTest, wAnd, wOr, wNot, wAndV, wOrV, wNotV, wIf, wTup, wLst, wLstM, gwName, gwNil, gwCons, gwTup, gwSub, oIx, oInt1, oAbsI, oLen, oGcd, oDivmod, oMax2, oMin2, oIsi, tyOf, clOf, kt_ii, kt_ib, kt_rr, kt_ir, kt_ri, kt_rb, kt_ni, kt_bi, kt_bb, kt_si, kt_ti, kt_li, kt_di, kt_nr, kt_br, kt_sr, kt_tr, kt_lr, kt_dr, oStrI, if_t1, if_f1, Bool.not_true, Bool.not_false, rt, startD, List.map_cons, List.map_nil, List.length_cons, List.length_nil, List.cons_append, List.nil_append, List.getElem?_cons_zero, List.getElem?_cons_succ, List.set_cons_zero, List.set_cons_succ, List.replicate, Nat.reduceAdd, Nat.reduceSub, Nat.zero_add, Nat.sub_self, Nat.add_sub_cancel, lk_top, lk_bot, w1, w2, numD_int, numD_ins, w_is_int, w_is_number, wi_Ratio, w_as_ratio, w_top, w_bottom, w1r, w2r, w_add, w_neg, w_abs, w_sub, w_mul, w_radd, w_rsub]
    rw [e0]
    simp only [true_and, and_true, oU2, oUn1, oL1, oS1, oR1, oJust, iAdd, iSub, iMul, iFdiv, iMod, iEq, iNe, iLt, iLe, iGt, iGe, iNeg, iAbs, DL.iStr, wFmt, wJs, wJoined, sNext, sSeq, sDrop, sRet, sRetN, sIf, sAsg, sPar, wOp, wVar, wC, wUn, wCons, wNil, wCB, wCall, wMake, wMakeSw, wCallSw, wProp, wFld, oI, oI0, oU, wTest, wAnd, wOr, wNot, wAndV, wOrV, wNotV, wIf, wTup, wLst, wLstM, gwName, gwNil, gwCons, gwTup, gwSub, oIx, oInt1, oAbsI, oLen, oGcd, oDivmod, oMax2, oMin2, oIsi, tyOf, clOf, kt_ii, kt_ib, kt_rr, kt_ir, kt_ri, kt_rb, kt_ni, kt_bi, kt_bb, kt_si, kt_ti, kt_li, kt_di, kt_nr, kt_br, kt_sr, kt_tr, kt_lr, kt_dr, oStrI, if_t1, if_f1, Bool.not_true, Bool.not_false, rt, startD, List.map_cons, List.map_nil, List.length_cons, List.length_nil, List.cons_append, List.nil_append, List.getElem?_cons_zero, List.getElem?_cons_succ, List.set_cons_zero, List.set_cons_succ, List.replicate, Nat.reduceAdd, Nat.reduceSub, Nat.zero_add, Nat.sub_self, Nat.add_sub_cancel, lk_top, lk_bot, w1, w2, numD_int, numD_ins, w_is_int, w_is_number, wi_Ratio, w_as_ratio, w_top, w_bottom, w1r, w2r, w_add, w_neg, w_abs, w_sub, w_mul, w_radd, w_rsub]
    exact ⟨cm8 h1 h4, cm8 h2 h3, hd, h⟩
def w_rfloordiv : WF := w2r fun p q S Q => (Sz 2000 p ∧ Sz 2000 q ∧ p.1 ≠ 0) ∧ Q (.int (fdR q p)) S
theorem sc_R_rfloordiv : FnScope ["self", "other"] ["self", "other"] (defScope s_R_rfloordiv) := ⟨rfl, rfl, rfl, by decide +kernel, rfl, by decide +kernel, by decide +kernel⟩
theorem ok_R_rfloordiv (T : Tx K mg) : FnOk P w K mg base CX0 7 T.f_R_rfloordiv T.fd_R_rfloordiv ["self", "other"] (spW ⟨K, mg⟩ 2 w_rfloordiv) := by
  refine fnD (k := 6) T.F_R_rfloordiv sc_R_rfloordiv (fun cdv A outer s H E hr => ⟨_, (dss_cons (ds_if (dt_not (dt_val (d_call (ok_is_number T) (hr.mono (by decide)) T.m_is_number T.F_is_number.kp T.b_is_number (da_cons (dv 1) da_nil)))) (dss_one ds_never) dss_nil)
  (dss_one (ds_ret (d_op (OpR.or op_fdivWN (op_ownB (op := .FloorDiv) T.own T.M_R_floordiv T.M_R_rfloordiv.at_ (.inr ⟨_, rfl⟩) T.fi_floordiv T.ri_floordiv (ok_R_floordiv T) (hr.mono (by decide)) T.b_R_floordiv pass0)) (snd_U1 snd_iFdiv T.g_Ratio) (d_call (ok_as_ratio T) (hr.mono (by decide)) T.m_as_ratio T.F_as_ratio.kp T.b_as_ratio (da_cons (dv 1) da_nil)) (dv 0)))))⟩) (fun ds S Q hl h => ?_)
  obtain ⟨t, b, y, q, rfl, hq, ⟨sp, sq, nz⟩, h⟩ := two_rat h
  have h1 : t.natAbs < 2 ^ 2000 := sp.2.1
  have h2 : b.natAbs < 2 ^ 2000 := sp.2.2
  have h3 : q.1.natAbs < 2 ^ 2000 := sq.2.1
  have h4 : q.2.natAbs < 2 ^ 2000 := sq.2.2
  rcases num_in hq with ⟨i, rfl, rfl⟩ | ⟨u, d, rfl, rfl⟩
  · simp only [true_and, and_true, oU2, oUn1, oL1, oS1, oR1, oJust, iAdd, iSub, iMul, iFdiv, iMod, iEq, iNe, iLt, iLe, iGt, iGe, iNeg, iAbs, DL.iStr, wFmt, wJs, wJoined, sNext, sSeq, sDrop, sRet, sRetN, sIf, sAsg, sPar, wOp, wVar, wC, wUn, wCons, wNil, wCB, wCall, wMake, wMakeSw, wCallSw, wProp, wFld, oI, oI0, oU, wTest, wAnd, wOr, wNot, wAndV, wOrV, wNotV, wIf, wTup, wLst, wLstM, gwName, gwNil, gwCons, gwTup, gwSub, oIx, oInt1, oAbsI, oLen, oGcd, oDivmod, oMax2, oMin2, oIsi, tyOf, clOf, kt_ii, kt_ib, kt_rr, kt_ir, kt_ri, kt_rb, kt_ni, kt_bi, kt_bb, kt_si, kt_ti, kt_li, kt_di, kt_nr, kt_br, kt_sr, kt_tr, kt_lr, kt_dr, oStrI, if_t1, if_f1, Bool.not_true, Bool.not_false, rt, startD, List.map_cons, List.map_nil, List.length_cons, List.length_nil, List.cons_append, List.nil_append, List.getElem?_cons_zero, List.getElem?_cons_succ, List.set_cons_zero, List.set_cons_succ, List.replicate, Nat.reduceAdd, Nat.reduceSub, Nat.zero_add, Nat.sub_self, Nat.add_sub_cancel, lk_top, lk_bot, w1, w2, numD_int, numD_ins, w_is_int, w_is_number, wi_Ratio, w_as_ratio, w_top, w_bottom, w1r, w2r, w_add, w_neg, w_abs, w_sub, w_mul, w_radd, w_rsub, w_rmul, w_floordiv]
    exact ⟨⟨sq, sp, nz⟩, h⟩
  · simp only [true_and, and_true, oU2, oUn1, oL1, oS1, oR1, oJust, iAdd, iSub, iMul, iFdiv, iMod, iEq, iNe, iLt, iLe, iGt, iGe, iNeg, iAbs, DL.iStr, wFmt, wJs, wJoined, sNext, sSeq, sDrop, sRet, sRetN, sIf, sAsg, sPar, wOp, wVar, wC, wUn, wCons, wNil, wCB, wCall, wMake, wMakeSw, wCallSw, wProp, wFld, oI, oI0, oU, wTest, wAnd, wOr, wNot, wAndV, wOrV, wNotV, wIf, wTup, wLst, wLstM, gwName, gwNil, gwCons, gwTup, gwSub, oIx, oInt1, oAbsI, oLen, oGcd, oDivmod, oMax2, oMin2, oIsi, tyOf, clOf, kt_ii, kt_ib, kt_rr, kt_ir, kt_ri, kt_rb, kt_ni, kt_bi, kt_bb, kt_si, kt_ti, kt_li, kt_di, kt_nr, kt_br, kt_sr, kt_tr, kt_lr, kt_dr, oStrI, if_t1, if_f1, Bool.not_true, Bool.not_false, rt, startD, List.map_cons, List.map_nil, List.length_cons, List.length_nil, List.cons_append, List.nil_append, List.getElem?_cons_zero, List.getElem?_cons_succ, List.set_cons_zero, List.set_cons_succ, List.replicate, Nat.reduceAdd, Nat.reduceSub, Nat.zero_add, Nat.sub_self, Nat.add_sub_cancel, lk_top, lk_bot, w1, w2, numD_int, numD_ins, w_is_int, w_is_number, wi_Ratio, w_as_ratio, w_top, w_bottom, w1r, w2r, w_add, w_neg, w_abs, w_sub, w_mul, w_radd, w_rsub, w_rmul, w_floordiv]
    exact ⟨⟨sq, sp, nz⟩, h⟩
theorem fdiv_le (a b : Int) : (a.fdiv b).natAbs ≤ a.natAbs := by
  rcases Int.lt_trichotomy b 0 with h | h | h
  · rw [← Int.neg_fdiv_neg, Int.fdiv_eq_ediv_of_nonneg _ (by omega)]
    exact Nat.le_trans (natAbs_div_le _ _) (by rw [Int.natAbs_neg]; exact Nat.le_refl _)
  · subst h
    simp
  · rw [Int.fdiv_eq_ediv_of_nonneg _ (by omega)]
    exact natAbs_div_le _ _
theorem fdR_sz {p q : Int × Int} {n : Nat} (hp : Sz n p) (hq : Sz n q) : (fdR p q).natAbs < 2 ^ (n + n) := Nat.lt_of_le_of_lt (fdiv_le _ _) (nmul hp.2.1 hq.2.2)

def w_mod : WF := w2r fun p q S Q => (Sz 450 p ∧ Sz 450 q ∧ q.1 ≠ 0) ∧ Q (rt (modR p q)) S
theorem sc_R_mod : FnScope ["self", "other"] ["self", "other"] (defScope s_R_mod) := ⟨rfl, rfl, rfl, by decide +kernel, rfl, by decide +kernel, by decide +kernel⟩
theorem ok_R_mod (T : Tx K mg) : FnOk P w K mg base CX0 8 T.f_R_mod T.fd_R_mod ["self", "other"] (spW ⟨K, mg⟩ 2 w_mod) := by
  refine fnD (k := 7) T.F_R_mod sc_R_mod (fun cdv A outer s H E hr => ⟨_, (dss_cons (ds_if (dt_not (dt_val (d_call (ok_is_number T) (hr.mono (by decide)) T.m_is_number T.F_is_number.kp T.b_is_number (da_cons (dv 1) da_nil)))) (dss_one ds_never) dss_nil)
  (dss_one (ds_ret (d_op (OpR.or op_sub (op_ownB (op := .Sub) T.own T.M_R_sub T.M_R_rsub.at_ (.inr ⟨_, rfl⟩) T.fi_sub T.ri_sub (ok_R_sub T) (hr.mono (by decide)) T.b_R_sub pass0)) (snd_U1 snd_iSub T.g_Ratio) (dv 0) (d_op (OpR.or op_mulW (op_ownB (op := .Mult) T.own T.M_R_mul T.M_R_rmul.at_ (.inr ⟨_, rfl⟩) T.fi_mul T.ri_mul (ok_R_mul T) (hr.mono (by decide)) T.b_R_mul pass0)) (snd_U1 snd_iMul T.g_Ratio) (dv 1) (d_op (OpR.or op_fdivWN (op_ownB (op := .FloorDiv) T.own T.M_R_floordiv T.M_R_rfloordiv.at_ (.inr ⟨_, rfl⟩) T.fi_floordiv T.ri_floordiv (ok_R_floordiv T) (hr.mono (by decide)) T.b_R_floordiv pass0)) (snd_U1 snd_iFdiv T.g_Ratio) (dv 0) (dv 1)))))))⟩) (fun ds S Q hl h => ?_)
  obtain ⟨t, b, y, q, rfl, hq, ⟨sp0, sq0, nz⟩, h⟩ := two_rat h
  have sp : Sz 2000 (t, b) := sp0.mono (by decide)
  have sq : Sz 2000 q := sq0.mono (by decide)
  have sf : (fdR (t, b) q).natAbs < 2 ^ 900 := fdR_sz sp0 sq0
  have s1 : Sz 2000 (fdR (t, b) q, 1) := (Sz.one (by decide) sf).mono (by decide)
  have sm : Sz 2000 (mulR q (fdR (t, b) q, 1)) := (mkR_sz (n := 1800) (sz_mul (sq0.mono (by decide)) (Sz.one (n := 900) (by decide) sf)).2.1 (sz_mul (sq0.mono (by decide)) (Sz.one (n := 900) (by decide) sf)).1 (sz_mul (sq0.mono (by decide)) (Sz.one (n := 900) (by decide) sf)).2.2).mono (by decide)
  have h : Q (rt (subR (t, b) (mulR q (fdR (t, b) q, 1)))) S := h
  rcases num_in hq with ⟨i, rfl, rfl⟩ | ⟨u, d, rfl, rfl⟩
  · rw [mulR_int] at h sm
    simp only [true_and, and_true, oU2, oUn1, oL1, oS1, oR1, oJust, iAdd, iSub, iMul, iFdiv, iMod, iEq, iNe, iLt, iLe, iGt, iGe, iNeg, iAbs, DL.iStr, wFmt, wJs, wJoined, sNext, sSeq, sDrop, sRet, sRetN, sIf, sAsg, sPar, wOp, wVar, wC, wUn, wCons, wNil, wCB, wCall, wMake, wMakeSw, wCallSw, wProp, wFld, oI, oI0, oU, wTest, wAnd, wOr, wNot, wAndV, wOrV, wNotV, wIf, wTup, wLst, wLstM, gwName, gwNil, gwCons, gwTup, gwSub, oIx, oInt1, oAbsI, oLen, oGcd, oDivmod, oMax2, oMin2, oIsi, tyOf, clOf, kt_ii, kt_ib, kt_rr, kt_ir, kt_ri, kt_rb, kt_ni, kt_bi, kt_bb, kt_si, kt_ti, kt_li, kt_di, kt_nr, kt_br, kt_sr, kt_tr, kt_lr, kt_dr, oStrI, if_t1, if_f1, Bool.not_true, Bool.not_false, rt, startD, List.map_cons, List.map_nil, List.length_cons, List.length_nil, List.cons_append, List.nil_append, List.getElem?_cons_zero, List.getElem?_cons_succ, List.set_cons_zero, List.set_cons_succ, List.replicate, Nat.reduceAdd, Nat.reduceSub, Nat.zero_add, Nat.sub_self, Nat.add_sub_cancel, lk_top, lk_bot, w1, w2, numD_int, numD_ins, w_is_int, w_is_number, wi_Ratio, w_as_ratio, w_top, w_bottom, w1r, w2r, w_add, w_neg, w_abs, w_sub, w_mul, w_radd, w_rsub, w_rmul, w_floordiv, w_rfloordiv]
    exact ⟨⟨sp, sq, nz⟩, wide_mul sq.2.1 sf (by decide) (by decide) (by decide), ⟨sp, sm⟩, h⟩
  · simp only [true_and, and_true, oU2, oUn1, oL1, oS1, oR1, oJust, iAdd, iSub, iMul, iFdiv, iMod, iEq, iNe, iLt, iLe, iGt, iGe, iNeg, iAbs, DL.iStr, wFmt, wJs, wJoined, sNext, sSeq, sDrop, sRet, sRetN, sIf, sAsg, sPar, wOp, wVar, wC, wUn, wCons, wNil, wCB, wCall, wMake, wMakeSw, wCallSw, wProp, wFld, oI, oI0, oU, wTest, wAnd, wOr, wNot, wAndV, wOrV, wNotV, wIf, wTup, wLst, wLstM, gwName, gwNil, gwCons, gwTup, gwSub, oIx, oInt1, oAbsI, oLen, oGcd, oDivmod, oMax2, oMin2, oIsi, tyOf, clOf, kt_ii, kt_ib, kt_rr, kt_ir, kt_ri, kt_rb, kt_ni, kt_bi, kt_bb, kt_si, kt_ti, kt_li, kt_di, kt_nr, kt_br, kt_sr, kt_tr, kt_lr, kt_dr, oStrI, if_t1, if_f1, Bool.not_true, Bool.not_false, rt, startD, List.map_cons, List.map_nil, List.length_cons, List.length_nil, List.cons_append, List.nil_append, List.getElem?_cons_zero, List.getElem?_cons_succ, List.set_cons_zero, List.set_cons_succ, List.replicate, Nat.reduceAdd, Nat.reduceSub, Nat.zero_add, Nat.sub_self, Nat.add_sub_cancel, lk_top, lk_bot, w1, w2, numD_int, numD_ins, w_is_int, w_is_number, wi_Ratio, w_as_ratio, w_top, w_bottom, w1r, w2r, w_add, w_neg, w_abs, w_sub, w_mul, w_radd, w_rsub, w_rmul, w_floordiv, w_rfloordiv]
    exact ⟨⟨sp, sq, nz⟩, ⟨sq, s1⟩, ⟨sp, sm⟩, h⟩
def w_rmod : WF := w2r fun p q S Q => (Sz 450 p ∧ Sz 450 q ∧ p.1 ≠ 0) ∧ Q (rt (modR q p)) S
theorem sc_R_rmod : FnScope ["self", "other"] ["self", "other"] (defScope s_R_rmod) := ⟨rfl, rfl, rfl, by decide +kernel, rfl, by decide +kernel, by decide +kernel⟩
theorem ok_R_rmod (T : Tx K mg) : FnOk P w K mg base CX0 8 T.f_R_rmod T.fd_R_rmod ["self", "other"] (spW ⟨K, mg⟩ 2 w_rmod) := by
  refine fnD (k := 7) T.F_R_rmod sc_R_rmod (fun cdv A outer s H E hr => ⟨_, (dss_cons (ds_if (dt_not (dt_val (d_call (ok_is_number T) (hr.mono (by decide)) T.m_is_number T.F_is_number.kp T.b_is_number (da_cons (dv 1) da_nil)))) (dss_one ds_never) dss_nil)
  (dss_one (ds_ret (d_op (OpR.or op_sub (op_ownB (op := .Sub) T.own T.M_R_sub T.M_R_rsub.at_ (.inr ⟨_, rfl⟩) T.fi_sub T.ri_sub (ok_R_sub T) (hr.mono (by decide)) T.b_R_sub pass0)) (snd_U1 snd_iSub T.g_Ratio) (d_call (ok_as_ratio T) (hr.mono (by decide)) T.m_as_ratio T.F_as_ratio.kp T.b_as_ratio (da_cons (dv 1) da_nil)) (d_op (OpR.or op_mulW (op_ownB (op := .Mult) T.own T.M_R_mul T.M_R_rmul.at_ (.inr ⟨_, rfl⟩) T.fi_mul T.ri_mul (ok_R_mul T) (hr.mono (by decide)) T.b_R_mul pass0)) (snd_U1 snd_iMul T.g_Ratio) (dv 0) (d_op (OpR.or op_fdivWN (OpR.or (op_ownB (op := .FloorDiv) T.own T.M_R_floordiv T.M_R_rfloordiv.at_ (.inr ⟨_, rfl⟩) T.fi_floordiv T.ri_floordiv (ok_R_floordiv T) (hr.mono (by decide)) T.b_R_floordiv pass0) (op_ownI (op := .FloorDiv) T.own T.M_R_floordiv T.M_R_rfloordiv PySem.F.slot_int_floordiv PySem.F.fills_int_floordiv (fun Q' h1 h2 q => dec_floordiv Q' h1 h2 q) (ok_R_rfloordiv T) (hr.mono (by decide)) T.b_R_rfloordiv pass0))) (snd_U2 snd_iFdiv T.g_Ratio) (dv 1) (dv 0)))))))⟩) (fun ds S Q hl h => ?_)
  obtain ⟨t, b, y, q, rfl, hq, ⟨sp0, sq0, nz⟩, h⟩ := two_rat h
  have sp : Sz 2000 (t, b) := sp0.mono (by decide)
  have sq : Sz 2000 q := sq0.mono (by decide)
  have sf : (fdR q (t, b)).natAbs < 2 ^ 900 := fdR_sz sq0 sp0
  have s1 : Sz 2000 (fdR q (t, b), 1) := (Sz.one (by decide) sf).mono (by decide)
  have sm : Sz 2000 (mulR (t, b) (fdR q (t, b), 1)) := (mkR_sz (n := 1800) (sz_mul (sp0.mono (by decide)) (Sz.one (n := 900) (by decide) sf)).2.1 (sz_mul (sp0.mono (by decide)) (Sz.one (n := 900) (by decide) sf)).1 (sz_mul (sp0.mono (by decide)) (Sz.one (n := 900) (by decide) sf)).2.2).mono (by decide)
  have h : Q (rt (subR q (mulR (t, b) (fdR q (t, b), 1)))) S := h
  rcases num_in hq with ⟨i, rfl, rfl⟩ | ⟨u, d, rfl, rfl⟩
  · simp only [true_and, and_true, oU2, oUn1, oL1, oS1, oR1, oJust, iAdd, iSub, iMul, iFdiv, iMod, iEq, iNe, iLt, iLe, iGt, iGe, iNeg, iAbs, DL.iStr, wFmt, wJs, wJoined, sNext, sSeq, sDrop, sRet, sRetN, sIf, sAsg, sPar, wOp, wVar, wC, wUn, wCons, wNil, wCB, wCall, wMake, wMakeSw, wCallSw, wProp, wFld, oI, oI0, oU, wTest, wAnd, wOr, wNot, wAndV, wOrV, wNotV, wIf, wTup, wLst, wLstM, gwName, gwNil, gwCons, gwTup, gwSub, oIx, oInt1, oAbsI, oLen, oGcd, oDivmod, oMax2, oMin2, oIsi, tyOf, clOf, kt_ii, kt_ib, kt_rr, kt_ir, kt_ri, kt_rb, kt_ni, kt_bi, kt_bb, kt_si, kt_ti, kt_li, kt_di, kt_nr, kt_br, kt_sr, kt_tr, kt_lr, kt_dr, oStrI, if_t1, if_f1, Bool.not_true, Bool.not_false, rt, startD, List.map_cons, List.map_nil, List.length_cons, List.length_nil, List.cons_append, List.nil_append, List.getElem?_cons_zero, List.getElem?_cons_succ, List.set_cons_zero, List.set_cons_succ, List.replicate, Nat.reduceAdd, Nat.reduceSub, Nat.zero_add, Nat.sub_self, Nat.add_sub_cancel, lk_top, lk_bot, w1, w2, numD_int, numD_ins, w_is_int, w_is_number, wi_Ratio, w_as_ratio, w_top, w_bottom, w1r, w2r, w_add, w_neg, w_abs, w_sub, w_mul, w_radd, w_rsub, w_rmul, w_floordiv, w_rfloordiv]
    exact ⟨⟨sp, sq, nz⟩, ⟨sp, s1⟩, ⟨sq, sm⟩, h⟩
  · simp only [true_and, and_true, oU2, oUn1, oL1, oS1, oR1, oJust, iAdd, iSub, iMul, iFdiv, iMod, iEq, iNe, iLt, iLe, iGt, iGe, iNeg, iAbs, DL.iStr, wFmt, wJs, wJoined, sNext, sSeq, sDrop, sRet, sRetN, sIf, sAsg, sPar, wOp, wVar, wC, wUn, wCons, wNil, wCB, wCall, wMake, wMakeSw, wCallSw, wProp, wFld, oI, oI0, oU, wTest, wAnd, wOr, wNot, wAndV, wOrV, wNotV, wIf, wTup, wLst, wLstM, gwName, gwNil, gwCons, gwTup, gwSub, oIx, oInt1, oAbsI, oLen, oGcd, oDivmod, oMax2, oMin2, oIsi, tyOf, clOf, kt_ii, kt_ib, kt_rr, kt_ir, kt_ri, kt_rb, kt_ni, kt_bi, kt_bb, kt_si, kt_ti, kt_li, kt_di, kt_nr, kt_br, kt_sr, kt_tr, kt_lr, kt_dr, oStrI, if_t1, if_f1, Bool.not_true, Bool.not_false, rt, startD, List.map_cons, List.map_nil, List.length_cons, List.length_nil, List.cons_append, List.nil_append, List.getElem?_cons_zero, List.getElem?_cons_succ, List.set_cons_zero, List.set_cons_succ, List.replicate, Nat.reduceAdd, Nat.reduceSub, Nat.zero_add, Nat.sub_self, Nat.add_sub_cancel, lk_top, lk_bot, w1, w2, numD_int, numD_ins, w_is_int, w_is_number, wi_Ratio, w_as_ratio, w_top, w_bottom, w1r, w2r, w_add, w_neg, w_abs, w_sub, w_mul, w_radd, w_rsub, w_rmul, w_floordiv, w_rfloordiv]
    exact ⟨⟨sq, sp, nz⟩, ⟨sp, s1⟩, ⟨sq, sm⟩, h⟩
theorem str_len {a : Int} (h : a.natAbs.log2 < 1920) : (Str.ofString (toString a)).length ≤ 5000 := by
  have e := int_text_length_le (k := 1920) (by decide) h
  rw [PySem.ofString_length]
  omega
def txt (i : Int) : Str := Str.ofString (toString i)
def strR (p : Int × Int) : Str := if p.2 = 1 then txt p.1 else Str.empty ++ txt p.1 ++ "/" ++ txt p.2
def reprR (p : Int × Int) : Str := Str.empty ++ "Ratio(" ++ txt p.1 ++ ", " ++ txt p.2 ++ ")"
theorem line5 {n : Nat} (h : n ≤ 16000000) : n ≤ sizeLine := by rw [sizeLine_eq]; omega
theorem len_slash : ("/" : Str).length = 1 := by decide +kernel
theorem len_comma : (", " : Str).length = 2 := by decide +kernel
theorem len_par : (")" : Str).length = 1 := by decide +kernel
theorem len_ratio : ("Ratio(" : Str).length = 6 := by decide +kernel
theorem len_empty : Str.empty.length = 0 := by decide +kernel

def w_str : WF := w1r fun p S Q => (p.1.natAbs.log2 < 1920 ∧ p.2.natAbs.log2 < 1920) ∧ Q (.str (strR p)) S
theorem sc_R_str : FnScope ["self"] ["self"] (defScope s_R_str) := ⟨rfl, rfl, rfl, by decide +kernel, rfl, by decide +kernel, by decide +kernel⟩
theorem ok_R_str (T : Tx K mg) : FnOk P w K mg base CX0 1 T.f_R_str T.fd_R_str ["self"] (spW ⟨K, mg⟩ 1 w_str) := by
  refine fnD (k := 0) T.F_R_str sc_R_str (fun cdv A outer s H E hr => ⟨_, (dss_cons (ds_if (dt_cmp op_eq snd_iEq (d_fld (dv 0) T.g_Ratio T.cl T.na_bottom) d_int (nomark _)) (dss_one (ds_ret (d_callTy call_str_int snd_strI T.z_str (da_cons (d_fld (dv 0) T.g_Ratio T.cl T.na_top) da_nil) (hv := bt_str)))) dss_nil)
  (dss_one (ds_ret (d_joined (PDJ.cons (d_fmt (d_fld (dv 0) T.g_Ratio T.cl T.na_top)) (PDJ.cons d_str (PDJ.cons (d_fmt (d_fld (dv 0) T.g_Ratio T.cl T.na_bottom)) PDJ.nil)))))))⟩) (fun ds S Q hl h => ?_)
  obtain ⟨t, b, rfl, ⟨h1, h2⟩, h⟩ := one_rat h
  have l1 : (Str.ofString (toString t)).length ≤ 5000 := str_len h1
  have l2 : (Str.ofString (toString b)).length ≤ 5000 := str_len h2
  have h : Q (.str (if b = 1 then txt t else Str.empty ++ txt t ++ "/" ++ txt b)) S := h
  simp only [true_and, and_true, oU2, oUn1, oL1, oS1, oR1, oJust, iAdd, iSub, iMul, iFdiv, iMod, iEq, iNe, iLt, iLe, iGt, iGe, iNeg, iAbs, DL.iStr, wFmt, wJs, wJoined, sNext, sSeq, sDrop, sRet, sRetN, sIf, sAsg, sPar, wOp, wVar, wC, wUn, wCons, wNil, wCB, wCall, wMake, wMakeSw, wCallSw, wProp, wFld, oI, oI0, oU, wTest, wAnd, wOr, wNot, wAndV, wOrV, wNotV, wIf, wTup, wLst, wLstM, gwName, gwNil, gwCons, gwTup, gwSub, oIx, oInt1, oAbsI, oLen, oGcd, oDivmod, oMax2, oMin2, oIsi, tyOf, clOf, kt_ii, kt_ib, kt_rr, kt_ir, kt_ri, kt_rb, kt_ni, kt_bi, kt_bb, kt_si, kt_ti, kt_li, kt_di, kt_nr, kt_br, kt_sr, kt_tr, kt_lr, kt_dr, oStrI, if_t1, if_f1, Bool.not_true, Bool.not_false, rt, startD, List.map_cons, List.map_nil, List.length_cons, List.length_nil, List.cons_append, List.nil_append, List.getElem?_cons_zero, List.getElem?_cons_succ, List.set_cons_zero, List.set_cons_succ, List.replicate, Nat.reduceAdd, Nat.reduceSub, Nat.zero_add, Nat.sub_self, Nat.add_sub_cancel, lk_top, lk_bot, w1, w2, numD_int, numD_ins, w_is_int, w_is_number, wi_Ratio, w_as_ratio, w_top, w_bottom, w1r, w2r, w_add, w_neg, w_abs, w_sub, w_mul, w_radd, w_rsub, w_rmul, w_floordiv, w_rfloordiv, w_mod, w_rmod]
  by_cases hb : b = 1
  · rw [if_pos hb] at h
    rw [decide_eq_true hb]
    simp only [true_and, and_true, oU2, oUn1, oL1, oS1, oR1, oJust, iAdd, iSub, iMul, iFdiv, iMod, iEq, iNe, iLt, iLe, iGt, iGe, iNeg, iAbs, DL.iStr, wFmt, wJs, wJoined, sNext, sSeq, sDrop, sRet, sRetN, sIf, sAsg, sPar, wOp, wVar, wC, wUn, wCons, wNil, wCB, wCall, wMake, wMakeSw, wCallSw, wProp, wFld, oI, oI0, oU, wTest, wAnd, wOr, wNot, wAndV, wOrV, wNotV, wIf, wTup, wLst, wLstM, gwName, gwNil, gwCons, gwTup, gwSub, oIx, oInt1, oAbsI, oLen, oGcd, oDivmod, oMax2, oMin2, oIsi, tyOf, clOf, kt_ii, kt_ib, kt_rr, kt_ir, kt_ri, kt_rb, kt_ni, kt_bi, kt_bb, kt_si, kt_ti, kt_li, kt_di, kt_nr, kt_br, kt_sr, kt_tr, kt_lr, kt_dr, oStrI, if_t1, if_f1, Bool.not_true, Bool.not_false, rt, startD, List.map_cons, List.map_nil, List.length_cons, List.length_nil, List.cons_append, List.nil_append, List.getElem?_cons_zero, List.getElem?_cons_succ, List.set_cons_zero, List.set_cons_succ, List.replicate, Nat.reduceAdd, Nat.reduceSub, Nat.zero_add, Nat.sub_self, Nat.add_sub_cancel, lk_top, lk_bot, w1, w2, numD_int, numD_ins, w_is_int, w_is_number, wi_Ratio, w_as_ratio, w_top, w_bottom, w1r, w2r, w_add, w_neg, w_abs, w_sub, w_mul, w_radd, w_rsub, w_rmul, w_floordiv, w_rfloordiv, w_mod, w_rmod]
    exact ⟨h1, h⟩
  · rw [if_neg hb] at h
    rw [decide_eq_false hb]
    simp only [true_and, and_true, oU2, oUn1, oL1, oS1, oR1, oJust, iAdd, iSub, iMul, iFdiv, iMod, iEq, iNe, iLt, iLe, iGt, iGe, iNeg, iAbs, DL.iStr, wFmt, wJs, wJoined, sNext, sSeq, sDrop, sRet, sRetN, sIf, sAsg, sPar, wOp, wVar, wC, wUn, wCons, wNil, wCB, wCall, wMake, wMakeSw, wCallSw, wProp, wFld, oI, oI0, oU, wTest, wAnd, wOr, wNot, wAndV, wOrV, wNotV, wIf, wTup, wLst, wLstM, gwName, gwNil, gwCons, gwTup, gwSub, oIx, oInt1, oAbsI, oLen, oGcd, oDivmod, oMax2, oMin2, oIsi, tyOf, clOf, kt_ii, kt_ib, kt_rr, kt_ir, kt_ri, kt_rb, kt_ni, kt_bi, kt_bb, kt_si, kt_ti, kt_li, kt_di, kt_nr, kt_br, kt_sr, kt_tr, kt_lr, kt_dr, oStrI, if_t1, if_f1, Bool.not_true, Bool.not_false, rt, startD, List.map_cons, List.map_nil, List.length_cons, List.length_nil, List.cons_append, List.nil_append, List.getElem?_cons_zero, List.getElem?_cons_succ, List.set_cons_zero, List.set_cons_succ, List.replicate, Nat.reduceAdd, Nat.reduceSub, Nat.zero_add, Nat.sub_self, Nat.add_sub_cancel, lk_top, lk_bot, w1, w2, numD_int, numD_ins, w_is_int, w_is_number, wi_Ratio, w_as_ratio, w_top, w_bottom, w1r, w2r, w_add, w_neg, w_abs, w_sub, w_mul, w_radd, w_rsub, w_rmul, w_floordiv, w_rfloordiv, w_mod, w_rmod]
    refine ⟨h1, ?_, ?_, h2, ?_, h⟩
    · simp only [PySem.Str.length_append, len_empty]; exact line5 (by omega)
    · simp only [PySem.Str.length_append, len_empty, len_slash]; exact line5 (by omega)
    · simp only [PySem.Str.length_append, len_empty, len_slash]; exact line5 (by omega)
def w_repr : WF := w1r fun p S Q => (p.1.natAbs.log2 < 1920 ∧ p.2.natAbs.log2 < 1920) ∧ Q (.str (reprR p)) S
theorem sc_R_repr : FnScope ["self"] ["self"] (defScope s_R_repr) := ⟨rfl, rfl, rfl, by decide +kernel, rfl, by decide +kernel, by decide +kernel⟩
theorem ok_R_repr (T : Tx K mg) : FnOk P w K mg base CX0 1 T.f_R_repr T.fd_R_repr ["self"] (spW ⟨K, mg⟩ 1 w_repr) := by
  refine fnD (k := 0) T.F_R_repr sc_R_repr (fun cdv A outer s H E hr => ⟨_, (dss_one (ds_ret (d_joined (PDJ.cons d_str (PDJ.cons (d_fmt (d_fld (dv 0) T.g_Ratio T.cl T.na_top)) (PDJ.cons d_str (PDJ.cons (d_fmt (d_fld (dv 0) T.g_Ratio T.cl T.na_bottom)) (PDJ.cons d_str PDJ.nil))))))))⟩) (fun ds S Q hl h => ?_)
  obtain ⟨t, b, rfl, ⟨h1, h2⟩, h⟩ := one_rat h
  have l1 : (Str.ofString (toString t)).length ≤ 5000 := str_len h1
  have l2 : (Str.ofString (toString b)).length ≤ 5000 := str_len h2
  simp only [true_and, and_true, oU2, oUn1, oL1, oS1, oR1, oJust, iAdd, iSub, iMul, iFdiv, iMod, iEq, iNe, iLt, iLe, iGt, iGe, iNeg, iAbs, DL.iStr, wFmt, wJs, wJoined, sNext, sSeq, sDrop, sRet, sRetN, sIf, sAsg, sPar, wOp, wVar, wC, wUn, wCons, wNil, wCB, wCall, wMake, wMakeSw, wCallSw, wProp, wFld, oI, oI0, oU, wTest, wAnd, wOr, wNot, wAndV, wOrV, wNotV, wIf, wTup, wLst, wLstM, gwName, gwNil, gwCons, gwTup, gwSub, oIx, oInt1, oAbsI, oLen, oGcd, oDivmod, oMax2, oMin2, oIsi, tyOf, clOf, kt_ii, kt_ib, kt_rr, kt_ir, kt_ri, kt_rb, kt_ni, kt_bi, kt_bb, kt_si, kt_ti, kt_li, kt_di, kt_nr, kt_br, kt_sr, kt_tr, kt_lr, kt_dr, oStrI, if_t1, if_f1, Bool.not_true, Bool.not_false, rt, startD, List.map_cons, List.map_nil, List.length_cons, List.length_nil, List.cons_append, List.nil_append, List.getElem?_cons_zero, List.getElem?_cons_succ, List.set_cons_zero, List.set_cons_succ, List.replicate, Nat.reduceAdd, Nat.reduceSub, Nat.zero_add, Nat.sub_self, Nat.add_sub_cancel, lk_top, lk_bot, w1, w2, numD_int, numD_ins, w_is_int, w_is_number, wi_Ratio, w_as_ratio, w_top, w_bottom, w1r, w2r, w_add, w_neg, w_abs, w_sub, w_mul, w_radd, w_rsub, w_rmul, w_floordiv, w_rfloordiv, w_mod, w_rmod]
  refine ⟨?_, h1, ?_, ?_, h2, ?_, ?_, h⟩
  · simp only [PySem.Str.length_append, len_empty, len_ratio]; exact line5 (by omega)
  · simp only [PySem.Str.length_append, len_empty, len_ratio]; exact line5 (by omega)
  · simp only [PySem.Str.length_append, len_empty, len_ratio, len_comma]; exact line5 (by omega)
  · simp only [PySem.Str.length_append, len_empty, len_ratio, len_comma]; exact line5 (by omega)
  · simp only [PySem.Str.length_append, len_empty, len_ratio, len_comma, len_par]; exact line5 (by omega)
def w_eq : WF := w2r fun p q S Q => Q (.bl (decide (p.1 = q.1 ∧ p.2 = q.2))) S
theorem sc_R_eq : FnScope ["self", "other"] ["self", "other"] (defScope s_R_eq) := ⟨rfl, rfl, rfl, by decide +kernel, rfl, by decide +kernel, by decide +kernel⟩
theorem ok_R_eq (T : Tx K mg) : FnOk P w K mg base CX0 3 T.f_R_eq T.fd_R_eq ["self", "other"] (spW ⟨K, mg⟩ 2 w_eq) := by
  refine fnD (k := 2) T.F_R_eq sc_R_eq (fun cdv A outer s H E hr => ⟨_, (dss_cons (ds_if (dt_val (d_callB call_isi (snd_isi T.isi) T.z_isinstance (da_cons (dv 1) (da_cons (d_cls T.g_Ratio) da_nil)) (hv := bt_isinstance))) (dss_one (ds_ret (d_and (d_cmp op_eq snd_iEq (d_fld (dv 0) T.g_Ratio T.cl T.na_top) (d_prop (dv 1) T.g_Ratio T.cl T.p_top (ok_R_top T) (hr.mono (by decide)) T.b_R_top) (nomark _)) (d_one (d_cmp op_eq snd_iEq (d_fld (dv 0) T.g_Ratio T.cl T.na_bottom) (d_prop (dv 1) T.g_Ratio T.cl T.p_bottom (ok_R_bottom T) (hr.mono (by decide)) T.b_R_bottom) (nomark _)))))) dss_nil)
  (dss_one (ds_ret (d_and (d_call (ok_is_int T) (hr.mono (by decide)) T.m_is_int T.F_is_int.kp T.b_is_int (da_cons (dv 1) da_nil)) (d_and (d_cmp op_eq snd_iEq (d_fld (dv 0) T.g_Ratio T.cl T.na_bottom) d_int (nomark _)) (d_one (d_cmp op_eq snd_iEq (d_fld (dv 0) T.g_Ratio T.cl T.na_top) (dv 1) (nomark _))))))))⟩) (fun ds S Q hl h => ?_)
  obtain ⟨t, b, y, q, rfl, hq, h⟩ := two_rat h
  rcases num_in hq with ⟨i, rfl, rfl⟩ | ⟨u, d, rfl, rfl⟩
  · have h : Q (.bl (decide (t = i ∧ b = 1))) S := h
    simp only [true_and, and_true, oU2, oUn1, oL1, oS1, oR1, oJust, iAdd, iSub, iMul, iFdiv, iMod, iEq, iNe, iLt, iLe, iGt, iGe, iNeg, iAbs, DL.iStr, wFmt, wJs, wJoined, sNext, sSeq, sDrop, sRet, sRetN, sIf, sAsg, sPar, wOp, wVar, wC, wUn, wCons, wNil, wCB, wCall, wMake, wMakeSw, wCallSw, wProp, wFld, oI, oI0, oU, wTest, wAnd, wOr, wNot, wAndV, wOrV, wNotV, wIf, wTup, wLst, wLstM, gwName, gwNil, gwCons, gwTup, gwSub, oIx, oInt1, oAbsI, oLen, oGcd, oDivmod, oMax2, oMin2, oIsi, tyOf, clOf, kt_ii, kt_ib, kt_rr, kt_ir, kt_ri, kt_rb, kt_ni, kt_bi, kt_bb, kt_si, kt_ti, kt_li, kt_di, kt_nr, kt_br, kt_sr, kt_tr, kt_lr, kt_dr, oStrI, if_t1, if_f1, Bool.not_true, Bool.not_false, rt, startD, List.map_cons, List.map_nil, List.length_cons, List.length_nil, List.cons_append, List.nil_append, List.getElem?_cons_zero, List.getElem?_cons_succ, List.set_cons_zero, List.set_cons_succ, List.replicate, Nat.reduceAdd, Nat.reduceSub, Nat.zero_add, Nat.sub_self, Nat.add_sub_cancel, lk_top, lk_bot, w1, w2, numD_int, numD_ins, w_is_int, w_is_number, wi_Ratio, w_as_ratio, w_top, w_bottom, w1r, w2r, w_add, w_neg, w_abs, w_sub, w_mul, w_radd, w_rsub, w_rmul, w_floordiv, w_rfloordiv, w_mod, w_rmod]
    by_cases hb : b = 1
    · rw [decide_eq_true hb]
      simp only [true_and, and_true, oU2, oUn1, oL1, oS1, oR1, oJust, iAdd, iSub, iMul, iFdiv, iMod, iEq, iNe, iLt, iLe, iGt, iGe, iNeg, iAbs, DL.iStr, wFmt, wJs, wJoined, sNext, sSeq, sDrop, sRet, sRetN, sIf, sAsg, sPar, wOp, wVar, wC, wUn, wCons, wNil, wCB, wCall, wMake, wMakeSw, wCallSw, wProp, wFld, oI, oI0, oU, wTest, wAnd, wOr, wNot, wAndV, wOrV, wNotV, wIf, wTup, wLst, wLstM, gwName, gwNil, gwCons, gwTup, gwSub, oIx, oInt1, oAbsI, oLen, oGcd, oDivmod, oMax2, oMin2, oIsi, tyOf, clOf, kt_ii, kt_ib, kt_rr, kt_ir, kt_ri, kt_rb, kt_ni, kt_bi, kt_bb, kt_si, kt_ti, kt_li, kt_di, kt_nr, kt_br, kt_sr, kt_tr, kt_lr, kt_dr, oStrI, if_t1, if_f1, Bool.not_true, Bool.not_false, rt, startD, List.map_cons, List.map_nil, List.length_cons, List.length_nil, List.cons_append, List.nil_append, List.getElem?_cons_zero, List.getElem?_cons_succ, List.set_cons_zero, List.set_cons_succ, List.replicate, Nat.reduceAdd, Nat.reduceSub, Nat.zero_add, Nat.sub_self, Nat.add_sub_cancel, lk_top, lk_bot, w1, w2, numD_int, numD_ins, w_is_int, w_is_number, wi_Ratio, w_as_ratio, w_top, w_bottom, w1r, w2r, w_add, w_neg, w_abs, w_sub, w_mul, w_radd, w_rsub, w_rmul, w_floordiv, w_rfloordiv, w_mod, w_rmod]
      simpa [hb] using h
    · rw [decide_eq_false hb]
      simp only [true_and, and_true, oU2, oUn1, oL1, oS1, oR1, oJust, iAdd, iSub, iMul, iFdiv, iMod, iEq, iNe, iLt, iLe, iGt, iGe, iNeg, iAbs, DL.iStr, wFmt, wJs, wJoined, sNext, sSeq, sDrop, sRet, sRetN, sIf, sAsg, sPar, wOp, wVar, wC, wUn, wCons, wNil, wCB, wCall, wMake, wMakeSw, wCallSw, wProp, wFld, oI, oI0, oU, wTest, wAnd, wOr, wNot, wAndV, wOrV, wNotV, wIf, wTup, wLst, wLstM, gwName, gwNil, gwCons, gwTup, gwSub, oIx, oInt1, oAbsI, oLen, oGcd, oDivmod, oMax2, oMin2, oIsi, tyOf, clOf, kt_ii, kt_ib, kt_rr, kt_ir, kt_ri, kt_rb, kt_ni, kt_bi, kt_bb, kt_si, kt_ti, kt_li, kt_di, kt_nr, kt_br, kt_sr, kt_tr, kt_lr, kt_dr, oStrI, if_t1, if_f1, Bool.not_true, Bool.not_false, rt, startD, List.map_cons, List.map_nil, List.length_cons, List.length_nil, List.cons_append, List.nil_append, List.getElem?_cons_zero, List.getElem?_cons_succ, List.set_cons_zero, List.set_cons_succ, List.replicate, Nat.reduceAdd, Nat.reduceSub, Nat.zero_add, Nat.sub_self, Nat.add_sub_cancel, lk_top, lk_bot, w1, w2, numD_int, numD_ins, w_is_int, w_is_number, wi_Ratio, w_as_ratio, w_top, w_bottom, w1r, w2r, w_add, w_neg, w_abs, w_sub, w_mul, w_radd, w_rsub, w_rmul, w_floordiv, w_rfloordiv, w_mod, w_rmod]
      simpa [hb] using h
  · have h : Q (.bl (decide (t = u ∧ b = d))) S := h
    simp only [true_and, and_true, oU2, oUn1, oL1, oS1, oR1, oJust, iAdd, iSub, iMul, iFdiv, iMod, iEq, iNe, iLt, iLe, iGt, iGe, iNeg, iAbs, DL.iStr, wFmt, wJs, wJoined, sNext, sSeq, sDrop, sRet, sRetN, sIf, sAsg, sPar, wOp, wVar, wC, wUn, wCons, wNil, wCB, wCall, wMake, wMakeSw, wCallSw, wProp, wFld, oI, oI0, oU, wTest, wAnd, wOr, wNot, wAndV, wOrV, wNotV, wIf, wTup, wLst, wLstM, gwName, gwNil, gwCons, gwTup, gwSub, oIx, oInt1, oAbsI, oLen, oGcd, oDivmod, oMax2, oMin2, oIsi, tyOf, clOf, kt_ii, kt_ib, kt_rr, kt_ir, kt_ri, kt_rb, kt_ni, kt_bi, kt_bb, kt_si, kt_ti, kt_li, kt_di, kt_nr, kt_br, kt_sr, kt_tr, kt_lr, kt_dr, oStrI, if_t1, if_f1, Bool.not_true, Bool.not_false, rt, startD, List.map_cons, List.map_nil, List.length_cons, List.length_nil, List.cons_append, List.nil_append, List.getElem?_cons_zero, List.getElem?_cons_succ, List.set_cons_zero, List.set_cons_succ, List.replicate, Nat.reduceAdd, Nat.reduceSub, Nat.zero_add, Nat.sub_self, Nat.add_sub_cancel, lk_top, lk_bot, w1, w2, numD_int, numD_ins, w_is_int, w_is_number, wi_Ratio, w_as_ratio, w_top, w_bottom, w1r, w2r, w_add, w_neg, w_abs, w_sub, w_mul, w_radd, w_rsub, w_rmul, w_floordiv, w_rfloordiv, w_mod, w_rmod]
    by_cases hb : t = u
    · rw [decide_eq_true hb]
      simp only [true_and, and_true, oU2, oUn1, oL1, oS1, oR1, oJust, iAdd, iSub, iMul, iFdiv, iMod, iEq, iNe, iLt, iLe, iGt, iGe, iNeg, iAbs, DL.iStr, wFmt, wJs, wJoined, sNext, sSeq, sDrop, sRet, sRetN, sIf, sAsg, sPar, wOp, wVar, wC, wUn, wCons, wNil, wCB, wCall, wMake, wMakeSw, wCallSw, wProp, wFld, oI, oI0, oU, wTest, wAnd, wOr, wNot, wAndV, wOrV, wNotV, wIf, wTup, wLst, wLstM, gwName, gwNil, gwCons, gwTup, gwSub, oIx, oInt1, oAbsI, oLen, oGcd, oDivmod, oMax2, oMin2, oIsi, tyOf, clOf, kt_ii, kt_ib, kt_rr, kt_ir, kt_ri, kt_rb, kt_ni, kt_bi, kt_bb, kt_si, kt_ti, kt_li, kt_di, kt_nr, kt_br, kt_sr, kt_tr, kt_lr, kt_dr, oStrI, if_t1, if_f1, Bool.not_true, Bool.not_false, rt, startD, List.map_cons, List.map_nil, List.length_cons, List.length_nil, List.cons_append, List.nil_append, List.getElem?_cons_zero, List.getElem?_cons_succ, List.set_cons_zero, List.set_cons_succ, List.replicate, Nat.reduceAdd, Nat.reduceSub, Nat.zero_add, Nat.sub_self, Nat.add_sub_cancel, lk_top, lk_bot, w1, w2, numD_int, numD_ins, w_is_int, w_is_number, wi_Ratio, w_as_ratio, w_top, w_bottom, w1r, w2r, w_add, w_neg, w_abs, w_sub, w_mul, w_radd, w_rsub, w_rmul, w_floordiv, w_rfloordiv, w_mod, w_rmod]
      simpa [hb] using h
    · rw [decide_eq_false hb]
      simp only [true_and, and_true, oU2, oUn1, oL1, oS1, oR1, oJust, iAdd, iSub, iMul, iFdiv, iMod, iEq, iNe, iLt, iLe, iGt, iGe, iNeg, iAbs, DL.iStr, wFmt, wJs, wJoined, sNext, sSeq, sDrop, sRet, sRetN, sIf, sAsg, sPar, wOp, wVar, wC, wUn, wCons, wNil, wCB, wCall, wMake, wMakeSw, wCallSw, wProp, wFld, oI, oI0, oU, wTest, wAnd, wOr, wNot, wAndV, wOrV, wNotV, wIf, wTup, wLst, wLstM, gwName, gwNil, gwCons, gwTup, gwSub, oIx, oInt1, oAbsI, oLen, oGcd, oDivmod, oMax2, oMin2, oIsi, tyOf, clOf, kt_ii, kt_ib, kt_rr, kt_ir, kt_ri, kt_rb, kt_ni, kt_bi, kt_bb, kt_si, kt_ti, kt_li, kt_di, kt_nr, kt_br, kt_sr, kt_tr, kt_lr, kt_dr, oStrI, if_t1, if_f1, Bool.not_true, Bool.not_false, rt, startD, List.map_cons, List.map_nil, List.length_cons, List.length_nil, List.cons_append, List.nil_append, List.getElem?_cons_zero, List.getElem?_cons_succ, List.set_cons_zero, List.set_cons_succ, List.replicate, Nat.reduceAdd, Nat.reduceSub, Nat.zero_add, Nat.sub_self, Nat.add_sub_cancel, lk_top, lk_bot, w1, w2, numD_int, numD_ins, w_is_int, w_is_number, wi_Ratio, w_as_ratio, w_top, w_bottom, w1r, w2r, w_add, w_neg, w_abs, w_sub, w_mul, w_radd, w_rsub, w_rmul, w_floordiv, w_rfloordiv, w_mod, w_rmod]
      simpa [hb] using h
theorem ite_dec {c A B : Prop} [Decidable c] (h : (c → A) ∧ (¬ c → B)) : if decide c = true then A else B := by
  by_cases hc : c
  · rw [decide_eq_true hc, if_pos rfl]; exact h.1 hc
  · rw [decide_eq_false hc, if_neg Bool.false_ne_true]; exact h.2 hc
/-- one / two, the bottom above 0 -/
def quoR (p q : Int × Int) : Int × Int := if p.2 * q.1 < 0 then mkR (-(p.1 * q.2)) (-(p.2 * q.1)) else mkR (p.1 * q.2) (p.2 * q.1)

def w_quotient : WF := w2 fun p q S Q => (Sz 2000 p ∧ Sz 2000 q ∧ q.1 ≠ 0) ∧ Q (rt (quoR p q)) S
theorem sc_quotient : FnScope ["one", "two", "upper", "lower", "top", "bottom"] ["one", "two"] (defScope s_quotient) := ⟨rfl, rfl, rfl, by decide +kernel, rfl, by decide +kernel, by decide +kernel⟩
theorem ok_quotient (T : Tx K mg) : FnOk P w K mg base CX0 6 T.f_quotient T.fd_quotient ["one", "two"] (spW ⟨K, mg⟩ 2 w_quotient) := by
  refine fnD (k := 5) T.F_quotient sc_quotient (fun cdv A outer s H E hr => ⟨_, (dss_cons (ds_if (dt_not (dt_val (d_call (ok_is_number T) (hr.mono (by decide)) T.m_is_number T.F_is_number.kp T.b_is_number (da_cons (dv 0) da_nil)))) (dss_one ds_never) dss_nil)
  (dss_cons (ds_if (dt_not (dt_val (d_call (ok_is_number T) (hr.mono (by decide)) T.m_is_number T.F_is_number.kp T.b_is_number (da_cons (dv 1) da_nil)))) (dss_one ds_never) dss_nil)
  (dss_cons (ds_if (dt_cmp (OpR.or op_eq (op_ownCmp (op := .Eq) (fun _ _ => rfl) T.own T.M_R_eq (ok_R_eq T) (hr.mono (by decide)) T.b_R_eq pass0)) (snd_U1 snd_iEq T.g_Ratio) (dv 1) d_int (nomark _)) (dss_one ds_never) dss_nil)
  (dss_cons (ds_set (i := 2) sc_quotient.nd (d_call (ok_as_ratio T) (hr.mono (by decide)) T.m_as_ratio T.F_as_ratio.kp T.b_as_ratio (da_cons (dv 0) da_nil)))
  (dss_cons (ds_set (i := 3) sc_quotient.nd (d_call (ok_as_ratio T) (hr.mono (by decide)) T.m_as_ratio T.F_as_ratio.kp T.b_as_ratio (da_cons (dv 1) da_nil)))
  (dss_cons (ds_set (i := 4) sc_quotient.nd (d_op op_mulW snd_iMul (d_prop (dv 2) T.g_Ratio T.cl T.p_top (ok_R_top T) (hr.mono (by decide)) T.b_R_top) (d_prop (dv 3) T.g_Ratio T.cl T.p_bottom (ok_R_bottom T) (hr.mono (by decide)) T.b_R_bottom)))
  (dss_cons (ds_set (i := 5) sc_quotient.nd (d_op op_mulW snd_iMul (d_prop (dv 2) T.g_Ratio T.cl T.p_bottom (ok_R_bottom T) (hr.mono (by decide)) T.b_R_bottom) (d_prop (dv 3) T.g_Ratio T.cl T.p_top (ok_R_top T) (hr.mono (by decide)) T.b_R_top)))
  (dss_cons (ds_if (dt_cmp op_lt snd_iLt (dv 5) d_int (nomark _)) (dss_one (ds_ret (d_make T.mkk (ok_R_init T) (hr.mono (by decide)) T.g_Ratio T.b_R_init2 T.v_R_init2 (fun _ _ => .nil) (da_cons (d_un un_neg (snd_rU fun _ _ _ => .int _) (dv 4)) (da_cons (d_un un_neg (snd_rU fun _ _ _ => .int _) (dv 5)) da_nil))))) dss_nil)
  (dss_one (ds_ret (d_make T.mkk (ok_R_init T) (hr.mono (by decide)) T.g_Ratio T.b_R_init2 T.v_R_init2 (fun _ _ => .nil) (da_cons (dv 4) (da_cons (dv 5) da_nil)))))))))))))⟩) (fun ds S Q hl h => ?_)
  obtain ⟨x, p, y, q, rfl, hp, hq, ⟨sp, sq, nz⟩, h⟩ := two_num h
  have h1 : p.1.natAbs < 2 ^ 2000 := sp.2.1
  have h2 : p.2.natAbs < 2 ^ 2000 := sp.2.2
  have h3 : q.1.natAbs < 2 ^ 2000 := sq.2.1
  have h4 : q.2.natAbs < 2 ^ 2000 := sq.2.2
  have e0 : decide (q.1 = 0) = false := decide_eq_false nz
  have nb0 : p.2 * q.1 ≠ 0 := Int.mul_ne_zero (by have : 0 < p.2 := sp.1; omega) nz
  have sb : (p.2 * q.1).natAbs < 2 ^ 9000 := nmono (nmul h2 h3) (by decide)
  have h : Q (rt (if p.2 * q.1 < 0 then mkR (-(p.1 * q.2)) (-(p.2 * q.1)) else mkR (p.1 * q.2) (p.2 * q.1))) S := h
  have key : ∀ (Z : Prop), (p.2 * q.1 < 0 → (0 < -(p.2 * q.1) ∧ (-(p.2 * q.1)).natAbs < 2 ^ 9000) ∧ Q (rt (mkR (-(p.1 * q.2)) (-(p.2 * q.1)))) S) ∧ (¬ p.2 * q.1 < 0 → (0 < p.2 * q.1 ∧ (p.2 * q.1).natAbs < 2 ^ 9000) ∧ Q (rt (mkR (p.1 * q.2) (p.2 * q.1))) S) := fun _ =>
    ⟨fun c => ⟨⟨by omega, by rw [Int.natAbs_neg]; exact sb⟩, by rw [if_pos c] at h; exact h⟩, fun c => ⟨⟨by omega, sb⟩, by rw [if_neg c] at h; exact h⟩⟩
  have key := key True
  rcases num_in hp with ⟨i, rfl, rfl⟩ | ⟨t, b, rfl, rfl⟩ <;> rcases num_in hq with ⟨j, rfl, rfl⟩ | ⟨u, d, rfl, rfl⟩
  all_goals
    simp only [true_and, and_true, oU2, oUn1, oL1, oS1, oR1, oJust, iAdd, iSub, iMul, iFdiv, iMod, iEq, iNe, iLt, iLe, iGt, iGe, iNeg, iAbs, DL.iStr, wFmt, wJs, wJoined, sNext, sSeq, sDrop, sRet, sRetN, sIf, sAsg, sPar, wOp, wVar, wC, wUn, wCons, wNil, wCB, wCall, wMake, wMakeSw, wCallSw, wProp, wFld, oI, oI0, oU, wTest, wAnd, wOr, wNot, wAndV, wOrV, wNotV, wIf, wTup, wLst, wLstM, gwName, gwNil, gwCons, gwTup, gwSub, oIx, oInt1, oAbsI, oLen, oGcd, oDivmod, oMax2, oMin2, oIsi, tyOf, clOf, kt_ii, kt_ib, kt_rr, kt_ir, kt_ri, kt_rb, kt_ni, kt_bi, kt_bb, kt_si, kt_ti, kt_li, kt_di, kt_nr, kt_br, kt_sr, kt_tr, kt_lr, kt_dr, oStrI, if_t1, if_f1, Bool.not_true, Bool.not_false, rt, startD, List.map_cons, List.map_nil, List.length_cons, List.length_nil, List.cons_append, List.nil_append, List.getElem?_cons_zero, List.getElem?_cons_succ, List.set_cons_zero, List.set_cons_succ, List.replicate, Nat.reduceAdd, Nat.reduceSub, Nat.zero_add, Nat.sub_self, Nat.add_sub_cancel, lk_top, lk_bot, w1, w2, numD_int, numD_ins, w_is_int, w_is_number, wi_Ratio, w_as_ratio, w_top, w_bottom, w1r, w2r, w_add, w_neg, w_abs, w_sub, w_mul, w_radd, w_rsub, w_rmul, w_floordiv, w_rfloordiv, w_mod, w_rmod, w_str, w_repr, w_eq]
    first
      | rw [show decide (j = 0) = false from e0]
      | rw [show decide (u = 0 ∧ d = 1) = false from decide_eq_false fun z => nz z.1]
    simp only [true_and, and_true, oU2, oUn1, oL1, oS1, oR1, oJust, iAdd, iSub, iMul, iFdiv, iMod, iEq, iNe, iLt, iLe, iGt, iGe, iNeg, iAbs, DL.iStr, wFmt, wJs, wJoined, sNext, sSeq, sDrop, sRet, sRetN, sIf, sAsg, sPar, wOp, wVar, wC, wUn, wCons, wNil, wCB, wCall, wMake, wMakeSw, wCallSw, wProp, wFld, oI, oI0, oU, wTest, wAnd, wOr, wNot, wAndV, wOrV, wNotV, wIf, wTup, wLst, wLstM, gwName, gwNil, gwCons, gwTup, gwSub, oIx, oInt1, oAbsI, oLen, oGcd, oDivmod, oMax2, oMin2, oIsi, tyOf, clOf, kt_ii, kt_ib, kt_rr, kt_ir, kt_ri, kt_rb, kt_ni, kt_bi, kt_bb, kt_si, kt_ti, kt_li, kt_di, kt_nr, kt_br, kt_sr, kt_tr, kt_lr, kt_dr, oStrI, if_t1, if_f1, Bool.not_true, Bool.not_false, rt, startD, List.map_cons, List.map_nil, List.length_cons, List.length_nil, List.cons_append, List.nil_append, List.getElem?_cons_zero, List.getElem?_cons_succ, List.set_cons_zero, List.set_cons_succ, List.replicate, Nat.reduceAdd, Nat.reduceSub, Nat.zero_add, Nat.sub_self, Nat.add_sub_cancel, lk_top, lk_bot, w1, w2, numD_int, numD_ins, w_is_int, w_is_number, wi_Ratio, w_as_ratio, w_top, w_bottom, w1r, w2r, w_add, w_neg, w_abs, w_sub, w_mul, w_radd, w_rsub, w_rmul, w_floordiv, w_rfloordiv, w_mod, w_rmod, w_str, w_repr, w_eq]
    exact ⟨cm8 h1 h4, cm8 h2 h3, ite_dec key⟩
end
end K1
set_option Elab.async false
set_option linter.all false
set_option maxRecDepth 100000
namespace K1
open PySem PySem.Spec PyProof.Rows L2 DL
section
variable {P : Program} {w : World} {K : PySem.W.Frag} {mg : Str → Option Value} {base : Heap}
/-- a ** b of ints -/
def oPow : OD := oI CPow fun i j => .int (i ^ j.toNat)

theorem fmod_pos {a b : Int} (h : 0 < b) : a.fmod b = a % b := Int.fmod_eq_emod_of_nonneg a (by omega)
theorem cm30 {a b : Int} (ha : a.natAbs < 2 ^ 62) (hb : b.natAbs < 2 ^ 62) : CMulW a b := wide_mul ha hb (by decide) (by decide) (by decide)
/-- the purse: the i-th list that may change -/
def Pu (S : MS) (m : Nat) (c : Int) : Prop := ∃ s g : Int, S[m]? = some [.int s, .int g, .int c] ∧ 0 ≤ s ∧ s < 998244353 ∧ 0 ≤ g
def Oth (m : Nat) (S S' : MS) : Prop := S'.length = S.length ∧ ∀ j, j ≠ m → S'[j]? = S[j]?
theorem Oth.refl {m : Nat} {S : MS} : Oth m S S := ⟨rfl, fun _ _ => rfl⟩
theorem Oth.trans {m : Nat} {S S1 S2 : MS} (a : Oth m S S1) (b : Oth m S1 S2) : Oth m S S2 := ⟨b.1.trans a.1, fun j h => (b.2 j h).trans (a.2 j h)⟩
theorem oth_set {m : Nat} {S : MS} {x : List D} : Oth m S (S.set m x) := ⟨List.length_set .., fun j h => List.getElem?_set_ne (Ne.symm h)⟩
theorem set_here {m : Nat} {S : MS} {x y : List D} (h : S[m]? = some y) : (S.set m x)[m]? = some x := by
  rw [List.getElem?_set_self (List.getElem?_eq_some_iff.mp h).1]
theorem at1 {α : Type} {a b : α} {l : List α} : L2.atI (a :: b :: l) 1 = some b := by
  show (ixN (l.length + 1 + 1) 1).bind _ = _
  unfold ixN
  rw [if_pos (by decide), if_pos (by omega)]
  rfl
theorem at2 {α : Type} {a b c : α} {l : List α} : L2.atI (a :: b :: c :: l) 2 = some c := by
  show (ixN (l.length + 1 + 1 + 1) 2).bind _ = _
  unfold ixN
  rw [if_pos (by decide), if_pos (by omega)]
  rfl
theorem at0' {α : Type} {a : α} {l : List α} : L2.atI (a :: l) 0 = some a := by
  show (ixN (l.length + 1) 0).bind _ = _
  unfold ixN
  rw [if_pos (by decide), if_pos (by omega)]
  rfl

def w_take : WF := fun ds S Q => match ds with
  | [.mut m, .int many] => ∃ c, Pu S m c ∧ (1 ≤ c ∧ c ≤ 100000) ∧ (0 < many ∧ many.natAbs.log2 < 9000) ∧ ∀ k S', 0 ≤ k → k < many → Pu S' m (c + 1) → Oth m S S' → Q (.int k) S'
  | _ => False
theorem sc__law_take : FnScope ["purse", "many", "mixed", "digit"] ["purse", "many"] (defScope s__law_take) := ⟨rfl, rfl, rfl, by decide +kernel, rfl, by decide +kernel, by decide +kernel⟩
theorem ok__law_take (T : Tx K mg) : FnOk P w K mg base CX0 1 T.f__law_take T.fd__law_take ["purse", "many"] (spW ⟨K, mg⟩ 2 w_take) := by
  refine fnD (k := 0) T.F__law_take sc__law_take (fun cdv A outer s H E hr => ⟨_, (dss_cons (ds_asg (d_op op_add snd_iAdd (d_ix (dv 0) d_int) d_int) (dg_sub (dv 0) d_int))
  (dss_cons (ds_set (i := 2) sc__law_take.nd (d_op op_modN snd_iMod (d_callTy call_int1 snd_int1 T.z_int (da_cons (d_op op_add snd_iAdd (d_op op_add snd_iAdd (d_op op_mulW snd_iMul (d_ix (dv 0) d_int) d_int) (d_op op_mulW snd_iMul (d_op op_mulW snd_iMul (d_ix (dv 0) d_int) (d_ix (dv 0) d_int)) d_int)) d_int) da_nil) (hv := bt_int)) d_int))
  (dss_cons (ds_asg (d_op op_modN snd_iMod (d_callTy call_int1 snd_int1 T.z_int (da_cons (d_op op_add snd_iAdd (d_op op_mulW snd_iMul (dv 2) (d_op op_add snd_iAdd (d_op op_modN snd_iMod (d_callTy call_int1 snd_int1 T.z_int (da_cons (dv 2) da_nil) (hv := bt_int)) d_int) d_int)) (d_ix (dv 0) d_int)) da_nil) (hv := bt_int)) d_int) (dg_sub (dv 0) d_int))
  (dss_cons (ds_if (dt_cmp op_gt snd_iGt (d_ix (dv 0) d_int) d_int (nomark _)) (dss_cons (ds_asg (d_callB call_divmodW snd_divmod T.z_divmod (da_cons (d_ix (dv 0) d_int) (da_cons (dv 1) da_nil)) (hv := bt_divmod)) (dg_tup (n := 2) rfl (dgs_cons (dg_sub (dv 0) d_int) (dgs_cons (dg_name (i := 3) sc__law_take.nd) dgs_nil))))
  (dss_one (ds_ret (dv 3)))) dss_nil)
  (dss_one (ds_ret (d_op op_modN snd_iMod (d_callTy call_int1 snd_int1 T.z_int (da_cons (d_op op_fdivWN snd_iFdiv (d_ix (dv 0) d_int) d_int) da_nil) (hv := bt_int)) (dv 1))))))))⟩) (fun ds S Q hl h => ?_)
  match ds, h with
  | [.mut m, .int many], ⟨c, ⟨s, g, hS, hs0, hs1, hg⟩, hc, ⟨hm0, hm1⟩, h⟩ =>
    have big : ∀ {x : Int}, 0 ≤ x % 998244353 ∧ x % 998244353 < 998244353 := fun {x} => by omega
    simp only [true_and, and_true, oU2, oUn1, oL1, oS1, oR1, oJust, iAdd, iSub, iMul, iFdiv, iMod, iEq, iNe, iLt, iLe, iGt, iGe, iNeg, iAbs, DL.iStr, wFmt, wJs, wJoined, sNext, sSeq, sDrop, sRet, sRetN, sIf, sAsg, sPar, wOp, wVar, wC, wUn, wCons, wNil, wCB, wCall, wMake, wMakeSw, wCallSw, wProp, wFld, oI, oI0, oU, wTest, wAnd, wOr, wNot, wAndV, wOrV, wNotV, wIf, wTup, wLst, wLstM, gwName, gwNil, gwCons, gwTup, gwSub, oIx, oInt1, oAbsI, oLen, oGcd, oDivmod, oMax2, oMin2, oIsi, tyOf, clOf, kt_ii, kt_ib, kt_rr, kt_ir, kt_ri, kt_rb, kt_ni, kt_bi, kt_bb, kt_si, kt_ti, kt_li, kt_di, kt_nr, kt_br, kt_sr, kt_tr, kt_lr, kt_dr, oStrI, if_t1, if_f1, Bool.not_true, Bool.not_false, rt, startD, List.map_cons, List.map_nil, List.length_cons, List.length_nil, List.cons_append, List.nil_append, List.getElem?_cons_zero, List.getElem?_cons_succ, List.set_cons_zero, List.set_cons_succ, List.replicate, Nat.reduceAdd, Nat.reduceSub, Nat.zero_add, Nat.sub_self, Nat.add_sub_cancel, lk_top, lk_bot, w1, w2, numD_int, numD_ins, w_is_int, w_is_number, wi_Ratio, w_as_ratio, w_top, w_bottom, w1r, w2r, w_add, w_neg, w_abs, w_sub, w_mul, w_radd, w_rsub, w_rmul, w_floordiv, w_rfloordiv, w_mod, w_rmod, w_str, w_repr, w_eq, w_quotient, wCutTo, wTruth, oPow, sFor, sForR, at0', at1, at2]
    rw [hS]
    simp only [true_and, and_true, oU2, oUn1, oL1, oS1, oR1, oJust, iAdd, iSub, iMul, iFdiv, iMod, iEq, iNe, iLt, iLe, iGt, iGe, iNeg, iAbs, DL.iStr, wFmt, wJs, wJoined, sNext, sSeq, sDrop, sRet, sRetN, sIf, sAsg, sPar, wOp, wVar, wC, wUn, wCons, wNil, wCB, wCall, wMake, wMakeSw, wCallSw, wProp, wFld, oI, oI0, oU, wTest, wAnd, wOr, wNot, wAndV, wOrV, wNotV, wIf, wTup, wLst, wLstM, gwName, gwNil, gwCons, gwTup, gwSub, oIx, oInt1, oAbsI, oLen, oGcd, oDivmod, oMax2, oMin2, oIsi, tyOf, clOf, kt_ii, kt_ib, kt_rr, kt_ir, kt_ri, kt_rb, kt_ni, kt_bi, kt_bb, kt_si, kt_ti, kt_li, kt_di, kt_nr, kt_br, kt_sr, kt_tr, kt_lr, kt_dr, oStrI, if_t1, if_f1, Bool.not_true, Bool.not_false, rt, startD, List.map_cons, List.map_nil, List.length_cons, List.length_nil, List.cons_append, List.nil_append, List.getElem?_cons_zero, List.getElem?_cons_succ, List.set_cons_zero, List.set_cons_succ, List.replicate, Nat.reduceAdd, Nat.reduceSub, Nat.zero_add, Nat.sub_self, Nat.add_sub_cancel, lk_top, lk_bot, w1, w2, numD_int, numD_ins, w_is_int, w_is_number, wi_Ratio, w_as_ratio, w_top, w_bottom, w1r, w2r, w_add, w_neg, w_abs, w_sub, w_mul, w_radd, w_rsub, w_rmul, w_floordiv, w_rfloordiv, w_mod, w_rmod, w_str, w_repr, w_eq, w_quotient, wCutTo, wTruth, oPow, sFor, sForR, at0', at1, at2]
    refine ⟨_, 2, rfl, rfl, ?_⟩
    simp only [true_and, and_true, oU2, oUn1, oL1, oS1, oR1, oJust, iAdd, iSub, iMul, iFdiv, iMod, iEq, iNe, iLt, iLe, iGt, iGe, iNeg, iAbs, DL.iStr, wFmt, wJs, wJoined, sNext, sSeq, sDrop, sRet, sRetN, sIf, sAsg, sPar, wOp, wVar, wC, wUn, wCons, wNil, wCB, wCall, wMake, wMakeSw, wCallSw, wProp, wFld, oI, oI0, oU, wTest, wAnd, wOr, wNot, wAndV, wOrV, wNotV, wIf, wTup, wLst, wLstM, gwName, gwNil, gwCons, gwTup, gwSub, oIx, oInt1, oAbsI, oLen, oGcd, oDivmod, oMax2, oMin2, oIsi, tyOf, clOf, kt_ii, kt_ib, kt_rr, kt_ir, kt_ri, kt_rb, kt_ni, kt_bi, kt_bb, kt_si, kt_ti, kt_li, kt_di, kt_nr, kt_br, kt_sr, kt_tr, kt_lr, kt_dr, oStrI, if_t1, if_f1, Bool.not_true, Bool.not_false, rt, startD, List.map_cons, List.map_nil, List.length_cons, List.length_nil, List.cons_append, List.nil_append, List.getElem?_cons_zero, List.getElem?_cons_succ, List.set_cons_zero, List.set_cons_succ, List.replicate, Nat.reduceAdd, Nat.reduceSub, Nat.zero_add, Nat.sub_self, Nat.add_sub_cancel, lk_top, lk_bot, w1, w2, numD_int, numD_ins, w_is_int, w_is_number, wi_Ratio, w_as_ratio, w_top, w_bottom, w1r, w2r, w_add, w_neg, w_abs, w_sub, w_mul, w_radd, w_rsub, w_rmul, w_floordiv, w_rfloordiv, w_mod, w_rmod, w_str, w_repr, w_eq, w_quotient, wCutTo, wTruth, oPow, sFor, sForR, at0', at1, at2]
    have hA := set_here (x := [D.int s, .int g, .int (c + 1)]) hS
    have oA : Oth m S (S.set m [D.int s, .int g, .int (c + 1)]) := oth_set
    generalize S.set m [D.int s, .int g, .int (c + 1)] = S1 at hA oA ⊢
    rw [hA]
    simp only [true_and, and_true, oU2, oUn1, oL1, oS1, oR1, oJust, iAdd, iSub, iMul, iFdiv, iMod, iEq, iNe, iLt, iLe, iGt, iGe, iNeg, iAbs, DL.iStr, wFmt, wJs, wJoined, sNext, sSeq, sDrop, sRet, sRetN, sIf, sAsg, sPar, wOp, wVar, wC, wUn, wCons, wNil, wCB, wCall, wMake, wMakeSw, wCallSw, wProp, wFld, oI, oI0, oU, wTest, wAnd, wOr, wNot, wAndV, wOrV, wNotV, wIf, wTup, wLst, wLstM, gwName, gwNil, gwCons, gwTup, gwSub, oIx, oInt1, oAbsI, oLen, oGcd, oDivmod, oMax2, oMin2, oIsi, tyOf, clOf, kt_ii, kt_ib, kt_rr, kt_ir, kt_ri, kt_rb, kt_ni, kt_bi, kt_bb, kt_si, kt_ti, kt_li, kt_di, kt_nr, kt_br, kt_sr, kt_tr, kt_lr, kt_dr, oStrI, if_t1, if_f1, Bool.not_true, Bool.not_false, rt, startD, List.map_cons, List.map_nil, List.length_cons, List.length_nil, List.cons_append, List.nil_append, List.getElem?_cons_zero, List.getElem?_cons_succ, List.set_cons_zero, List.set_cons_succ, List.replicate, Nat.reduceAdd, Nat.reduceSub, Nat.zero_add, Nat.sub_self, Nat.add_sub_cancel, lk_top, lk_bot, w1, w2, numD_int, numD_ins, w_is_int, w_is_number, wi_Ratio, w_as_ratio, w_top, w_bottom, w1r, w2r, w_add, w_neg, w_abs, w_sub, w_mul, w_radd, w_rsub, w_rmul, w_floordiv, w_rfloordiv, w_mod, w_rmod, w_str, w_repr, w_eq, w_quotient, wCutTo, wTruth, oPow, sFor, sForR, at0', at1, at2]
    generalize hmx : (s * 48271 + (c + 1) * (c + 1) * 69621 + 11).fmod 998244353 = mx
    have mx1 : 0 ≤ mx ∧ mx < 998244353 := by rw [fmod_pos (by decide)] at hmx; omega
    refine ⟨cm30 (by omega) (by decide), cm30 (by omega) (by omega), cm30 ?_ (by decide), by decide, ?_⟩
    · have z : (c + 1) * (c + 1) ≤ 200000 * 200000 := Int.mul_le_mul (by omega) (by omega) (by omega) (by omega)
      have z2 : 0 ≤ (c + 1) * (c + 1) := Int.mul_nonneg (by omega) (by omega)
      omega
    refine ⟨by decide, cm30 (by omega) ?_, by decide, ?_⟩
    · rw [fmod_pos (by decide)]
      omega
    refine ⟨_, 0, rfl, rfl, ?_⟩
    simp only [true_and, and_true, oU2, oUn1, oL1, oS1, oR1, oJust, iAdd, iSub, iMul, iFdiv, iMod, iEq, iNe, iLt, iLe, iGt, iGe, iNeg, iAbs, DL.iStr, wFmt, wJs, wJoined, sNext, sSeq, sDrop, sRet, sRetN, sIf, sAsg, sPar, wOp, wVar, wC, wUn, wCons, wNil, wCB, wCall, wMake, wMakeSw, wCallSw, wProp, wFld, oI, oI0, oU, wTest, wAnd, wOr, wNot, wAndV, wOrV, wNotV, wIf, wTup, wLst, wLstM, gwName, gwNil, gwCons, gwTup, gwSub, oIx, oInt1, oAbsI, oLen, oGcd, oDivmod, oMax2, oMin2, oIsi, tyOf, clOf, kt_ii, kt_ib, kt_rr, kt_ir, kt_ri, kt_rb, kt_ni, kt_bi, kt_bb, kt_si, kt_ti, kt_li, kt_di, kt_nr, kt_br, kt_sr, kt_tr, kt_lr, kt_dr, oStrI, if_t1, if_f1, Bool.not_true, Bool.not_false, rt, startD, List.map_cons, List.map_nil, List.length_cons, List.length_nil, List.cons_append, List.nil_append, List.getElem?_cons_zero, List.getElem?_cons_succ, List.set_cons_zero, List.set_cons_succ, List.replicate, Nat.reduceAdd, Nat.reduceSub, Nat.zero_add, Nat.sub_self, Nat.add_sub_cancel, lk_top, lk_bot, w1, w2, numD_int, numD_ins, w_is_int, w_is_number, wi_Ratio, w_as_ratio, w_top, w_bottom, w1r, w2r, w_add, w_neg, w_abs, w_sub, w_mul, w_radd, w_rsub, w_rmul, w_floordiv, w_rfloordiv, w_mod, w_rmod, w_str, w_repr, w_eq, w_quotient, wCutTo, wTruth, oPow, sFor, sForR, at0', at1, at2]
    generalize hs2 : (mx * (mx.fmod 32749 + 1) + (c + 1)).fmod 998244353 = s2
    have s21 : 0 ≤ s2 ∧ s2 < 998244353 := by rw [fmod_pos (by decide)] at hs2; omega
    have hB := set_here (x := [D.int s2, .int g, .int (c + 1)]) hA
    have oB : Oth m S1 (S1.set m [D.int s2, .int g, .int (c + 1)]) := oth_set
    generalize S1.set m [D.int s2, .int g, .int (c + 1)] = S2 at hB oB ⊢
    rw [hB]
    simp only [true_and, and_true, oU2, oUn1, oL1, oS1, oR1, oJust, iAdd, iSub, iMul, iFdiv, iMod, iEq, iNe, iLt, iLe, iGt, iGe, iNeg, iAbs, DL.iStr, wFmt, wJs, wJoined, sNext, sSeq, sDrop, sRet, sRetN, sIf, sAsg, sPar, wOp, wVar, wC, wUn, wCons, wNil, wCB, wCall, wMake, wMakeSw, wCallSw, wProp, wFld, oI, oI0, oU, wTest, wAnd, wOr, wNot, wAndV, wOrV, wNotV, wIf, wTup, wLst, wLstM, gwName, gwNil, gwCons, gwTup, gwSub, oIx, oInt1, oAbsI, oLen, oGcd, oDivmod, oMax2, oMin2, oIsi, tyOf, clOf, kt_ii, kt_ib, kt_rr, kt_ir, kt_ri, kt_rb, kt_ni, kt_bi, kt_bb, kt_si, kt_ti, kt_li, kt_di, kt_nr, kt_br, kt_sr, kt_tr, kt_lr, kt_dr, oStrI, if_t1, if_f1, Bool.not_true, Bool.not_false, rt, startD, List.map_cons, List.map_nil, List.length_cons, List.length_nil, List.cons_append, List.nil_append, List.getElem?_cons_zero, List.getElem?_cons_succ, List.set_cons_zero, List.set_cons_succ, List.replicate, Nat.reduceAdd, Nat.reduceSub, Nat.zero_add, Nat.sub_self, Nat.add_sub_cancel, lk_top, lk_bot, w1, w2, numD_int, numD_ins, w_is_int, w_is_number, wi_Ratio, w_as_ratio, w_top, w_bottom, w1r, w2r, w_add, w_neg, w_abs, w_sub, w_mul, w_radd, w_rsub, w_rmul, w_floordiv, w_rfloordiv, w_mod, w_rmod, w_str, w_repr, w_eq, w_quotient, wCutTo, wTruth, oPow, sFor, sForR, at0', at1, at2]
    by_cases g0 : 0 < g
    · rw [decide_eq_true g0]
      simp only [true_and, and_true, oU2, oUn1, oL1, oS1, oR1, oJust, iAdd, iSub, iMul, iFdiv, iMod, iEq, iNe, iLt, iLe, iGt, iGe, iNeg, iAbs, DL.iStr, wFmt, wJs, wJoined, sNext, sSeq, sDrop, sRet, sRetN, sIf, sAsg, sPar, wOp, wVar, wC, wUn, wCons, wNil, wCB, wCall, wMake, wMakeSw, wCallSw, wProp, wFld, oI, oI0, oU, wTest, wAnd, wOr, wNot, wAndV, wOrV, wNotV, wIf, wTup, wLst, wLstM, gwName, gwNil, gwCons, gwTup, gwSub, oIx, oInt1, oAbsI, oLen, oGcd, oDivmod, oMax2, oMin2, oIsi, tyOf, clOf, kt_ii, kt_ib, kt_rr, kt_ir, kt_ri, kt_rb, kt_ni, kt_bi, kt_bb, kt_si, kt_ti, kt_li, kt_di, kt_nr, kt_br, kt_sr, kt_tr, kt_lr, kt_dr, oStrI, if_t1, if_f1, Bool.not_true, Bool.not_false, rt, startD, List.map_cons, List.map_nil, List.length_cons, List.length_nil, List.cons_append, List.nil_append, List.getElem?_cons_zero, List.getElem?_cons_succ, List.set_cons_zero, List.set_cons_succ, List.replicate, Nat.reduceAdd, Nat.reduceSub, Nat.zero_add, Nat.sub_self, Nat.add_sub_cancel, lk_top, lk_bot, w1, w2, numD_int, numD_ins, w_is_int, w_is_number, wi_Ratio, w_as_ratio, w_top, w_bottom, w1r, w2r, w_add, w_neg, w_abs, w_sub, w_mul, w_radd, w_rsub, w_rmul, w_floordiv, w_rfloordiv, w_mod, w_rmod, w_str, w_repr, w_eq, w_quotient, wCutTo, wTruth, oPow, sFor, sForR, at0', at1, at2]
      refine ⟨⟨hm0, hm1⟩, ?_⟩
      refine ⟨_, 1, rfl, rfl, ?_⟩
      simp only [true_and, and_true, oU2, oUn1, oL1, oS1, oR1, oJust, iAdd, iSub, iMul, iFdiv, iMod, iEq, iNe, iLt, iLe, iGt, iGe, iNeg, iAbs, DL.iStr, wFmt, wJs, wJoined, sNext, sSeq, sDrop, sRet, sRetN, sIf, sAsg, sPar, wOp, wVar, wC, wUn, wCons, wNil, wCB, wCall, wMake, wMakeSw, wCallSw, wProp, wFld, oI, oI0, oU, wTest, wAnd, wOr, wNot, wAndV, wOrV, wNotV, wIf, wTup, wLst, wLstM, gwName, gwNil, gwCons, gwTup, gwSub, oIx, oInt1, oAbsI, oLen, oGcd, oDivmod, oMax2, oMin2, oIsi, tyOf, clOf, kt_ii, kt_ib, kt_rr, kt_ir, kt_ri, kt_rb, kt_ni, kt_bi, kt_bb, kt_si, kt_ti, kt_li, kt_di, kt_nr, kt_br, kt_sr, kt_tr, kt_lr, kt_dr, oStrI, if_t1, if_f1, Bool.not_true, Bool.not_false, rt, startD, List.map_cons, List.map_nil, List.length_cons, List.length_nil, List.cons_append, List.nil_append, List.getElem?_cons_zero, List.getElem?_cons_succ, List.set_cons_zero, List.set_cons_succ, List.replicate, Nat.reduceAdd, Nat.reduceSub, Nat.zero_add, Nat.sub_self, Nat.add_sub_cancel, lk_top, lk_bot, w1, w2, numD_int, numD_ins, w_is_int, w_is_number, wi_Ratio, w_as_ratio, w_top, w_bottom, w1r, w2r, w_add, w_neg, w_abs, w_sub, w_mul, w_radd, w_rsub, w_rmul, w_floordiv, w_rfloordiv, w_mod, w_rmod, w_str, w_repr, w_eq, w_quotient, wCutTo, wTruth, oPow, sFor, sForR, at0', at1, at2]
      have hC := set_here (x := [D.int s2, .int (g / many), .int (c + 1)]) hB
      have oC : Oth m S2 (S2.set m [D.int s2, .int (g / many), .int (c + 1)]) := oth_set
      generalize S2.set m [D.int s2, .int (g / many), .int (c + 1)] = S3 at hC oC ⊢
      exact h _ _ (Int.emod_nonneg _ (by omega)) (Int.emod_lt_of_pos _ hm0) ⟨_, _, hC, s21.1, s21.2, Int.ediv_nonneg (by omega) (by omega)⟩ ((oA.trans oB).trans oC)
    · rw [decide_eq_false g0]
      simp only [true_and, and_true, oU2, oUn1, oL1, oS1, oR1, oJust, iAdd, iSub, iMul, iFdiv, iMod, iEq, iNe, iLt, iLe, iGt, iGe, iNeg, iAbs, DL.iStr, wFmt, wJs, wJoined, sNext, sSeq, sDrop, sRet, sRetN, sIf, sAsg, sPar, wOp, wVar, wC, wUn, wCons, wNil, wCB, wCall, wMake, wMakeSw, wCallSw, wProp, wFld, oI, oI0, oU, wTest, wAnd, wOr, wNot, wAndV, wOrV, wNotV, wIf, wTup, wLst, wLstM, gwName, gwNil, gwCons, gwTup, gwSub, oIx, oInt1, oAbsI, oLen, oGcd, oDivmod, oMax2, oMin2, oIsi, tyOf, clOf, kt_ii, kt_ib, kt_rr, kt_ir, kt_ri, kt_rb, kt_ni, kt_bi, kt_bb, kt_si, kt_ti, kt_li, kt_di, kt_nr, kt_br, kt_sr, kt_tr, kt_lr, kt_dr, oStrI, if_t1, if_f1, Bool.not_true, Bool.not_false, rt, startD, List.map_cons, List.map_nil, List.length_cons, List.length_nil, List.cons_append, List.nil_append, List.getElem?_cons_zero, List.getElem?_cons_succ, List.set_cons_zero, List.set_cons_succ, List.replicate, Nat.reduceAdd, Nat.reduceSub, Nat.zero_add, Nat.sub_self, Nat.add_sub_cancel, lk_top, lk_bot, w1, w2, numD_int, numD_ins, w_is_int, w_is_number, wi_Ratio, w_as_ratio, w_top, w_bottom, w1r, w2r, w_add, w_neg, w_abs, w_sub, w_mul, w_radd, w_rsub, w_rmul, w_floordiv, w_rfloordiv, w_mod, w_rmod, w_str, w_repr, w_eq, w_quotient, wCutTo, wTruth, oPow, sFor, sForR, at0', at1, at2]
      refine ⟨⟨by decide, by decide⟩, by omega, ?_⟩
      refine h _ _ ?_ ?_ ⟨_, _, hB, s21.1, s21.2, hg⟩ (oA.trans oB)
      · rw [fmod_pos hm0]
        exact Int.emod_nonneg _ (by omega)
      · rw [fmod_pos hm0]
        exact Int.emod_lt_of_pos _ hm0
def AllI (xs : List D) : Prop := ∀ d ∈ xs, ∃ i : Int, d = .int i
theorem AllI.cut {xs : List D} (h : AllI xs) (lo hi : Option Int) : AllI (cutD xs lo hi) := fun d hd => h d (List.mem_of_mem_drop (List.mem_of_mem_take hd))
theorem AllI.at {xs : List D} (h : AllI xs) {k : Int} (h0 : 0 ≤ k) (h1 : k < xs.length) : ∃ i, L2.atI xs k = some (.int i) := by
  have hk : k.toNat < xs.length := by omega
  obtain ⟨i, hi⟩ := h xs[k.toNat] (List.getElem_mem _)
  refine ⟨i, ?_⟩
  have e : (k.toNat : Int) = k := by omega
  rw [← e]
  refine atI_nat ?_
  rw [List.getElem?_eq_getElem hk, hi]

def w_cell : WF := fun ds S Q => match ds with
  | [.scr xs, .int k] => AllI xs ∧ (0 ≤ k ∧ k ≤ 100) ∧ ∀ c : Int, Q (.int c) S
  | _ => False
theorem sc__law_cell : FnScope ["script", "k", "mixed", "number"] ["script", "k"] (defScope s__law_cell) := ⟨rfl, rfl, rfl, by decide +kernel, rfl, by decide +kernel, by decide +kernel⟩
theorem ok__law_cell (T : Tx K mg) : FnOk P w K mg base CX0 1 T.f__law_cell T.fd__law_cell ["script", "k"] (spW ⟨K, mg⟩ 2 w_cell) := by
  refine fnD (k := 0) T.F__law_cell sc__law_cell (fun cdv A outer s H E hr => ⟨_, (dss_cons (ds_if (dt_cmp op_lt snd_iLt (dv 1) (d_callB call_len_seq snd_len T.z_len (da_cons (dv 0) da_nil) (hv := bt_len)) (nomark _)) (dss_one (ds_ret (d_ix (dv 0) (dv 1)))) dss_nil)
  (dss_cons (ds_set (i := 2) sc__law_cell.nd (d_op op_modN snd_iMod (d_callTy call_int1 snd_int1 T.z_int (da_cons (d_op op_add snd_iAdd (d_op op_add snd_iAdd (d_op op_mulW snd_iMul (d_op op_mulW snd_iMul (dv 1) (dv 1)) d_int) (d_op op_mulW snd_iMul d_int (dv 1))) d_int) da_nil) (hv := bt_int)) d_int))
  (dss_cons (ds_for PassesOwn.never rfl (d_cutTo (dv 0)) (dg_name (i := 3) sc__law_cell.nd) (dss_one (ds_set (i := 2) sc__law_cell.nd (d_op op_modN snd_iMod (d_callTy call_int1 snd_int1 T.z_int (da_cons (d_op op_add snd_iAdd (d_op op_mulW snd_iMul (dv 2) d_int) (dv 3)) da_nil) (hv := bt_int)) d_int))))
  (dss_one (ds_ret (dv 2))))))⟩) (fun ds S Q hl h => ?_)
  match ds, h with
  | [.scr xs, .int k], ⟨hx, hk, h⟩ =>
    have loop : ∀ (ys : List D), AllI ys → ∀ (m : Int) (o : Option D), 0 ≤ m ∧ m < 998244353 → ∀ (step : D → DEnv → MS → (DEnv → MS → Prop) → Prop) (fin : DEnv → MS → Prop),
        (∀ (i m : Int) (o : Option D) (nx : DEnv → MS → Prop), 0 ≤ m ∧ m < 998244353 → (∀ m', 0 ≤ m' ∧ m' < 998244353 → nx [some (.scr xs), some (.int k), some (.int m'), some (.int i)] S) → step (.int i) [some (.scr xs), some (.int k), some (.int m), o] S nx) →
        (∀ m o, fin [some (.scr xs), some (.int k), some (.int m), o] S) → forD ys step fin [some (.scr xs), some (.int k), some (.int m), o] S := by
      intro ys
      induction ys with
      | nil => intro _ m o _ step fin _ hf; exact hf m o
      | cons y ys ih =>
        intro hy m o hm step fin hs hf
        obtain ⟨i, rfl⟩ := hy y List.mem_cons_self
        exact hs i m o _ hm fun m' hm' => ih (fun d hd => hy d (List.mem_cons_of_mem _ hd)) m' (some (.int i)) hm' step fin hs hf
    simp only [true_and, and_true, oU2, oUn1, oL1, oS1, oR1, oJust, iAdd, iSub, iMul, iFdiv, iMod, iEq, iNe, iLt, iLe, iGt, iGe, iNeg, iAbs, DL.iStr, wFmt, wJs, wJoined, sNext, sSeq, sDrop, sRet, sRetN, sIf, sAsg, sPar, wOp, wVar, wC, wUn, wCons, wNil, wCB, wCall, wMake, wMakeSw, wCallSw, wProp, wFld, oI, oI0, oU, wTest, wAnd, wOr, wNot, wAndV, wOrV, wNotV, wIf, wTup, wLst, wLstM, gwName, gwNil, gwCons, gwTup, gwSub, oIx, oInt1, oAbsI, oLen, oGcd, oDivmod, oMax2, oMin2, oIsi, tyOf, clOf, kt_ii, kt_ib, kt_rr, kt_ir, kt_ri, kt_rb, kt_ni, kt_bi, kt_bb, kt_si, kt_ti, kt_li, kt_di, kt_nr, kt_br, kt_sr, kt_tr, kt_lr, kt_dr, oStrI, if_t1, if_f1, Bool.not_true, Bool.not_false, rt, startD, List.map_cons, List.map_nil, List.length_cons, List.length_nil, List.cons_append, List.nil_append, List.getElem?_cons_zero, List.getElem?_cons_succ, List.set_cons_zero, List.set_cons_succ, List.replicate, Nat.reduceAdd, Nat.reduceSub, Nat.zero_add, Nat.sub_self, Nat.add_sub_cancel, lk_top, lk_bot, w1, w2, numD_int, numD_ins, w_is_int, w_is_number, wi_Ratio, w_as_ratio, w_top, w_bottom, w1r, w2r, w_add, w_neg, w_abs, w_sub, w_mul, w_radd, w_rsub, w_rmul, w_floordiv, w_rfloordiv, w_mod, w_rmod, w_str, w_repr, w_eq, w_quotient, wCutTo, wTruth, oPow, sFor, sForR, at0', at1, at2, forStep]
    by_cases hl : k < (xs.length : Int)
    · rw [decide_eq_true hl]
      simp only [true_and, and_true, oU2, oUn1, oL1, oS1, oR1, oJust, iAdd, iSub, iMul, iFdiv, iMod, iEq, iNe, iLt, iLe, iGt, iGe, iNeg, iAbs, DL.iStr, wFmt, wJs, wJoined, sNext, sSeq, sDrop, sRet, sRetN, sIf, sAsg, sPar, wOp, wVar, wC, wUn, wCons, wNil, wCB, wCall, wMake, wMakeSw, wCallSw, wProp, wFld, oI, oI0, oU, wTest, wAnd, wOr, wNot, wAndV, wOrV, wNotV, wIf, wTup, wLst, wLstM, gwName, gwNil, gwCons, gwTup, gwSub, oIx, oInt1, oAbsI, oLen, oGcd, oDivmod, oMax2, oMin2, oIsi, tyOf, clOf, kt_ii, kt_ib, kt_rr, kt_ir, kt_ri, kt_rb, kt_ni, kt_bi, kt_bb, kt_si, kt_ti, kt_li, kt_di, kt_nr, kt_br, kt_sr, kt_tr, kt_lr, kt_dr, oStrI, if_t1, if_f1, Bool.not_true, Bool.not_false, rt, startD, List.map_cons, List.map_nil, List.length_cons, List.length_nil, List.cons_append, List.nil_append, List.getElem?_cons_zero, List.getElem?_cons_succ, List.set_cons_zero, List.set_cons_succ, List.replicate, Nat.reduceAdd, Nat.reduceSub, Nat.zero_add, Nat.sub_self, Nat.add_sub_cancel, lk_top, lk_bot, w1, w2, numD_int, numD_ins, w_is_int, w_is_number, wi_Ratio, w_as_ratio, w_top, w_bottom, w1r, w2r, w_add, w_neg, w_abs, w_sub, w_mul, w_radd, w_rsub, w_rmul, w_floordiv, w_rfloordiv, w_mod, w_rmod, w_str, w_repr, w_eq, w_quotient, wCutTo, wTruth, oPow, sFor, sForR, at0', at1, at2, forStep]
      obtain ⟨i, hi⟩ := hx.at hk.1 hl
      rw [hi]
      exact h i
    · rw [decide_eq_false hl]
      simp only [true_and, and_true, oU2, oUn1, oL1, oS1, oR1, oJust, iAdd, iSub, iMul, iFdiv, iMod, iEq, iNe, iLt, iLe, iGt, iGe, iNeg, iAbs, DL.iStr, wFmt, wJs, wJoined, sNext, sSeq, sDrop, sRet, sRetN, sIf, sAsg, sPar, wOp, wVar, wC, wUn, wCons, wNil, wCB, wCall, wMake, wMakeSw, wCallSw, wProp, wFld, oI, oI0, oU, wTest, wAnd, wOr, wNot, wAndV, wOrV, wNotV, wIf, wTup, wLst, wLstM, gwName, gwNil, gwCons, gwTup, gwSub, oIx, oInt1, oAbsI, oLen, oGcd, oDivmod, oMax2, oMin2, oIsi, tyOf, clOf, kt_ii, kt_ib, kt_rr, kt_ir, kt_ri, kt_rb, kt_ni, kt_bi, kt_bb, kt_si, kt_ti, kt_li, kt_di, kt_nr, kt_br, kt_sr, kt_tr, kt_lr, kt_dr, oStrI, if_t1, if_f1, Bool.not_true, Bool.not_false, rt, startD, List.map_cons, List.map_nil, List.length_cons, List.length_nil, List.cons_append, List.nil_append, List.getElem?_cons_zero, List.getElem?_cons_succ, List.set_cons_zero, List.set_cons_succ, List.replicate, Nat.reduceAdd, Nat.reduceSub, Nat.zero_add, Nat.sub_self, Nat.add_sub_cancel, lk_top, lk_bot, w1, w2, numD_int, numD_ins, w_is_int, w_is_number, wi_Ratio, w_as_ratio, w_top, w_bottom, w1r, w2r, w_add, w_neg, w_abs, w_sub, w_mul, w_radd, w_rsub, w_rmul, w_floordiv, w_rfloordiv, w_mod, w_rmod, w_str, w_repr, w_eq, w_quotient, wCutTo, wTruth, oPow, sFor, sForR, at0', at1, at2, forStep]
      refine ⟨cm30 (by omega) (by omega), cm30 ?_ (by decide), cm30 (by decide) (by omega), by decide, ?_⟩
      · have z : k * k ≤ 100 * 100 := Int.mul_le_mul (by omega) (by omega) (by omega) (by omega)
        have z2 : 0 ≤ k * k := Int.mul_nonneg (by omega) (by omega)
        omega
      have big : ∀ x : Int, 0 ≤ x.fmod 998244353 ∧ x.fmod 998244353 < 998244353 := fun x => by
        rw [fmod_pos (by decide)]
        omega
      refine loop _ (hx.cut _ _) _ _ (big _) _ _ (fun i m o nx hm hn => ?_) (fun m o => ?_)
      · simp only [true_and, and_true, oU2, oUn1, oL1, oS1, oR1, oJust, iAdd, iSub, iMul, iFdiv, iMod, iEq, iNe, iLt, iLe, iGt, iGe, iNeg, iAbs, DL.iStr, wFmt, wJs, wJoined, sNext, sSeq, sDrop, sRet, sRetN, sIf, sAsg, sPar, wOp, wVar, wC, wUn, wCons, wNil, wCB, wCall, wMake, wMakeSw, wCallSw, wProp, wFld, oI, oI0, oU, wTest, wAnd, wOr, wNot, wAndV, wOrV, wNotV, wIf, wTup, wLst, wLstM, gwName, gwNil, gwCons, gwTup, gwSub, oIx, oInt1, oAbsI, oLen, oGcd, oDivmod, oMax2, oMin2, oIsi, tyOf, clOf, kt_ii, kt_ib, kt_rr, kt_ir, kt_ri, kt_rb, kt_ni, kt_bi, kt_bb, kt_si, kt_ti, kt_li, kt_di, kt_nr, kt_br, kt_sr, kt_tr, kt_lr, kt_dr, oStrI, if_t1, if_f1, Bool.not_true, Bool.not_false, rt, startD, List.map_cons, List.map_nil, List.length_cons, List.length_nil, List.cons_append, List.nil_append, List.getElem?_cons_zero, List.getElem?_cons_succ, List.set_cons_zero, List.set_cons_succ, List.replicate, Nat.reduceAdd, Nat.reduceSub, Nat.zero_add, Nat.sub_self, Nat.add_sub_cancel, lk_top, lk_bot, w1, w2, numD_int, numD_ins, w_is_int, w_is_number, wi_Ratio, w_as_ratio, w_top, w_bottom, w1r, w2r, w_add, w_neg, w_abs, w_sub, w_mul, w_radd, w_rsub, w_rmul, w_floordiv, w_rfloordiv, w_mod, w_rmod, w_str, w_repr, w_eq, w_quotient, wCutTo, wTruth, oPow, sFor, sForR, at0', at1, at2, forStep]
        exact ⟨cm30 (by omega) (by decide), by decide, hn _ (big _)⟩
      · exact h m
def w_purse : WF := fun ds S Q => match ds with
  | [.int c] => ∀ s g : Int, 0 ≤ s → s < 998244353 → 0 ≤ g → Q (.mut S.length) (S ++ [[.int s, .int g, .int 1]])
  | _ => False
theorem sc__law_purse : FnScope ["cell", "great"] ["cell"] (defScope s__law_purse) := ⟨rfl, rfl, rfl, by decide +kernel, rfl, by decide +kernel, by decide +kernel⟩
theorem ok__law_purse (T : Tx K mg) : FnOk P w K mg base CX0 1 T.f__law_purse T.fd__law_purse ["cell"] (spW ⟨K, mg⟩ 1 w_purse) := by
  refine fnD (k := 0) T.F__law_purse sc__law_purse (fun cdv A outer s H E hr => ⟨_, (dss_cons (ds_set (i := 1) sc__law_purse.nd (d_if (PDW.pt (dw_or (dt_cmp op_lt snd_iLt (dv 0) d_int (nomark _)) (dw_or1 (dt_cmp op_ge snd_iGe (dv 0) (d_op op_pow (snd_rI fun _ _ _ _ => .int _) d_int d_int) (nomark _))))) (d_callB call_abs snd_absI T.z_abs (da_cons (dv 0) da_nil) (hv := bt_abs)) d_int))
  (dss_one (ds_ret (d_lstM (da_cons (d_op op_modN snd_iMod (d_callTy call_int1 snd_int1 T.z_int (da_cons (dv 0) da_nil) (hv := bt_int)) d_int) (da_cons (dv 1) (da_cons d_int da_nil)))))))⟩) (fun ds S Q hl h => ?_)
  match ds, h with
  | [.int c], h =>
    have big : ∀ x : Int, 0 ≤ x.fmod 998244353 ∧ x.fmod 998244353 < 998244353 := fun x => by
      rw [fmod_pos (by decide)]
      omega
    have pw : CPow 10 18 := ⟨by decide, by decide, by decide⟩
    have l3 : 3 ≤ sizeLine := by decide
    have fin : ∀ g, 0 ≤ g → Q (.mut S.length) (S ++ [[.int (c.fmod 998244353), .int g, .int 1]]) := fun g hg => h _ _ (big c).1 (big c).2 hg
    simp only [true_and, and_true, oU2, oUn1, oL1, oS1, oR1, oJust, iAdd, iSub, iMul, iFdiv, iMod, iEq, iNe, iLt, iLe, iGt, iGe, iNeg, iAbs, DL.iStr, wFmt, wJs, wJoined, sNext, sSeq, sDrop, sRet, sRetN, sIf, sAsg, sPar, wOp, wVar, wC, wUn, wCons, wNil, wCB, wCall, wMake, wMakeSw, wCallSw, wProp, wFld, oI, oI0, oU, wTest, wAnd, wOr, wNot, wAndV, wOrV, wNotV, wIf, wTup, wLst, wLstM, gwName, gwNil, gwCons, gwTup, gwSub, oIx, oInt1, oAbsI, oLen, oGcd, oDivmod, oMax2, oMin2, oIsi, tyOf, clOf, kt_ii, kt_ib, kt_rr, kt_ir, kt_ri, kt_rb, kt_ni, kt_bi, kt_bb, kt_si, kt_ti, kt_li, kt_di, kt_nr, kt_br, kt_sr, kt_tr, kt_lr, kt_dr, oStrI, if_t1, if_f1, Bool.not_true, Bool.not_false, rt, startD, List.map_cons, List.map_nil, List.length_cons, List.length_nil, List.cons_append, List.nil_append, List.getElem?_cons_zero, List.getElem?_cons_succ, List.set_cons_zero, List.set_cons_succ, List.replicate, Nat.reduceAdd, Nat.reduceSub, Nat.zero_add, Nat.sub_self, Nat.add_sub_cancel, lk_top, lk_bot, w1, w2, numD_int, numD_ins, w_is_int, w_is_number, wi_Ratio, w_as_ratio, w_top, w_bottom, w1r, w2r, w_add, w_neg, w_abs, w_sub, w_mul, w_radd, w_rsub, w_rmul, w_floordiv, w_rfloordiv, w_mod, w_rmod, w_str, w_repr, w_eq, w_quotient, wCutTo, wTruth, oPow, sFor, sForR, at0', at1, at2, forStep]
    by_cases c0 : c < 0
    · rw [decide_eq_true c0]
      simp only [true_and, and_true, oU2, oUn1, oL1, oS1, oR1, oJust, iAdd, iSub, iMul, iFdiv, iMod, iEq, iNe, iLt, iLe, iGt, iGe, iNeg, iAbs, DL.iStr, wFmt, wJs, wJoined, sNext, sSeq, sDrop, sRet, sRetN, sIf, sAsg, sPar, wOp, wVar, wC, wUn, wCons, wNil, wCB, wCall, wMake, wMakeSw, wCallSw, wProp, wFld, oI, oI0, oU, wTest, wAnd, wOr, wNot, wAndV, wOrV, wNotV, wIf, wTup, wLst, wLstM, gwName, gwNil, gwCons, gwTup, gwSub, oIx, oInt1, oAbsI, oLen, oGcd, oDivmod, oMax2, oMin2, oIsi, tyOf, clOf, kt_ii, kt_ib, kt_rr, kt_ir, kt_ri, kt_rb, kt_ni, kt_bi, kt_bb, kt_si, kt_ti, kt_li, kt_di, kt_nr, kt_br, kt_sr, kt_tr, kt_lr, kt_dr, oStrI, if_t1, if_f1, Bool.not_true, Bool.not_false, rt, startD, List.map_cons, List.map_nil, List.length_cons, List.length_nil, List.cons_append, List.nil_append, List.getElem?_cons_zero, List.getElem?_cons_succ, List.set_cons_zero, List.set_cons_succ, List.replicate, Nat.reduceAdd, Nat.reduceSub, Nat.zero_add, Nat.sub_self, Nat.add_sub_cancel, lk_top, lk_bot, w1, w2, numD_int, numD_ins, w_is_int, w_is_number, wi_Ratio, w_as_ratio, w_top, w_bottom, w1r, w2r, w_add, w_neg, w_abs, w_sub, w_mul, w_radd, w_rsub, w_rmul, w_floordiv, w_rfloordiv, w_mod, w_rmod, w_str, w_repr, w_eq, w_quotient, wCutTo, wTruth, oPow, sFor, sForR, at0', at1, at2, forStep]
      exact ⟨by decide, l3, fin _ (by split <;> omega)⟩
    · rw [decide_eq_false c0]
      simp only [true_and, and_true, oU2, oUn1, oL1, oS1, oR1, oJust, iAdd, iSub, iMul, iFdiv, iMod, iEq, iNe, iLt, iLe, iGt, iGe, iNeg, iAbs, DL.iStr, wFmt, wJs, wJoined, sNext, sSeq, sDrop, sRet, sRetN, sIf, sAsg, sPar, wOp, wVar, wC, wUn, wCons, wNil, wCB, wCall, wMake, wMakeSw, wCallSw, wProp, wFld, oI, oI0, oU, wTest, wAnd, wOr, wNot, wAndV, wOrV, wNotV, wIf, wTup, wLst, wLstM, gwName, gwNil, gwCons, gwTup, gwSub, oIx, oInt1, oAbsI, oLen, oGcd, oDivmod, oMax2, oMin2, oIsi, tyOf, clOf, kt_ii, kt_ib, kt_rr, kt_ir, kt_ri, kt_rb, kt_ni, kt_bi, kt_bb, kt_si, kt_ti, kt_li, kt_di, kt_nr, kt_br, kt_sr, kt_tr, kt_lr, kt_dr, oStrI, if_t1, if_f1, Bool.not_true, Bool.not_false, rt, startD, List.map_cons, List.map_nil, List.length_cons, List.length_nil, List.cons_append, List.nil_append, List.getElem?_cons_zero, List.getElem?_cons_succ, List.set_cons_zero, List.set_cons_succ, List.replicate, Nat.reduceAdd, Nat.reduceSub, Nat.zero_add, Nat.sub_self, Nat.add_sub_cancel, lk_top, lk_bot, w1, w2, numD_int, numD_ins, w_is_int, w_is_number, wi_Ratio, w_as_ratio, w_top, w_bottom, w1r, w2r, w_add, w_neg, w_abs, w_sub, w_mul, w_radd, w_rsub, w_rmul, w_floordiv, w_rfloordiv, w_mod, w_rmod, w_str, w_repr, w_eq, w_quotient, wCutTo, wTruth, oPow, sFor, sForR, at0', at1, at2, forStep]
      refine ⟨pw, ?_⟩
      by_cases c1 : (10 : Int) ^ (18 : Int).toNat ≤ c
      · rw [decide_eq_true c1]
        simp only [true_and, and_true, oU2, oUn1, oL1, oS1, oR1, oJust, iAdd, iSub, iMul, iFdiv, iMod, iEq, iNe, iLt, iLe, iGt, iGe, iNeg, iAbs, DL.iStr, wFmt, wJs, wJoined, sNext, sSeq, sDrop, sRet, sRetN, sIf, sAsg, sPar, wOp, wVar, wC, wUn, wCons, wNil, wCB, wCall, wMake, wMakeSw, wCallSw, wProp, wFld, oI, oI0, oU, wTest, wAnd, wOr, wNot, wAndV, wOrV, wNotV, wIf, wTup, wLst, wLstM, gwName, gwNil, gwCons, gwTup, gwSub, oIx, oInt1, oAbsI, oLen, oGcd, oDivmod, oMax2, oMin2, oIsi, tyOf, clOf, kt_ii, kt_ib, kt_rr, kt_ir, kt_ri, kt_rb, kt_ni, kt_bi, kt_bb, kt_si, kt_ti, kt_li, kt_di, kt_nr, kt_br, kt_sr, kt_tr, kt_lr, kt_dr, oStrI, if_t1, if_f1, Bool.not_true, Bool.not_false, rt, startD, List.map_cons, List.map_nil, List.length_cons, List.length_nil, List.cons_append, List.nil_append, List.getElem?_cons_zero, List.getElem?_cons_succ, List.set_cons_zero, List.set_cons_succ, List.replicate, Nat.reduceAdd, Nat.reduceSub, Nat.zero_add, Nat.sub_self, Nat.add_sub_cancel, lk_top, lk_bot, w1, w2, numD_int, numD_ins, w_is_int, w_is_number, wi_Ratio, w_as_ratio, w_top, w_bottom, w1r, w2r, w_add, w_neg, w_abs, w_sub, w_mul, w_radd, w_rsub, w_rmul, w_floordiv, w_rfloordiv, w_mod, w_rmod, w_str, w_repr, w_eq, w_quotient, wCutTo, wTruth, oPow, sFor, sForR, at0', at1, at2, forStep]
        exact ⟨by decide, l3, fin _ (by split <;> omega)⟩
      · rw [decide_eq_false c1]
        simp only [true_and, and_true, oU2, oUn1, oL1, oS1, oR1, oJust, iAdd, iSub, iMul, iFdiv, iMod, iEq, iNe, iLt, iLe, iGt, iGe, iNeg, iAbs, DL.iStr, wFmt, wJs, wJoined, sNext, sSeq, sDrop, sRet, sRetN, sIf, sAsg, sPar, wOp, wVar, wC, wUn, wCons, wNil, wCB, wCall, wMake, wMakeSw, wCallSw, wProp, wFld, oI, oI0, oU, wTest, wAnd, wOr, wNot, wAndV, wOrV, wNotV, wIf, wTup, wLst, wLstM, gwName, gwNil, gwCons, gwTup, gwSub, oIx, oInt1, oAbsI, oLen, oGcd, oDivmod, oMax2, oMin2, oIsi, tyOf, clOf, kt_ii, kt_ib, kt_rr, kt_ir, kt_ri, kt_rb, kt_ni, kt_bi, kt_bb, kt_si, kt_ti, kt_li, kt_di, kt_nr, kt_br, kt_sr, kt_tr, kt_lr, kt_dr, oStrI, if_t1, if_f1, Bool.not_true, Bool.not_false, rt, startD, List.map_cons, List.map_nil, List.length_cons, List.length_nil, List.cons_append, List.nil_append, List.getElem?_cons_zero, List.getElem?_cons_succ, List.set_cons_zero, List.set_cons_succ, List.replicate, Nat.reduceAdd, Nat.reduceSub, Nat.zero_add, Nat.sub_self, Nat.add_sub_cancel, lk_top, lk_bot, w1, w2, numD_int, numD_ins, w_is_int, w_is_number, wi_Ratio, w_as_ratio, w_top, w_bottom, w1r, w2r, w_add, w_neg, w_abs, w_sub, w_mul, w_radd, w_rsub, w_rmul, w_floordiv, w_rfloordiv, w_mod, w_rmod, w_str, w_repr, w_eq, w_quotient, wCutTo, wTruth, oPow, sFor, sForR, at0', at1, at2, forStep]
        exact ⟨by decide, l3, fin _ (by decide)⟩
/-! ### lowest terms by the law's own steps -/
def lowR (o u : Int) : Int × Int := if 0 < u then (o.fdiv (gc o u), u.fdiv (gc o u)) else (o.fdiv (-gc o u), u.fdiv (-gc o u))
theorem lowR_pos {o u : Int} (h : 0 < u) : lowR o u = mkR o u := if_pos h
theorem gc_step {l r : Int} (h0 : 0 ≤ l) (h : 0 < r) : gc r (l.fmod r) = gc l r := by
  rw [fmod_pos h]
  unfold gc
  have e : (l % r).natAbs = l.natAbs % r.natAbs := by
    obtain ⟨a, rfl⟩ := Int.eq_ofNat_of_zero_le h0
    obtain ⟨b, rfl⟩ := Int.eq_ofNat_of_zero_le (Int.le_of_lt h)
    rfl
  rw [e, Nat.gcd_comm r.natAbs, ← Nat.gcd_rec, Nat.gcd_comm]
theorem gc_zero {l : Int} (h : 0 ≤ l) : gc l 0 = l := by
  unfold gc
  simp
  omega
theorem gc_abs (o u : Int) : gc (if o < 0 then -o else o) (if u < 0 then -u else u) = gc o u := by
  unfold gc
  have a : ∀ x : Int, (if x < 0 then -x else x).natAbs = x.natAbs := fun x => by split <;> omega
  rw [a, a]
theorem gc_ne {o u : Int} (h : u ≠ 0) : 0 < gc o u := by
  unfold gc
  have : 0 < Nat.gcd o.natAbs u.natAbs := Nat.gcd_pos_of_pos_right _ (by omega)
  omega
theorem gc_le' {o u : Int} (h : u ≠ 0) : (gc o u).natAbs ≤ u.natAbs := by
  unfold gc
  rw [Int.natAbs_natCast]
  exact Nat.gcd_le_right _ (by omega)

def w_low : WF := fun ds S Q => match ds with
  | [.int o, .int u] => u ≠ 0 ∧ u.natAbs < 2 ^ 9000 ∧ Q (.tup [.int (lowR o u).1, .int (lowR o u).2]) S
  | _ => False
theorem sc__law_low : FnScope ["over", "under", "left", "right"] ["over", "under"] (defScope s__law_low) := ⟨rfl, rfl, rfl, by decide +kernel, rfl, by decide +kernel, by decide +kernel⟩
theorem ok__law_low (T : Tx K mg) : FnOk P w K mg base CX0 1 T.f__law_low T.fd__law_low ["over", "under"] (spW ⟨K, mg⟩ 2 w_low) := by
  refine fnD (k := 0) T.F__law_low sc__law_low (fun cdv A outer s H E hr => ⟨_, (dss_cons (ds_par (i := 2) (j := 3) rfl sc__law_low.nd (da_cons (d_callB call_abs snd_absI T.z_abs (da_cons (dv 0) da_nil) (hv := bt_abs)) (da_cons (d_callB call_abs snd_absI T.z_abs (da_cons (dv 1) da_nil) (hv := bt_abs)) da_nil)))
  (dss_cons (ds_while PassesOwn.never (dt_cmp op_ne snd_iNe (dv 3) d_int (nomark _)) (dss_one (ds_par (i := 2) (j := 3) rfl sc__law_low.nd (da_cons (dv 3) (da_cons (d_op op_modN snd_iMod (d_callTy call_int1 snd_int1 T.z_int (da_cons (dv 2) da_nil) (hv := bt_int)) (dv 3)) da_nil)))))
  (dss_cons (ds_set (i := 2) sc__law_low.nd (d_if (dt_cmp op_gt snd_iGt (dv 1) d_int (nomark _)) (dv 2) (d_un un_neg (snd_rU fun _ _ _ => .int _) (dv 2))))
  (dss_one (ds_ret (d_tup (da_cons (d_op op_fdivWN snd_iFdiv (dv 0) (dv 2)) (da_cons (d_op op_fdivWN snd_iFdiv (dv 1) (dv 2)) da_nil))))))))⟩) (fun ds S Q hl h => ?_)
  match ds, h with
  | [.int o, .int u], ⟨hu, hu2, h⟩ =>
    have gp := gc_ne (o := o) hu
    have dv : ∀ x, CDivWN x (gc o u) := fun x => ⟨by omega, lt_log2 (by decide) (Nat.lt_of_le_of_lt (gc_le' hu) hu2)⟩
    have dv2 : ∀ x, CDivWN x (-gc o u) := fun x => ⟨by omega, by rw [Int.natAbs_neg]; exact lt_log2 (by decide) (Nat.lt_of_le_of_lt (gc_le' hu) hu2)⟩
    have l2 : 2 ≤ sizeLine := by decide
    have h : Q (.tup [.int (if 0 < u then (o.fdiv (gc o u), u.fdiv (gc o u)) else (o.fdiv (-gc o u), u.fdiv (-gc o u))).1, .int (if 0 < u then (o.fdiv (gc o u), u.fdiv (gc o u)) else (o.fdiv (-gc o u), u.fdiv (-gc o u))).2]) S := h
    simp only [true_and, and_true, oU2, oUn1, oL1, oS1, oR1, oJust, iAdd, iSub, iMul, iFdiv, iMod, iEq, iNe, iLt, iLe, iGt, iGe, iNeg, iAbs, DL.iStr, wFmt, wJs, wJoined, sNext, sSeq, sDrop, sRet, sRetN, sIf, sAsg, sPar, wOp, wVar, wC, wUn, wCons, wNil, wCB, wCall, wMake, wMakeSw, wCallSw, wProp, wFld, oI, oI0, oU, wTest, wAnd, wOr, wNot, wAndV, wOrV, wNotV, wIf, wTup, wLst, wLstM, gwName, gwNil, gwCons, gwTup, gwSub, oIx, oInt1, oAbsI, oLen, oGcd, oDivmod, oMax2, oMin2, oIsi, tyOf, clOf, kt_ii, kt_ib, kt_rr, kt_ir, kt_ri, kt_rb, kt_ni, kt_bi, kt_bb, kt_si, kt_ti, kt_li, kt_di, kt_nr, kt_br, kt_sr, kt_tr, kt_lr, kt_dr, oStrI, if_t1, if_f1, Bool.not_true, Bool.not_false, rt, startD, List.map_cons, List.map_nil, List.length_cons, List.length_nil, List.cons_append, List.nil_append, List.getElem?_cons_zero, List.getElem?_cons_succ, List.set_cons_zero, List.set_cons_succ, List.replicate, Nat.reduceAdd, Nat.reduceSub, Nat.zero_add, Nat.sub_self, Nat.add_sub_cancel, lk_top, lk_bot, w1, w2, numD_int, numD_ins, w_is_int, w_is_number, wi_Ratio, w_as_ratio, w_top, w_bottom, w1r, w2r, w_add, w_neg, w_abs, w_sub, w_mul, w_radd, w_rsub, w_rmul, w_floordiv, w_rfloordiv, w_mod, w_rmod, w_str, w_repr, w_eq, w_quotient, wCutTo, wTruth, oPow, sFor, sForR, at0', at1, at2, forStep, sWhile]
    refine ⟨fun m ρ S' => S' = S ∧ ∃ l r : Int, ρ = [some (.int o), some (.int u), some (.int l), some (.int r)] ∧ 0 ≤ l ∧ 0 ≤ r ∧ gc l r = gc o u ∧ m = r.natAbs, ⟨_, rfl, _, _, rfl, by split <;> omega, by split <;> omega, gc_abs o u, rfl⟩, ?_⟩
    rintro m ρ S' ⟨rfl, l, r, rfl, l0, r0, hg, rfl⟩
    simp only [true_and, and_true, oU2, oUn1, oL1, oS1, oR1, oJust, iAdd, iSub, iMul, iFdiv, iMod, iEq, iNe, iLt, iLe, iGt, iGe, iNeg, iAbs, DL.iStr, wFmt, wJs, wJoined, sNext, sSeq, sDrop, sRet, sRetN, sIf, sAsg, sPar, wOp, wVar, wC, wUn, wCons, wNil, wCB, wCall, wMake, wMakeSw, wCallSw, wProp, wFld, oI, oI0, oU, wTest, wAnd, wOr, wNot, wAndV, wOrV, wNotV, wIf, wTup, wLst, wLstM, gwName, gwNil, gwCons, gwTup, gwSub, oIx, oInt1, oAbsI, oLen, oGcd, oDivmod, oMax2, oMin2, oIsi, tyOf, clOf, kt_ii, kt_ib, kt_rr, kt_ir, kt_ri, kt_rb, kt_ni, kt_bi, kt_bb, kt_si, kt_ti, kt_li, kt_di, kt_nr, kt_br, kt_sr, kt_tr, kt_lr, kt_dr, oStrI, if_t1, if_f1, Bool.not_true, Bool.not_false, rt, startD, List.map_cons, List.map_nil, List.length_cons, List.length_nil, List.cons_append, List.nil_append, List.getElem?_cons_zero, List.getElem?_cons_succ, List.set_cons_zero, List.set_cons_succ, List.replicate, Nat.reduceAdd, Nat.reduceSub, Nat.zero_add, Nat.sub_self, Nat.add_sub_cancel, lk_top, lk_bot, w1, w2, numD_int, numD_ins, w_is_int, w_is_number, wi_Ratio, w_as_ratio, w_top, w_bottom, w1r, w2r, w_add, w_neg, w_abs, w_sub, w_mul, w_radd, w_rsub, w_rmul, w_floordiv, w_rfloordiv, w_mod, w_rmod, w_str, w_repr, w_eq, w_quotient, wCutTo, wTruth, oPow, sFor, sForR, at0', at1, at2, forStep, sWhile]
    by_cases rz : r = 0
    · subst rz
      simp only [decide_true, Bool.not_true]
      simp only [true_and, and_true, oU2, oUn1, oL1, oS1, oR1, oJust, iAdd, iSub, iMul, iFdiv, iMod, iEq, iNe, iLt, iLe, iGt, iGe, iNeg, iAbs, DL.iStr, wFmt, wJs, wJoined, sNext, sSeq, sDrop, sRet, sRetN, sIf, sAsg, sPar, wOp, wVar, wC, wUn, wCons, wNil, wCB, wCall, wMake, wMakeSw, wCallSw, wProp, wFld, oI, oI0, oU, wTest, wAnd, wOr, wNot, wAndV, wOrV, wNotV, wIf, wTup, wLst, wLstM, gwName, gwNil, gwCons, gwTup, gwSub, oIx, oInt1, oAbsI, oLen, oGcd, oDivmod, oMax2, oMin2, oIsi, tyOf, clOf, kt_ii, kt_ib, kt_rr, kt_ir, kt_ri, kt_rb, kt_ni, kt_bi, kt_bb, kt_si, kt_ti, kt_li, kt_di, kt_nr, kt_br, kt_sr, kt_tr, kt_lr, kt_dr, oStrI, if_t1, if_f1, Bool.not_true, Bool.not_false, rt, startD, List.map_cons, List.map_nil, List.length_cons, List.length_nil, List.cons_append, List.nil_append, List.getElem?_cons_zero, List.getElem?_cons_succ, List.set_cons_zero, List.set_cons_succ, List.replicate, Nat.reduceAdd, Nat.reduceSub, Nat.zero_add, Nat.sub_self, Nat.add_sub_cancel, lk_top, lk_bot, w1, w2, numD_int, numD_ins, w_is_int, w_is_number, wi_Ratio, w_as_ratio, w_top, w_bottom, w1r, w2r, w_add, w_neg, w_abs, w_sub, w_mul, w_radd, w_rsub, w_rmul, w_floordiv, w_rfloordiv, w_mod, w_rmod, w_str, w_repr, w_eq, w_quotient, wCutTo, wTruth, oPow, sFor, sForR, at0', at1, at2, forStep, sWhile]
      rw [gc_zero l0] at hg
      subst hg
      by_cases hu0 : 0 < u
      · rw [decide_eq_true hu0]
        rw [if_pos hu0] at h
        simp only [true_and, and_true, oU2, oUn1, oL1, oS1, oR1, oJust, iAdd, iSub, iMul, iFdiv, iMod, iEq, iNe, iLt, iLe, iGt, iGe, iNeg, iAbs, DL.iStr, wFmt, wJs, wJoined, sNext, sSeq, sDrop, sRet, sRetN, sIf, sAsg, sPar, wOp, wVar, wC, wUn, wCons, wNil, wCB, wCall, wMake, wMakeSw, wCallSw, wProp, wFld, oI, oI0, oU, wTest, wAnd, wOr, wNot, wAndV, wOrV, wNotV, wIf, wTup, wLst, wLstM, gwName, gwNil, gwCons, gwTup, gwSub, oIx, oInt1, oAbsI, oLen, oGcd, oDivmod, oMax2, oMin2, oIsi, tyOf, clOf, kt_ii, kt_ib, kt_rr, kt_ir, kt_ri, kt_rb, kt_ni, kt_bi, kt_bb, kt_si, kt_ti, kt_li, kt_di, kt_nr, kt_br, kt_sr, kt_tr, kt_lr, kt_dr, oStrI, if_t1, if_f1, Bool.not_true, Bool.not_false, rt, startD, List.map_cons, List.map_nil, List.length_cons, List.length_nil, List.cons_append, List.nil_append, List.getElem?_cons_zero, List.getElem?_cons_succ, List.set_cons_zero, List.set_cons_succ, List.replicate, Nat.reduceAdd, Nat.reduceSub, Nat.zero_add, Nat.sub_self, Nat.add_sub_cancel, lk_top, lk_bot, w1, w2, numD_int, numD_ins, w_is_int, w_is_number, wi_Ratio, w_as_ratio, w_top, w_bottom, w1r, w2r, w_add, w_neg, w_abs, w_sub, w_mul, w_radd, w_rsub, w_rmul, w_floordiv, w_rfloordiv, w_mod, w_rmod, w_str, w_repr, w_eq, w_quotient, wCutTo, wTruth, oPow, sFor, sForR, at0', at1, at2, forStep, sWhile]
        exact ⟨dv _, dv _, l2, h⟩
      · rw [decide_eq_false hu0]
        rw [if_neg hu0] at h
        simp only [true_and, and_true, oU2, oUn1, oL1, oS1, oR1, oJust, iAdd, iSub, iMul, iFdiv, iMod, iEq, iNe, iLt, iLe, iGt, iGe, iNeg, iAbs, DL.iStr, wFmt, wJs, wJoined, sNext, sSeq, sDrop, sRet, sRetN, sIf, sAsg, sPar, wOp, wVar, wC, wUn, wCons, wNil, wCB, wCall, wMake, wMakeSw, wCallSw, wProp, wFld, oI, oI0, oU, wTest, wAnd, wOr, wNot, wAndV, wOrV, wNotV, wIf, wTup, wLst, wLstM, gwName, gwNil, gwCons, gwTup, gwSub, oIx, oInt1, oAbsI, oLen, oGcd, oDivmod, oMax2, oMin2, oIsi, tyOf, clOf, kt_ii, kt_ib, kt_rr, kt_ir, kt_ri, kt_rb, kt_ni, kt_bi, kt_bb, kt_si, kt_ti, kt_li, kt_di, kt_nr, kt_br, kt_sr, kt_tr, kt_lr, kt_dr, oStrI, if_t1, if_f1, Bool.not_true, Bool.not_false, rt, startD, List.map_cons, List.map_nil, List.length_cons, List.length_nil, List.cons_append, List.nil_append, List.getElem?_cons_zero, List.getElem?_cons_succ, List.set_cons_zero, List.set_cons_succ, List.replicate, Nat.reduceAdd, Nat.reduceSub, Nat.zero_add, Nat.sub_self, Nat.add_sub_cancel, lk_top, lk_bot, w1, w2, numD_int, numD_ins, w_is_int, w_is_number, wi_Ratio, w_as_ratio, w_top, w_bottom, w1r, w2r, w_add, w_neg, w_abs, w_sub, w_mul, w_radd, w_rsub, w_rmul, w_floordiv, w_rfloordiv, w_mod, w_rmod, w_str, w_repr, w_eq, w_quotient, wCutTo, wTruth, oPow, sFor, sForR, at0', at1, at2, forStep, sWhile]
        exact ⟨dv2 _, dv2 _, l2, h⟩
    · rw [decide_eq_false rz]
      simp only [true_and, and_true, oU2, oUn1, oL1, oS1, oR1, oJust, iAdd, iSub, iMul, iFdiv, iMod, iEq, iNe, iLt, iLe, iGt, iGe, iNeg, iAbs, DL.iStr, wFmt, wJs, wJoined, sNext, sSeq, sDrop, sRet, sRetN, sIf, sAsg, sPar, wOp, wVar, wC, wUn, wCons, wNil, wCB, wCall, wMake, wMakeSw, wCallSw, wProp, wFld, oI, oI0, oU, wTest, wAnd, wOr, wNot, wAndV, wOrV, wNotV, wIf, wTup, wLst, wLstM, gwName, gwNil, gwCons, gwTup, gwSub, oIx, oInt1, oAbsI, oLen, oGcd, oDivmod, oMax2, oMin2, oIsi, tyOf, clOf, kt_ii, kt_ib, kt_rr, kt_ir, kt_ri, kt_rb, kt_ni, kt_bi, kt_bb, kt_si, kt_ti, kt_li, kt_di, kt_nr, kt_br, kt_sr, kt_tr, kt_lr, kt_dr, oStrI, if_t1, if_f1, Bool.not_true, Bool.not_false, rt, startD, List.map_cons, List.map_nil, List.length_cons, List.length_nil, List.cons_append, List.nil_append, List.getElem?_cons_zero, List.getElem?_cons_succ, List.set_cons_zero, List.set_cons_succ, List.replicate, Nat.reduceAdd, Nat.reduceSub, Nat.zero_add, Nat.sub_self, Nat.add_sub_cancel, lk_top, lk_bot, w1, w2, numD_int, numD_ins, w_is_int, w_is_number, wi_Ratio, w_as_ratio, w_top, w_bottom, w1r, w2r, w_add, w_neg, w_abs, w_sub, w_mul, w_radd, w_rsub, w_rmul, w_floordiv, w_rfloordiv, w_mod, w_rmod, w_str, w_repr, w_eq, w_quotient, wCutTo, wTruth, oPow, sFor, sForR, at0', at1, at2, forStep, sWhile]
      have rp : 0 < r := by omega
      have fm : 0 ≤ l.fmod r ∧ l.fmod r < r := by
        rw [fmod_pos rp]
        exact ⟨Int.emod_nonneg _ (by omega), Int.emod_lt_of_pos _ rp⟩
      exact ⟨rz, (l.fmod r).natAbs, by omega, r, l.fmod r, rfl, r0, fm.1, (gc_step l0 rp).trans hg, rfl⟩
theorem cmW {a b : Int} (ha : a.natAbs < 2 ^ 4000) (hb : b.natAbs < 2 ^ 4000) : CMulW a b := wide_mul ha hb (by decide) (by decide) (by decide)
def L4 (x : Int) : Prop := x.natAbs < 2 ^ 4000

end
end K1
set_option Elab.async false
set_option linter.all false
set_option maxRecDepth 100000
namespace K1
open PySem PySem.Spec PyProof.Rows L2 DL
section
variable {P : Program} {w : World} {K : PySem.W.Frag} {mg : Str → Option Value} {base : Heap}
theorem tk {S : MS} {m : Nat} {c many : Int} {Q : D → MS → Prop} (pu : Pu S m c) (h1 : 1 ≤ c) (h2 : c ≤ 100000) (hm : 0 < many) (hl : many.natAbs.log2 < 9000) (h : ∀ k S', 0 ≤ k → k < many → Pu S' m (c + 1) → Oth m S S' → Q (.int k) S') : w_take [.mut m, .int many] S Q :=
  ⟨c, pu, ⟨h1, h2⟩, ⟨hm, hl⟩, h⟩
theorem l20 : ((10 : Int) ^ (20 : Int).toNat).natAbs.log2 < 9000 := by decide +kernel
theorem l9 : ((10 : Int) ^ (9 : Int).toNat).natAbs.log2 < 9000 := by decide +kernel
theorem e20 : (10 : Int) ^ (20 : Int).toNat = 100000000000000000000 := by decide +kernel
theorem e9 : (10 : Int) ^ (9 : Int).toNat = 1000000000 := by decide +kernel
theorem p10 (n : Nat) (h : n ≤ 1000000) : CPow 10 (n : Int) := ⟨by omega, by omega, by decide⟩
theorem sg {k x : Int} (hk0 : 0 ≤ k) (hk1 : k < 2) (hx0 : 0 ≤ x) (hx : x < 10000000000000000000000000000000000000000) : ((1 - 2 * k) * x).natAbs < 2 ^ 140 := by
  have : k = 0 ∨ k = 1 := by omega
  rcases this with rfl | rfl
  · have : (1 - 2 * 0) * x = x := by omega
    rw [this]
    omega
  · have : (1 - 2 * 1) * x = -x := by omega
    rw [this]
    omega

def w_whole : WF := fun ds S Q => match ds with
  | [.mut m] => ∃ c, Pu S m c ∧ 1 ≤ c ∧ c ≤ 90000 ∧ ∀ k S' c', k.natAbs < 2 ^ 140 → Pu S' m c' → c ≤ c' → c' ≤ c + 5 → Oth m S S' → Q (.int k) S'
  | _ => False
theorem sc__law_whole : FnScope ["purse", "way", "sign", "great"] ["purse"] (defScope s__law_whole) := ⟨rfl, rfl, rfl, by decide +kernel, rfl, by decide +kernel, by decide +kernel⟩
theorem ok__law_whole (T : Tx K mg) : FnOk P w K mg base CX0 2 T.f__law_whole T.fd__law_whole ["purse"] (spW ⟨K, mg⟩ 1 w_whole) := by
  refine fnD (k := 1) T.F__law_whole sc__law_whole (fun cdv A outer s H E hr => ⟨_, (dss_cons (ds_par (i := 1) (j := 2) rfl sc__law_whole.nd (da_cons (d_call (ok__law_take T) (hr.mono (by decide)) T.m__law_take T.F__law_take.kp T.b__law_take (da_cons (dv 0) (da_cons d_int da_nil))) (da_cons (d_op op_sub snd_iSub d_int (d_op op_mulW snd_iMul d_int (d_call (ok__law_take T) (hr.mono (by decide)) T.m__law_take T.F__law_take.kp T.b__law_take (da_cons (dv 0) (da_cons d_int da_nil))))) da_nil)))
  (dss_cons (ds_if (dt_cmp op_lt snd_iLt (dv 1) d_int (nomark _)) (dss_one (ds_ret (d_op op_mulW snd_iMul (dv 2) (d_call (ok__law_take T) (hr.mono (by decide)) T.m__law_take T.F__law_take.kp T.b__law_take (da_cons (dv 0) (da_cons (d_ix (d_lst (da_cons d_int (da_cons d_int (da_cons d_int da_nil)))) (dv 1)) da_nil)))))) dss_nil)
  (dss_cons (ds_set (i := 3) sc__law_whole.nd (d_call (ok__law_take T) (hr.mono (by decide)) T.m__law_take T.F__law_take.kp T.b__law_take (da_cons (dv 0) (da_cons (d_op op_pow (snd_rI fun _ _ _ _ => .int _) d_int d_int) da_nil))))
  (dss_cons (ds_if (dt_cmp op_eq snd_iEq (dv 1) d_int (nomark _)) (dss_one (ds_set (i := 3) sc__law_whole.nd (d_op op_add snd_iAdd (d_op op_mulW snd_iMul (d_call (ok__law_take T) (hr.mono (by decide)) T.m__law_take T.F__law_take.kp T.b__law_take (da_cons (dv 0) (da_cons (d_op op_pow (snd_rI fun _ _ _ _ => .int _) d_int d_int) da_nil))) (d_op op_pow (snd_rI fun _ _ _ _ => .int _) d_int d_int)) (d_call (ok__law_take T) (hr.mono (by decide)) T.m__law_take T.F__law_take.kp T.b__law_take (da_cons (dv 0) (da_cons (d_op op_pow (snd_rI fun _ _ _ _ => .int _) d_int d_int) da_nil)))))) dss_nil)
  (dss_one (ds_ret (d_op op_mulW snd_iMul (dv 2) (dv 3))))))))⟩) (fun ds S Q hl h => ?_)
  match ds, h with
  | [.mut m], ⟨c, pu, hc1, hc2, h⟩ =>
    have l3 : 3 ≤ sizeLine := by decide
    simp only [true_and, and_true, oU2, oUn1, oL1, oS1, oR1, oJust, iAdd, iSub, iMul, iFdiv, iMod, iEq, iNe, iLt, iLe, iGt, iGe, iNeg, iAbs, DL.iStr, wFmt, wJs, wJoined, sNext, sSeq, sDrop, sRet, sRetN, sIf, sAsg, sPar, wOp, wVar, wC, wUn, wCons, wNil, wCB, wCall, wMake, wMakeSw, wCallSw, wProp, wFld, oI, oI0, oU, wTest, wAnd, wOr, wNot, wAndV, wOrV, wNotV, wIf, wTup, wLst, wLstM, gwName, gwNil, gwCons, gwTup, gwSub, oIx, oInt1, oAbsI, oLen, oGcd, oDivmod, oMax2, oMin2, oIsi, tyOf, clOf, kt_ii, kt_ib, kt_rr, kt_ir, kt_ri, kt_rb, kt_ni, kt_bi, kt_bb, kt_si, kt_ti, kt_li, kt_di, kt_nr, kt_br, kt_sr, kt_tr, kt_lr, kt_dr, oStrI, if_t1, if_f1, Bool.not_true, Bool.not_false, rt, startD, List.map_cons, List.map_nil, List.length_cons, List.length_nil, List.cons_append, List.nil_append, List.getElem?_cons_zero, List.getElem?_cons_succ, List.set_cons_zero, List.set_cons_succ, List.replicate, Nat.reduceAdd, Nat.reduceSub, Nat.zero_add, Nat.sub_self, Nat.add_sub_cancel, lk_top, lk_bot, w1, w2, numD_int, numD_ins, w_is_int, w_is_number, wi_Ratio, w_as_ratio, w_top, w_bottom, w1r, w2r, w_add, w_neg, w_abs, w_sub, w_mul, w_radd, w_rsub, w_rmul, w_floordiv, w_rfloordiv, w_mod, w_rmod, w_str, w_repr, w_eq, w_quotient, wCutTo, wTruth, oPow, sFor, sForR, at0', at1, at2, forStep, sWhile, w_low]
    refine tk pu hc1 (by omega) (by decide) (by decide) fun way S1 y0 y1 p1 o1 => ?_
    simp only [true_and, and_true, oU2, oUn1, oL1, oS1, oR1, oJust, iAdd, iSub, iMul, iFdiv, iMod, iEq, iNe, iLt, iLe, iGt, iGe, iNeg, iAbs, DL.iStr, wFmt, wJs, wJoined, sNext, sSeq, sDrop, sRet, sRetN, sIf, sAsg, sPar, wOp, wVar, wC, wUn, wCons, wNil, wCB, wCall, wMake, wMakeSw, wCallSw, wProp, wFld, oI, oI0, oU, wTest, wAnd, wOr, wNot, wAndV, wOrV, wNotV, wIf, wTup, wLst, wLstM, gwName, gwNil, gwCons, gwTup, gwSub, oIx, oInt1, oAbsI, oLen, oGcd, oDivmod, oMax2, oMin2, oIsi, tyOf, clOf, kt_ii, kt_ib, kt_rr, kt_ir, kt_ri, kt_rb, kt_ni, kt_bi, kt_bb, kt_si, kt_ti, kt_li, kt_di, kt_nr, kt_br, kt_sr, kt_tr, kt_lr, kt_dr, oStrI, if_t1, if_f1, Bool.not_true, Bool.not_false, rt, startD, List.map_cons, List.map_nil, List.length_cons, List.length_nil, List.cons_append, List.nil_append, List.getElem?_cons_zero, List.getElem?_cons_succ, List.set_cons_zero, List.set_cons_succ, List.replicate, Nat.reduceAdd, Nat.reduceSub, Nat.zero_add, Nat.sub_self, Nat.add_sub_cancel, lk_top, lk_bot, w1, w2, numD_int, numD_ins, w_is_int, w_is_number, wi_Ratio, w_as_ratio, w_top, w_bottom, w1r, w2r, w_add, w_neg, w_abs, w_sub, w_mul, w_radd, w_rsub, w_rmul, w_floordiv, w_rfloordiv, w_mod, w_rmod, w_str, w_repr, w_eq, w_quotient, wCutTo, wTruth, oPow, sFor, sForR, at0', at1, at2, forStep, sWhile, w_low]
    refine tk p1 (by omega) (by omega) (by decide) (by decide) fun sgn S2 z0 z1 p2 o2 => ?_
    simp only [true_and, and_true, oU2, oUn1, oL1, oS1, oR1, oJust, iAdd, iSub, iMul, iFdiv, iMod, iEq, iNe, iLt, iLe, iGt, iGe, iNeg, iAbs, DL.iStr, wFmt, wJs, wJoined, sNext, sSeq, sDrop, sRet, sRetN, sIf, sAsg, sPar, wOp, wVar, wC, wUn, wCons, wNil, wCB, wCall, wMake, wMakeSw, wCallSw, wProp, wFld, oI, oI0, oU, wTest, wAnd, wOr, wNot, wAndV, wOrV, wNotV, wIf, wTup, wLst, wLstM, gwName, gwNil, gwCons, gwTup, gwSub, oIx, oInt1, oAbsI, oLen, oGcd, oDivmod, oMax2, oMin2, oIsi, tyOf, clOf, kt_ii, kt_ib, kt_rr, kt_ir, kt_ri, kt_rb, kt_ni, kt_bi, kt_bb, kt_si, kt_ti, kt_li, kt_di, kt_nr, kt_br, kt_sr, kt_tr, kt_lr, kt_dr, oStrI, if_t1, if_f1, Bool.not_true, Bool.not_false, rt, startD, List.map_cons, List.map_nil, List.length_cons, List.length_nil, List.cons_append, List.nil_append, List.getElem?_cons_zero, List.getElem?_cons_succ, List.set_cons_zero, List.set_cons_succ, List.replicate, Nat.reduceAdd, Nat.reduceSub, Nat.zero_add, Nat.sub_self, Nat.add_sub_cancel, lk_top, lk_bot, w1, w2, numD_int, numD_ins, w_is_int, w_is_number, wi_Ratio, w_as_ratio, w_top, w_bottom, w1r, w2r, w_add, w_neg, w_abs, w_sub, w_mul, w_radd, w_rsub, w_rmul, w_floordiv, w_rfloordiv, w_mod, w_rmod, w_str, w_repr, w_eq, w_quotient, wCutTo, wTruth, oPow, sFor, sForR, at0', at1, at2, forStep, sWhile, w_low]
    refine ⟨cm30 (by decide) (by omega), ?_⟩
    have o12 := o1.trans o2
    by_cases c3 : way < 3
    · rw [decide_eq_true c3]
      simp only [true_and, and_true, oU2, oUn1, oL1, oS1, oR1, oJust, iAdd, iSub, iMul, iFdiv, iMod, iEq, iNe, iLt, iLe, iGt, iGe, iNeg, iAbs, DL.iStr, wFmt, wJs, wJoined, sNext, sSeq, sDrop, sRet, sRetN, sIf, sAsg, sPar, wOp, wVar, wC, wUn, wCons, wNil, wCB, wCall, wMake, wMakeSw, wCallSw, wProp, wFld, oI, oI0, oU, wTest, wAnd, wOr, wNot, wAndV, wOrV, wNotV, wIf, wTup, wLst, wLstM, gwName, gwNil, gwCons, gwTup, gwSub, oIx, oInt1, oAbsI, oLen, oGcd, oDivmod, oMax2, oMin2, oIsi, tyOf, clOf, kt_ii, kt_ib, kt_rr, kt_ir, kt_ri, kt_rb, kt_ni, kt_bi, kt_bb, kt_si, kt_ti, kt_li, kt_di, kt_nr, kt_br, kt_sr, kt_tr, kt_lr, kt_dr, oStrI, if_t1, if_f1, Bool.not_true, Bool.not_false, rt, startD, List.map_cons, List.map_nil, List.length_cons, List.length_nil, List.cons_append, List.nil_append, List.getElem?_cons_zero, List.getElem?_cons_succ, List.set_cons_zero, List.set_cons_succ, List.replicate, Nat.reduceAdd, Nat.reduceSub, Nat.zero_add, Nat.sub_self, Nat.add_sub_cancel, lk_top, lk_bot, w1, w2, numD_int, numD_ins, w_is_int, w_is_number, wi_Ratio, w_as_ratio, w_top, w_bottom, w1r, w2r, w_add, w_neg, w_abs, w_sub, w_mul, w_radd, w_rsub, w_rmul, w_floordiv, w_rfloordiv, w_mod, w_rmod, w_str, w_repr, w_eq, w_quotient, wCutTo, wTruth, oPow, sFor, sForR, at0', at1, at2, forStep, sWhile, w_low]
      refine ⟨l3, ?_⟩
      have hw : way = 0 ∨ way = 1 ∨ way = 2 := by omega
      rcases hw with rfl | rfl | rfl
      · simp only [true_and, and_true, oU2, oUn1, oL1, oS1, oR1, oJust, iAdd, iSub, iMul, iFdiv, iMod, iEq, iNe, iLt, iLe, iGt, iGe, iNeg, iAbs, DL.iStr, wFmt, wJs, wJoined, sNext, sSeq, sDrop, sRet, sRetN, sIf, sAsg, sPar, wOp, wVar, wC, wUn, wCons, wNil, wCB, wCall, wMake, wMakeSw, wCallSw, wProp, wFld, oI, oI0, oU, wTest, wAnd, wOr, wNot, wAndV, wOrV, wNotV, wIf, wTup, wLst, wLstM, gwName, gwNil, gwCons, gwTup, gwSub, oIx, oInt1, oAbsI, oLen, oGcd, oDivmod, oMax2, oMin2, oIsi, tyOf, clOf, kt_ii, kt_ib, kt_rr, kt_ir, kt_ri, kt_rb, kt_ni, kt_bi, kt_bb, kt_si, kt_ti, kt_li, kt_di, kt_nr, kt_br, kt_sr, kt_tr, kt_lr, kt_dr, oStrI, if_t1, if_f1, Bool.not_true, Bool.not_false, rt, startD, List.map_cons, List.map_nil, List.length_cons, List.length_nil, List.cons_append, List.nil_append, List.getElem?_cons_zero, List.getElem?_cons_succ, List.set_cons_zero, List.set_cons_succ, List.replicate, Nat.reduceAdd, Nat.reduceSub, Nat.zero_add, Nat.sub_self, Nat.add_sub_cancel, lk_top, lk_bot, w1, w2, numD_int, numD_ins, w_is_int, w_is_number, wi_Ratio, w_as_ratio, w_top, w_bottom, w1r, w2r, w_add, w_neg, w_abs, w_sub, w_mul, w_radd, w_rsub, w_rmul, w_floordiv, w_rfloordiv, w_mod, w_rmod, w_str, w_repr, w_eq, w_quotient, wCutTo, wTruth, oPow, sFor, sForR, at0', at1, at2, forStep, sWhile, w_low]
        refine tk p2 (by omega) (by omega) (by decide) (by decide) fun k S3 k0 k1 p3 o3 => ?_
        exact ⟨cm30 (by omega) (by omega), h _ _ _ (sg z0 z1 k0 (by omega)) p3 (by omega) (by omega) (o12.trans o3)⟩
      · simp only [true_and, and_true, oU2, oUn1, oL1, oS1, oR1, oJust, iAdd, iSub, iMul, iFdiv, iMod, iEq, iNe, iLt, iLe, iGt, iGe, iNeg, iAbs, DL.iStr, wFmt, wJs, wJoined, sNext, sSeq, sDrop, sRet, sRetN, sIf, sAsg, sPar, wOp, wVar, wC, wUn, wCons, wNil, wCB, wCall, wMake, wMakeSw, wCallSw, wProp, wFld, oI, oI0, oU, wTest, wAnd, wOr, wNot, wAndV, wOrV, wNotV, wIf, wTup, wLst, wLstM, gwName, gwNil, gwCons, gwTup, gwSub, oIx, oInt1, oAbsI, oLen, oGcd, oDivmod, oMax2, oMin2, oIsi, tyOf, clOf, kt_ii, kt_ib, kt_rr, kt_ir, kt_ri, kt_rb, kt_ni, kt_bi, kt_bb, kt_si, kt_ti, kt_li, kt_di, kt_nr, kt_br, kt_sr, kt_tr, kt_lr, kt_dr, oStrI, if_t1, if_f1, Bool.not_true, Bool.not_false, rt, startD, List.map_cons, List.map_nil, List.length_cons, List.length_nil, List.cons_append, List.nil_append, List.getElem?_cons_zero, List.getElem?_cons_succ, List.set_cons_zero, List.set_cons_succ, List.replicate, Nat.reduceAdd, Nat.reduceSub, Nat.zero_add, Nat.sub_self, Nat.add_sub_cancel, lk_top, lk_bot, w1, w2, numD_int, numD_ins, w_is_int, w_is_number, wi_Ratio, w_as_ratio, w_top, w_bottom, w1r, w2r, w_add, w_neg, w_abs, w_sub, w_mul, w_radd, w_rsub, w_rmul, w_floordiv, w_rfloordiv, w_mod, w_rmod, w_str, w_repr, w_eq, w_quotient, wCutTo, wTruth, oPow, sFor, sForR, at0', at1, at2, forStep, sWhile, w_low]
        refine tk p2 (by omega) (by omega) (by decide) (by decide) fun k S3 k0 k1 p3 o3 => ?_
        exact ⟨cm30 (by omega) (by omega), h _ _ _ (sg z0 z1 k0 (by omega)) p3 (by omega) (by omega) (o12.trans o3)⟩
      · simp only [true_and, and_true, oU2, oUn1, oL1, oS1, oR1, oJust, iAdd, iSub, iMul, iFdiv, iMod, iEq, iNe, iLt, iLe, iGt, iGe, iNeg, iAbs, DL.iStr, wFmt, wJs, wJoined, sNext, sSeq, sDrop, sRet, sRetN, sIf, sAsg, sPar, wOp, wVar, wC, wUn, wCons, wNil, wCB, wCall, wMake, wMakeSw, wCallSw, wProp, wFld, oI, oI0, oU, wTest, wAnd, wOr, wNot, wAndV, wOrV, wNotV, wIf, wTup, wLst, wLstM, gwName, gwNil, gwCons, gwTup, gwSub, oIx, oInt1, oAbsI, oLen, oGcd, oDivmod, oMax2, oMin2, oIsi, tyOf, clOf, kt_ii, kt_ib, kt_rr, kt_ir, kt_ri, kt_rb, kt_ni, kt_bi, kt_bb, kt_si, kt_ti, kt_li, kt_di, kt_nr, kt_br, kt_sr, kt_tr, kt_lr, kt_dr, oStrI, if_t1, if_f1, Bool.not_true, Bool.not_false, rt, startD, List.map_cons, List.map_nil, List.length_cons, List.length_nil, List.cons_append, List.nil_append, List.getElem?_cons_zero, List.getElem?_cons_succ, List.set_cons_zero, List.set_cons_succ, List.replicate, Nat.reduceAdd, Nat.reduceSub, Nat.zero_add, Nat.sub_self, Nat.add_sub_cancel, lk_top, lk_bot, w1, w2, numD_int, numD_ins, w_is_int, w_is_number, wi_Ratio, w_as_ratio, w_top, w_bottom, w1r, w2r, w_add, w_neg, w_abs, w_sub, w_mul, w_radd, w_rsub, w_rmul, w_floordiv, w_rfloordiv, w_mod, w_rmod, w_str, w_repr, w_eq, w_quotient, wCutTo, wTruth, oPow, sFor, sForR, at0', at1, at2, forStep, sWhile, w_low]
        refine tk p2 (by omega) (by omega) (by decide) (by decide) fun k S3 k0 k1 p3 o3 => ?_
        exact ⟨cm30 (by omega) (by omega), h _ _ _ (sg z0 z1 k0 (by omega)) p3 (by omega) (by omega) (o12.trans o3)⟩
    · rw [decide_eq_false c3]
      simp only [true_and, and_true, oU2, oUn1, oL1, oS1, oR1, oJust, iAdd, iSub, iMul, iFdiv, iMod, iEq, iNe, iLt, iLe, iGt, iGe, iNeg, iAbs, DL.iStr, wFmt, wJs, wJoined, sNext, sSeq, sDrop, sRet, sRetN, sIf, sAsg, sPar, wOp, wVar, wC, wUn, wCons, wNil, wCB, wCall, wMake, wMakeSw, wCallSw, wProp, wFld, oI, oI0, oU, wTest, wAnd, wOr, wNot, wAndV, wOrV, wNotV, wIf, wTup, wLst, wLstM, gwName, gwNil, gwCons, gwTup, gwSub, oIx, oInt1, oAbsI, oLen, oGcd, oDivmod, oMax2, oMin2, oIsi, tyOf, clOf, kt_ii, kt_ib, kt_rr, kt_ir, kt_ri, kt_rb, kt_ni, kt_bi, kt_bb, kt_si, kt_ti, kt_li, kt_di, kt_nr, kt_br, kt_sr, kt_tr, kt_lr, kt_dr, oStrI, if_t1, if_f1, Bool.not_true, Bool.not_false, rt, startD, List.map_cons, List.map_nil, List.length_cons, List.length_nil, List.cons_append, List.nil_append, List.getElem?_cons_zero, List.getElem?_cons_succ, List.set_cons_zero, List.set_cons_succ, List.replicate, Nat.reduceAdd, Nat.reduceSub, Nat.zero_add, Nat.sub_self, Nat.add_sub_cancel, lk_top, lk_bot, w1, w2, numD_int, numD_ins, w_is_int, w_is_number, wi_Ratio, w_as_ratio, w_top, w_bottom, w1r, w2r, w_add, w_neg, w_abs, w_sub, w_mul, w_radd, w_rsub, w_rmul, w_floordiv, w_rfloordiv, w_mod, w_rmod, w_str, w_repr, w_eq, w_quotient, wCutTo, wTruth, oPow, sFor, sForR, at0', at1, at2, forStep, sWhile, w_low]
      refine ⟨p10 9 (by decide), tk p2 (by omega) (by omega) (by rw [e9]; decide) l9 fun k S3 k0 k1 p3 o3 => ?_⟩
      rw [e9] at k1
      simp only [true_and, and_true, oU2, oUn1, oL1, oS1, oR1, oJust, iAdd, iSub, iMul, iFdiv, iMod, iEq, iNe, iLt, iLe, iGt, iGe, iNeg, iAbs, DL.iStr, wFmt, wJs, wJoined, sNext, sSeq, sDrop, sRet, sRetN, sIf, sAsg, sPar, wOp, wVar, wC, wUn, wCons, wNil, wCB, wCall, wMake, wMakeSw, wCallSw, wProp, wFld, oI, oI0, oU, wTest, wAnd, wOr, wNot, wAndV, wOrV, wNotV, wIf, wTup, wLst, wLstM, gwName, gwNil, gwCons, gwTup, gwSub, oIx, oInt1, oAbsI, oLen, oGcd, oDivmod, oMax2, oMin2, oIsi, tyOf, clOf, kt_ii, kt_ib, kt_rr, kt_ir, kt_ri, kt_rb, kt_ni, kt_bi, kt_bb, kt_si, kt_ti, kt_li, kt_di, kt_nr, kt_br, kt_sr, kt_tr, kt_lr, kt_dr, oStrI, if_t1, if_f1, Bool.not_true, Bool.not_false, rt, startD, List.map_cons, List.map_nil, List.length_cons, List.length_nil, List.cons_append, List.nil_append, List.getElem?_cons_zero, List.getElem?_cons_succ, List.set_cons_zero, List.set_cons_succ, List.replicate, Nat.reduceAdd, Nat.reduceSub, Nat.zero_add, Nat.sub_self, Nat.add_sub_cancel, lk_top, lk_bot, w1, w2, numD_int, numD_ins, w_is_int, w_is_number, wi_Ratio, w_as_ratio, w_top, w_bottom, w1r, w2r, w_add, w_neg, w_abs, w_sub, w_mul, w_radd, w_rsub, w_rmul, w_floordiv, w_rfloordiv, w_mod, w_rmod, w_str, w_repr, w_eq, w_quotient, wCutTo, wTruth, oPow, sFor, sForR, at0', at1, at2, forStep, sWhile, w_low]
      by_cases c5 : way = 5
      · rw [decide_eq_true c5]
        simp only [true_and, and_true, oU2, oUn1, oL1, oS1, oR1, oJust, iAdd, iSub, iMul, iFdiv, iMod, iEq, iNe, iLt, iLe, iGt, iGe, iNeg, iAbs, DL.iStr, wFmt, wJs, wJoined, sNext, sSeq, sDrop, sRet, sRetN, sIf, sAsg, sPar, wOp, wVar, wC, wUn, wCons, wNil, wCB, wCall, wMake, wMakeSw, wCallSw, wProp, wFld, oI, oI0, oU, wTest, wAnd, wOr, wNot, wAndV, wOrV, wNotV, wIf, wTup, wLst, wLstM, gwName, gwNil, gwCons, gwTup, gwSub, oIx, oInt1, oAbsI, oLen, oGcd, oDivmod, oMax2, oMin2, oIsi, tyOf, clOf, kt_ii, kt_ib, kt_rr, kt_ir, kt_ri, kt_rb, kt_ni, kt_bi, kt_bb, kt_si, kt_ti, kt_li, kt_di, kt_nr, kt_br, kt_sr, kt_tr, kt_lr, kt_dr, oStrI, if_t1, if_f1, Bool.not_true, Bool.not_false, rt, startD, List.map_cons, List.map_nil, List.length_cons, List.length_nil, List.cons_append, List.nil_append, List.getElem?_cons_zero, List.getElem?_cons_succ, List.set_cons_zero, List.set_cons_succ, List.replicate, Nat.reduceAdd, Nat.reduceSub, Nat.zero_add, Nat.sub_self, Nat.add_sub_cancel, lk_top, lk_bot, w1, w2, numD_int, numD_ins, w_is_int, w_is_number, wi_Ratio, w_as_ratio, w_top, w_bottom, w1r, w2r, w_add, w_neg, w_abs, w_sub, w_mul, w_radd, w_rsub, w_rmul, w_floordiv, w_rfloordiv, w_mod, w_rmod, w_str, w_repr, w_eq, w_quotient, wCutTo, wTruth, oPow, sFor, sForR, at0', at1, at2, forStep, sWhile, w_low]
        refine ⟨p10 20 (by decide), tk p3 (by omega) (by omega) (by rw [e20]; decide) l20 fun a S4 a0 a1 p4 o4 => ?_⟩
        rw [e20] at a1
        simp only [true_and, and_true, oU2, oUn1, oL1, oS1, oR1, oJust, iAdd, iSub, iMul, iFdiv, iMod, iEq, iNe, iLt, iLe, iGt, iGe, iNeg, iAbs, DL.iStr, wFmt, wJs, wJoined, sNext, sSeq, sDrop, sRet, sRetN, sIf, sAsg, sPar, wOp, wVar, wC, wUn, wCons, wNil, wCB, wCall, wMake, wMakeSw, wCallSw, wProp, wFld, oI, oI0, oU, wTest, wAnd, wOr, wNot, wAndV, wOrV, wNotV, wIf, wTup, wLst, wLstM, gwName, gwNil, gwCons, gwTup, gwSub, oIx, oInt1, oAbsI, oLen, oGcd, oDivmod, oMax2, oMin2, oIsi, tyOf, clOf, kt_ii, kt_ib, kt_rr, kt_ir, kt_ri, kt_rb, kt_ni, kt_bi, kt_bb, kt_si, kt_ti, kt_li, kt_di, kt_nr, kt_br, kt_sr, kt_tr, kt_lr, kt_dr, oStrI, if_t1, if_f1, Bool.not_true, Bool.not_false, rt, startD, List.map_cons, List.map_nil, List.length_cons, List.length_nil, List.cons_append, List.nil_append, List.getElem?_cons_zero, List.getElem?_cons_succ, List.set_cons_zero, List.set_cons_succ, List.replicate, Nat.reduceAdd, Nat.reduceSub, Nat.zero_add, Nat.sub_self, Nat.add_sub_cancel, lk_top, lk_bot, w1, w2, numD_int, numD_ins, w_is_int, w_is_number, wi_Ratio, w_as_ratio, w_top, w_bottom, w1r, w2r, w_add, w_neg, w_abs, w_sub, w_mul, w_radd, w_rsub, w_rmul, w_floordiv, w_rfloordiv, w_mod, w_rmod, w_str, w_repr, w_eq, w_quotient, wCutTo, wTruth, oPow, sFor, sForR, at0', at1, at2, forStep, sWhile, w_low]
        refine ⟨p10 20 (by decide), wide_mul (a := 70) (b := 70) (by omega) (by rw [e20]; decide) (by decide) (by decide) (by decide), p10 20 (by decide), tk p4 (by omega) (by omega) (by rw [e20]; decide) l20 fun b S5 b0 b1 p5 o5 => ?_⟩
        rw [e20] at b1 ⊢
        refine ⟨wide_mul (a := 2) (b := 140) (by omega) (by omega) (by decide) (by decide) (by decide), h _ _ _ (sg z0 z1 (by omega) (by omega)) p5 (by omega) (by omega) (((o12.trans o3).trans o4).trans o5)⟩
      · rw [decide_eq_false c5]
        simp only [true_and, and_true, oU2, oUn1, oL1, oS1, oR1, oJust, iAdd, iSub, iMul, iFdiv, iMod, iEq, iNe, iLt, iLe, iGt, iGe, iNeg, iAbs, DL.iStr, wFmt, wJs, wJoined, sNext, sSeq, sDrop, sRet, sRetN, sIf, sAsg, sPar, wOp, wVar, wC, wUn, wCons, wNil, wCB, wCall, wMake, wMakeSw, wCallSw, wProp, wFld, oI, oI0, oU, wTest, wAnd, wOr, wNot, wAndV, wOrV, wNotV, wIf, wTup, wLst, wLstM, gwName, gwNil, gwCons, gwTup, gwSub, oIx, oInt1, oAbsI, oLen, oGcd, oDivmod, oMax2, oMin2, oIsi, tyOf, clOf, kt_ii, kt_ib, kt_rr, kt_ir, kt_ri, kt_rb, kt_ni, kt_bi, kt_bb, kt_si, kt_ti, kt_li, kt_di, kt_nr, kt_br, kt_sr, kt_tr, kt_lr, kt_dr, oStrI, if_t1, if_f1, Bool.not_true, Bool.not_false, rt, startD, List.map_cons, List.map_nil, List.length_cons, List.length_nil, List.cons_append, List.nil_append, List.getElem?_cons_zero, List.getElem?_cons_succ, List.set_cons_zero, List.set_cons_succ, List.replicate, Nat.reduceAdd, Nat.reduceSub, Nat.zero_add, Nat.sub_self, Nat.add_sub_cancel, lk_top, lk_bot, w1, w2, numD_int, numD_ins, w_is_int, w_is_number, wi_Ratio, w_as_ratio, w_top, w_bottom, w1r, w2r, w_add, w_neg, w_abs, w_sub, w_mul, w_radd, w_rsub, w_rmul, w_floordiv, w_rfloordiv, w_mod, w_rmod, w_str, w_repr, w_eq, w_quotient, wCutTo, wTruth, oPow, sFor, sForR, at0', at1, at2, forStep, sWhile, w_low]
        exact ⟨cm30 (by omega) (by omega), h _ _ _ (sg z0 z1 k0 (by omega)) p3 (by omega) (by omega) (o12.trans o3)⟩
theorem gc_mkR {t b : Int} (hb : 0 < b) : gc (mkR t b).1 (mkR t b).2 = 1 := by
  show gc (t.fdiv (gc t b)) (b.fdiv (gc t b)) = 1
  rw [fdiv_gc hb, fdiv_gc2 hb]
  have e : gc t b = (Int.gcd t b : Int) := rfl
  have h : 0 < Int.gcd t b := by
    have := gc_pos (t := t) hb
    rw [e] at this
    omega
  have z := Int.gcd_ediv_gcd_ediv_gcd h
  show ((Int.gcd (t / gc t b) (b / gc t b) : Nat) : Int) = 1
  rw [e, z]
  rfl
/-- a fraction in lowest terms, as the law draws it -/
structure Low (p : Int × Int) : Prop where
  sz : Sz 141 p
  one : gc p.1 p.2 = 1
theorem Low.mk' {p : Int × Int} (h : Low p) : mkR p.1 p.2 = p := by
  show (p.1.fdiv (gc p.1 p.2), p.2.fdiv (gc p.1 p.2)) = p
  rw [h.one]
  simp

def w_fraction : WF := fun ds S Q => match ds with
  | [.mut m] => ∃ c, Pu S m c ∧ 1 ≤ c ∧ c ≤ 80000 ∧ ∀ p S' c', Low p → Sz 141 p → Pu S' m c' → c ≤ c' → c' ≤ c + 15 → Oth m S S' → Q (.tup [.int p.1, .int p.2]) S'
  | _ => False
theorem sc__law_fraction : FnScope ["purse", "over", "way"] ["purse"] (defScope s__law_fraction) := ⟨rfl, rfl, rfl, by decide +kernel, rfl, by decide +kernel, by decide +kernel⟩
theorem ok__law_fraction (T : Tx K mg) : FnOk P w K mg base CX0 3 T.f__law_fraction T.fd__law_fraction ["purse"] (spW ⟨K, mg⟩ 1 w_fraction) := by
  refine fnD (k := 2) T.F__law_fraction sc__law_fraction (fun cdv A outer s H E hr => ⟨_, (dss_cons (ds_par (i := 1) (j := 2) rfl sc__law_fraction.nd (da_cons (d_call (ok__law_whole T) (hr.mono (by decide)) T.m__law_whole T.F__law_whole.kp T.b__law_whole (da_cons (dv 0) da_nil)) (da_cons (d_call (ok__law_take T) (hr.mono (by decide)) T.m__law_take T.F__law_take.kp T.b__law_take (da_cons (dv 0) (da_cons d_int da_nil))) da_nil)))
  (dss_one (ds_ret (d_call (ok__law_low T) (hr.mono (by decide)) T.m__law_low T.F__law_low.kp T.b__law_low (da_cons (dv 1) (da_cons (d_if (dt_cmp op_gt snd_iGt (dv 2) d_int (nomark _)) (d_op op_add snd_iAdd d_int (d_callB call_abs snd_absI T.z_abs (da_cons (d_call (ok__law_whole T) (hr.mono (by decide)) T.m__law_whole T.F__law_whole.kp T.b__law_whole (da_cons (dv 0) da_nil)) da_nil) (hv := bt_abs))) d_int) da_nil))))))⟩) (fun ds S Q hl h => ?_)
  match ds, h with
  | [.mut m], ⟨c, pu, hc1, hc2, h⟩ =>
    simp only [true_and, and_true, oU2, oUn1, oL1, oS1, oR1, oJust, iAdd, iSub, iMul, iFdiv, iMod, iEq, iNe, iLt, iLe, iGt, iGe, iNeg, iAbs, DL.iStr, wFmt, wJs, wJoined, sNext, sSeq, sDrop, sRet, sRetN, sIf, sAsg, sPar, wOp, wVar, wC, wUn, wCons, wNil, wCB, wCall, wMake, wMakeSw, wCallSw, wProp, wFld, oI, oI0, oU, wTest, wAnd, wOr, wNot, wAndV, wOrV, wNotV, wIf, wTup, wLst, wLstM, gwName, gwNil, gwCons, gwTup, gwSub, oIx, oInt1, oAbsI, oLen, oGcd, oDivmod, oMax2, oMin2, oIsi, tyOf, clOf, kt_ii, kt_ib, kt_rr, kt_ir, kt_ri, kt_rb, kt_ni, kt_bi, kt_bb, kt_si, kt_ti, kt_li, kt_di, kt_nr, kt_br, kt_sr, kt_tr, kt_lr, kt_dr, oStrI, if_t1, if_f1, Bool.not_true, Bool.not_false, rt, startD, List.map_cons, List.map_nil, List.length_cons, List.length_nil, List.cons_append, List.nil_append, List.getElem?_cons_zero, List.getElem?_cons_succ, List.set_cons_zero, List.set_cons_succ, List.replicate, Nat.reduceAdd, Nat.reduceSub, Nat.zero_add, Nat.sub_self, Nat.add_sub_cancel, lk_top, lk_bot, w1, w2, numD_int, numD_ins, w_is_int, w_is_number, wi_Ratio, w_as_ratio, w_top, w_bottom, w1r, w2r, w_add, w_neg, w_abs, w_sub, w_mul, w_radd, w_rsub, w_rmul, w_floordiv, w_rfloordiv, w_mod, w_rmod, w_str, w_repr, w_eq, w_quotient, wCutTo, wTruth, oPow, sFor, sForR, at0', at1, at2, forStep, sWhile, w_low]
    refine ⟨c, pu, hc1, by omega, fun o S1 c1 ho p1 h1 h2 o1 => ?_⟩
    simp only [true_and, and_true, oU2, oUn1, oL1, oS1, oR1, oJust, iAdd, iSub, iMul, iFdiv, iMod, iEq, iNe, iLt, iLe, iGt, iGe, iNeg, iAbs, DL.iStr, wFmt, wJs, wJoined, sNext, sSeq, sDrop, sRet, sRetN, sIf, sAsg, sPar, wOp, wVar, wC, wUn, wCons, wNil, wCB, wCall, wMake, wMakeSw, wCallSw, wProp, wFld, oI, oI0, oU, wTest, wAnd, wOr, wNot, wAndV, wOrV, wNotV, wIf, wTup, wLst, wLstM, gwName, gwNil, gwCons, gwTup, gwSub, oIx, oInt1, oAbsI, oLen, oGcd, oDivmod, oMax2, oMin2, oIsi, tyOf, clOf, kt_ii, kt_ib, kt_rr, kt_ir, kt_ri, kt_rb, kt_ni, kt_bi, kt_bb, kt_si, kt_ti, kt_li, kt_di, kt_nr, kt_br, kt_sr, kt_tr, kt_lr, kt_dr, oStrI, if_t1, if_f1, Bool.not_true, Bool.not_false, rt, startD, List.map_cons, List.map_nil, List.length_cons, List.length_nil, List.cons_append, List.nil_append, List.getElem?_cons_zero, List.getElem?_cons_succ, List.set_cons_zero, List.set_cons_succ, List.replicate, Nat.reduceAdd, Nat.reduceSub, Nat.zero_add, Nat.sub_self, Nat.add_sub_cancel, lk_top, lk_bot, w1, w2, numD_int, numD_ins, w_is_int, w_is_number, wi_Ratio, w_as_ratio, w_top, w_bottom, w1r, w2r, w_add, w_neg, w_abs, w_sub, w_mul, w_radd, w_rsub, w_rmul, w_floordiv, w_rfloordiv, w_mod, w_rmod, w_str, w_repr, w_eq, w_quotient, wCutTo, wTruth, oPow, sFor, sForR, at0', at1, at2, forStep, sWhile, w_low]
    refine tk p1 (by omega) (by omega) (by decide) (by decide) fun way S2 y0 y1 p2 o2 => ?_
    simp only [true_and, and_true, oU2, oUn1, oL1, oS1, oR1, oJust, iAdd, iSub, iMul, iFdiv, iMod, iEq, iNe, iLt, iLe, iGt, iGe, iNeg, iAbs, DL.iStr, wFmt, wJs, wJoined, sNext, sSeq, sDrop, sRet, sRetN, sIf, sAsg, sPar, wOp, wVar, wC, wUn, wCons, wNil, wCB, wCall, wMake, wMakeSw, wCallSw, wProp, wFld, oI, oI0, oU, wTest, wAnd, wOr, wNot, wAndV, wOrV, wNotV, wIf, wTup, wLst, wLstM, gwName, gwNil, gwCons, gwTup, gwSub, oIx, oInt1, oAbsI, oLen, oGcd, oDivmod, oMax2, oMin2, oIsi, tyOf, clOf, kt_ii, kt_ib, kt_rr, kt_ir, kt_ri, kt_rb, kt_ni, kt_bi, kt_bb, kt_si, kt_ti, kt_li, kt_di, kt_nr, kt_br, kt_sr, kt_tr, kt_lr, kt_dr, oStrI, if_t1, if_f1, Bool.not_true, Bool.not_false, rt, startD, List.map_cons, List.map_nil, List.length_cons, List.length_nil, List.cons_append, List.nil_append, List.getElem?_cons_zero, List.getElem?_cons_succ, List.set_cons_zero, List.set_cons_succ, List.replicate, Nat.reduceAdd, Nat.reduceSub, Nat.zero_add, Nat.sub_self, Nat.add_sub_cancel, lk_top, lk_bot, w1, w2, numD_int, numD_ins, w_is_int, w_is_number, wi_Ratio, w_as_ratio, w_top, w_bottom, w1r, w2r, w_add, w_neg, w_abs, w_sub, w_mul, w_radd, w_rsub, w_rmul, w_floordiv, w_rfloordiv, w_mod, w_rmod, w_str, w_repr, w_eq, w_quotient, wCutTo, wTruth, oPow, sFor, sForR, at0', at1, at2, forStep, sWhile, w_low]
    have fin : ∀ (u : Int) (S' : MS) (c' : Int), 0 < u → u.natAbs < 2 ^ 141 → Pu S' m c' → c ≤ c' → c' ≤ c + 15 → Oth m S S' → Q (.tup [.int (lowR o u).1, .int (lowR o u).2]) S' := fun u S' c' hu hu2 p' a b oo => by
      rw [lowR_pos hu]
      exact h (mkR o u) S' c' ⟨(mkR_sz hu (nmono ho (by decide)) hu2).mono (by decide), gc_mkR hu⟩ (mkR_sz hu (nmono ho (by decide)) hu2) p' a b oo
    by_cases c0 : 0 < way
    · rw [decide_eq_true c0]
      simp only [true_and, and_true, oU2, oUn1, oL1, oS1, oR1, oJust, iAdd, iSub, iMul, iFdiv, iMod, iEq, iNe, iLt, iLe, iGt, iGe, iNeg, iAbs, DL.iStr, wFmt, wJs, wJoined, sNext, sSeq, sDrop, sRet, sRetN, sIf, sAsg, sPar, wOp, wVar, wC, wUn, wCons, wNil, wCB, wCall, wMake, wMakeSw, wCallSw, wProp, wFld, oI, oI0, oU, wTest, wAnd, wOr, wNot, wAndV, wOrV, wNotV, wIf, wTup, wLst, wLstM, gwName, gwNil, gwCons, gwTup, gwSub, oIx, oInt1, oAbsI, oLen, oGcd, oDivmod, oMax2, oMin2, oIsi, tyOf, clOf, kt_ii, kt_ib, kt_rr, kt_ir, kt_ri, kt_rb, kt_ni, kt_bi, kt_bb, kt_si, kt_ti, kt_li, kt_di, kt_nr, kt_br, kt_sr, kt_tr, kt_lr, kt_dr, oStrI, if_t1, if_f1, Bool.not_true, Bool.not_false, rt, startD, List.map_cons, List.map_nil, List.length_cons, List.length_nil, List.cons_append, List.nil_append, List.getElem?_cons_zero, List.getElem?_cons_succ, List.set_cons_zero, List.set_cons_succ, List.replicate, Nat.reduceAdd, Nat.reduceSub, Nat.zero_add, Nat.sub_self, Nat.add_sub_cancel, lk_top, lk_bot, w1, w2, numD_int, numD_ins, w_is_int, w_is_number, wi_Ratio, w_as_ratio, w_top, w_bottom, w1r, w2r, w_add, w_neg, w_abs, w_sub, w_mul, w_radd, w_rsub, w_rmul, w_floordiv, w_rfloordiv, w_mod, w_rmod, w_str, w_repr, w_eq, w_quotient, wCutTo, wTruth, oPow, sFor, sForR, at0', at1, at2, forStep, sWhile, w_low]
      refine ⟨_, p2, by omega, by omega, fun k S3 c3 hk p3 h3 h4 o3 => ?_⟩
      have hu : 0 < 1 + (if k < 0 then -k else k) := by split <;> omega
      have hu2 : (1 + (if k < 0 then -k else k)).natAbs < 2 ^ 141 := by
        have : (2 : Nat) ^ 141 = 2 ^ 140 + 2 ^ 140 := by decide +kernel
        rw [this]
        generalize (2 : Nat) ^ 140 = B at hk
        split <;> omega
      exact ⟨by omega, nmono hu2 (by decide), fin _ _ _ hu hu2 p3 (by omega) (by omega) ((o1.trans o2).trans o3)⟩
    · rw [decide_eq_false c0]
      simp only [true_and, and_true, oU2, oUn1, oL1, oS1, oR1, oJust, iAdd, iSub, iMul, iFdiv, iMod, iEq, iNe, iLt, iLe, iGt, iGe, iNeg, iAbs, DL.iStr, wFmt, wJs, wJoined, sNext, sSeq, sDrop, sRet, sRetN, sIf, sAsg, sPar, wOp, wVar, wC, wUn, wCons, wNil, wCB, wCall, wMake, wMakeSw, wCallSw, wProp, wFld, oI, oI0, oU, wTest, wAnd, wOr, wNot, wAndV, wOrV, wNotV, wIf, wTup, wLst, wLstM, gwName, gwNil, gwCons, gwTup, gwSub, oIx, oInt1, oAbsI, oLen, oGcd, oDivmod, oMax2, oMin2, oIsi, tyOf, clOf, kt_ii, kt_ib, kt_rr, kt_ir, kt_ri, kt_rb, kt_ni, kt_bi, kt_bb, kt_si, kt_ti, kt_li, kt_di, kt_nr, kt_br, kt_sr, kt_tr, kt_lr, kt_dr, oStrI, if_t1, if_f1, Bool.not_true, Bool.not_false, rt, startD, List.map_cons, List.map_nil, List.length_cons, List.length_nil, List.cons_append, List.nil_append, List.getElem?_cons_zero, List.getElem?_cons_succ, List.set_cons_zero, List.set_cons_succ, List.replicate, Nat.reduceAdd, Nat.reduceSub, Nat.zero_add, Nat.sub_self, Nat.add_sub_cancel, lk_top, lk_bot, w1, w2, numD_int, numD_ins, w_is_int, w_is_number, wi_Ratio, w_as_ratio, w_top, w_bottom, w1r, w2r, w_add, w_neg, w_abs, w_sub, w_mul, w_radd, w_rsub, w_rmul, w_floordiv, w_rfloordiv, w_mod, w_rmod, w_str, w_repr, w_eq, w_quotient, wCutTo, wTruth, oPow, sFor, sForR, at0', at1, at2, forStep, sWhile, w_low]
      exact ⟨by decide, nmono (m := 1) (by decide) (by decide), fin 1 _ _ (by decide) (nmono (m := 1) (by decide) (by decide)) p2 (by omega) (by omega) (o1.trans o2)⟩
end
end K1
set_option Elab.async false
set_option linter.all false
set_option maxRecDepth 100000
namespace K1
open PySem PySem.Spec PyProof.Rows L2 DL
section
variable {P : Program} {w : World} {K : PySem.W.Frag} {mg : Str → Option Value} {base : Heap}
theorem at3 {α : Type} {a b c d : α} {l : List α} : L2.atI (a :: b :: c :: d :: l) 3 = some d := by
  show (ixN (l.length + 1 + 1 + 1 + 1) 3).bind _ = _
  unfold ixN
  rw [if_pos (by decide), if_pos (by omega)]
  rfl
theorem at4 {α : Type} {a b c d e : α} {l : List α} : L2.atI (a :: b :: c :: d :: e :: l) 4 = some e := by
  show (ixN (l.length + 1 + 1 + 1 + 1 + 1) 4).bind _ = _
  unfold ixN
  rw [if_pos (by decide), if_pos (by omega)]
  rfl
theorem e12 : (10 : Int) ^ (12 : Int).toNat = 1000000000000 := by decide +kernel
theorem fact {k : Int} (k0 : 0 ≤ k) (k1 : k < 5) : ∃ f : Int, L2.atI [D.int 1, .int 1, .int 2, .int 15, .int (10 ^ (12 : Int).toNat)] k = some (.int f) ∧ 0 < f ∧ f ≤ 1000000000000 := by
  rw [e12]
  have hk : k = 0 ∨ k = 1 ∨ k = 2 ∨ k = 3 ∨ k = 4 := by omega
  rcases hk with rfl | rfl | rfl | rfl | rfl
  · exact ⟨_, at0', by decide, by decide⟩
  · exact ⟨_, at1, by decide, by decide⟩
  · exact ⟨_, at2, by decide, by decide⟩
  · exact ⟨_, at3, by decide, by decide⟩
  · exact ⟨_, at4, by decide, by decide⟩
theorem mkR_scale {f t b : Int} (hf : 0 < f) (h : Low (t, b)) : mkR (f * t) (f * b) = (t, b) := by
  have e : gc (f * t) (f * b) = f := by
    have h1 : gc t b = 1 := h.one
    unfold gc at h1 ⊢
    rw [Int.natAbs_mul, Int.natAbs_mul, Nat.gcd_mul_left]
    have : Nat.gcd t.natAbs b.natAbs = 1 := by omega
    rw [this, Nat.mul_one]
    omega
  show ((f * t).fdiv (gc (f * t) (f * b)), (f * b).fdiv (gc (f * t) (f * b))) = _
  rw [e, Int.fdiv_eq_ediv_of_nonneg _ (by omega), Int.fdiv_eq_ediv_of_nonneg _ (by omega), Int.mul_ediv_cancel_left _ (by omega), Int.mul_ediv_cancel_left _ (by omega)]
theorem Low.pos {p : Int × Int} (h : Low p) : 0 < p.2 := h.sz.1
theorem low_neg {t b : Int} (h : Low (t, b)) : mkR (-t) b = (-t, b) := by
  have e : gc (-t) b = 1 := by
    have h1 : gc t b = 1 := h.one
    unfold gc at h1 ⊢
    rw [Int.natAbs_neg]
    exact h1
  show ((-t).fdiv (gc (-t) b), b.fdiv (gc (-t) b)) = _
  rw [e]
  simp
theorem low_abs {t b : Int} (h : Low (t, b)) : mkR (if t < 0 then -t else t) b = (if t < 0 then -t else t, b) := by
  by_cases c : t < 0
  · rw [if_pos c]; exact low_neg h
  · rw [if_neg c]; exact h.mk'

def w_made : WF := fun ds S Q => match ds with
  | [.mut m, .tup [.int t, .int b]] => ∃ c, Pu S m c ∧ 1 ≤ c ∧ c ≤ 90000 ∧ Low (t, b) ∧ ∀ S', Pu S' m (c + 1) → Oth m S S' → Q (rt (t, b)) S'
  | _ => False
theorem sc__law_made : FnScope ["purse", "pair", "factor", "over", "under"] ["purse", "pair"] (defScope s__law_made) := ⟨rfl, rfl, rfl, by decide +kernel, rfl, by decide +kernel, by decide +kernel⟩
theorem ok__law_made (T : Tx K mg) : FnOk P w K mg base CX0 6 T.f__law_made T.fd__law_made ["purse", "pair"] (spW ⟨K, mg⟩ 2 w_made) := by
  refine fnD (k := 5) T.F__law_made sc__law_made (fun cdv A outer s H E hr => ⟨_, (dss_cons (ds_set (i := 2) sc__law_made.nd (d_ix (d_lst (da_cons d_int (da_cons d_int (da_cons d_int (da_cons d_int (da_cons (d_op op_pow (snd_rI fun _ _ _ _ => .int _) d_int d_int) da_nil)))))) (d_call (ok__law_take T) (hr.mono (by decide)) T.m__law_take T.F__law_take.kp T.b__law_take (da_cons (dv 0) (da_cons d_int da_nil)))))
  (dss_cons (ds_if (PDW.pt (dw_and (dt_cmp op_eq snd_iEq (d_ix (dv 1) d_int) d_int (nomark _)) (dw_and1 (dt_cmp op_eq snd_iEq (dv 2) d_int (nomark _))))) (dss_one (ds_ret (d_make T.mkk (ok_R_init T) (hr.mono (by decide)) T.g_Ratio T.b_R_init1 T.v_R_init1 (fun _ _ => .cons (.int 1) .nil) (da_cons (d_ix (dv 1) d_int) da_nil)))) dss_nil)
  (dss_cons (ds_par (i := 3) (j := 4) rfl sc__law_made.nd (da_cons (d_op op_mulW snd_iMul (dv 2) (d_ix (dv 1) d_int)) (da_cons (d_op op_mulW snd_iMul (dv 2) (d_ix (dv 1) d_int)) da_nil)))
  (dss_one (ds_ret (d_if (dt_cmp op_lt snd_iLt (dv 2) d_int (nomark _)) (d_make T.mkk (ok_R_init T) (hr.mono (by decide)) T.g_Ratio T.b_R_init2 T.v_R_init2 (fun _ _ => .nil) (da_cons (dv 3) (da_cons (dv 4) da_nil))) (d_makeSw T.mkk (ok_R_init T) (hr.mono (by decide)) T.g_Ratio T.kb_R_init_sw (dk_cons (dv 4) (dk_cons (dv 3) dk_nil)))))))))⟩) (fun ds S Q hl h => ?_)
  match ds, h with
  | [.mut m, .tup [.int t, .int b]], ⟨c, pu, hc1, hc2, lw, h⟩ =>
    have l5 : 5 ≤ sizeLine := by decide
    have bp : 0 < b := lw.pos
    have tz : t.natAbs < 2 ^ 141 := lw.sz.2.1
    have bz : b.natAbs < 2 ^ 141 := lw.sz.2.2
    simp only [true_and, and_true, oU2, oUn1, oL1, oS1, oR1, oJust, iAdd, iSub, iMul, iFdiv, iMod, iEq, iNe, iLt, iLe, iGt, iGe, iNeg, iAbs, DL.iStr, wFmt, wJs, wJoined, sNext, sSeq, sDrop, sRet, sRetN, sIf, sAsg, sPar, wOp, wVar, wC, wUn, wCons, wNil, wCB, wCall, wMake, wMakeSw, wCallSw, wProp, wFld, oI, oI0, oU, wTest, wAnd, wOr, wNot, wAndV, wOrV, wNotV, wIf, wTup, wLst, wLstM, gwName, gwNil, gwCons, gwTup, gwSub, oIx, oInt1, oAbsI, oLen, oGcd, oDivmod, oMax2, oMin2, oIsi, tyOf, clOf, kt_ii, kt_ib, kt_rr, kt_ir, kt_ri, kt_rb, kt_ni, kt_bi, kt_bb, kt_si, kt_ti, kt_li, kt_di, kt_nr, kt_br, kt_sr, kt_tr, kt_lr, kt_dr, oStrI, if_t1, if_f1, Bool.not_true, Bool.not_false, rt, startD, List.map_cons, List.map_nil, List.length_cons, List.length_nil, List.cons_append, List.nil_append, List.getElem?_cons_zero, List.getElem?_cons_succ, List.set_cons_zero, List.set_cons_succ, List.replicate, Nat.reduceAdd, Nat.reduceSub, Nat.zero_add, Nat.sub_self, Nat.add_sub_cancel, lk_top, lk_bot, w1, w2, numD_int, numD_ins, w_is_int, w_is_number, wi_Ratio, w_as_ratio, w_top, w_bottom, w1r, w2r, w_add, w_neg, w_abs, w_sub, w_mul, w_radd, w_rsub, w_rmul, w_floordiv, w_rfloordiv, w_mod, w_rmod, w_str, w_repr, w_eq, w_quotient, wCutTo, wTruth, oPow, sFor, sForR, at0', at1, at2, forStep, sWhile, w_low, w_whole, w_fraction, wi_Ratio]
    refine ⟨p10 12 (by decide), l5, tk pu hc1 (by omega) (by decide) (by decide) fun k S1 k0 k1 p1 o1 => ?_⟩
    simp only [true_and, and_true, oU2, oUn1, oL1, oS1, oR1, oJust, iAdd, iSub, iMul, iFdiv, iMod, iEq, iNe, iLt, iLe, iGt, iGe, iNeg, iAbs, DL.iStr, wFmt, wJs, wJoined, sNext, sSeq, sDrop, sRet, sRetN, sIf, sAsg, sPar, wOp, wVar, wC, wUn, wCons, wNil, wCB, wCall, wMake, wMakeSw, wCallSw, wProp, wFld, oI, oI0, oU, wTest, wAnd, wOr, wNot, wAndV, wOrV, wNotV, wIf, wTup, wLst, wLstM, gwName, gwNil, gwCons, gwTup, gwSub, oIx, oInt1, oAbsI, oLen, oGcd, oDivmod, oMax2, oMin2, oIsi, tyOf, clOf, kt_ii, kt_ib, kt_rr, kt_ir, kt_ri, kt_rb, kt_ni, kt_bi, kt_bb, kt_si, kt_ti, kt_li, kt_di, kt_nr, kt_br, kt_sr, kt_tr, kt_lr, kt_dr, oStrI, if_t1, if_f1, Bool.not_true, Bool.not_false, rt, startD, List.map_cons, List.map_nil, List.length_cons, List.length_nil, List.cons_append, List.nil_append, List.getElem?_cons_zero, List.getElem?_cons_succ, List.set_cons_zero, List.set_cons_succ, List.replicate, Nat.reduceAdd, Nat.reduceSub, Nat.zero_add, Nat.sub_self, Nat.add_sub_cancel, lk_top, lk_bot, w1, w2, numD_int, numD_ins, w_is_int, w_is_number, wi_Ratio, w_as_ratio, w_top, w_bottom, w1r, w2r, w_add, w_neg, w_abs, w_sub, w_mul, w_radd, w_rsub, w_rmul, w_floordiv, w_rfloordiv, w_mod, w_rmod, w_str, w_repr, w_eq, w_quotient, wCutTo, wTruth, oPow, sFor, sForR, at0', at1, at2, forStep, sWhile, w_low, w_whole, w_fraction, wi_Ratio]
    obtain ⟨f, hf, f0, f1⟩ := fact k0 k1
    rw [hf]
    simp only [true_and, and_true, oU2, oUn1, oL1, oS1, oR1, oJust, iAdd, iSub, iMul, iFdiv, iMod, iEq, iNe, iLt, iLe, iGt, iGe, iNeg, iAbs, DL.iStr, wFmt, wJs, wJoined, sNext, sSeq, sDrop, sRet, sRetN, sIf, sAsg, sPar, wOp, wVar, wC, wUn, wCons, wNil, wCB, wCall, wMake, wMakeSw, wCallSw, wProp, wFld, oI, oI0, oU, wTest, wAnd, wOr, wNot, wAndV, wOrV, wNotV, wIf, wTup, wLst, wLstM, gwName, gwNil, gwCons, gwTup, gwSub, oIx, oInt1, oAbsI, oLen, oGcd, oDivmod, oMax2, oMin2, oIsi, tyOf, clOf, kt_ii, kt_ib, kt_rr, kt_ir, kt_ri, kt_rb, kt_ni, kt_bi, kt_bb, kt_si, kt_ti, kt_li, kt_di, kt_nr, kt_br, kt_sr, kt_tr, kt_lr, kt_dr, oStrI, if_t1, if_f1, Bool.not_true, Bool.not_false, rt, startD, List.map_cons, List.map_nil, List.length_cons, List.length_nil, List.cons_append, List.nil_append, List.getElem?_cons_zero, List.getElem?_cons_succ, List.set_cons_zero, List.set_cons_succ, List.replicate, Nat.reduceAdd, Nat.reduceSub, Nat.zero_add, Nat.sub_self, Nat.add_sub_cancel, lk_top, lk_bot, w1, w2, numD_int, numD_ins, w_is_int, w_is_number, wi_Ratio, w_as_ratio, w_top, w_bottom, w1r, w2r, w_add, w_neg, w_abs, w_sub, w_mul, w_radd, w_rsub, w_rmul, w_floordiv, w_rfloordiv, w_mod, w_rmod, w_str, w_repr, w_eq, w_quotient, wCutTo, wTruth, oPow, sFor, sForR, at0', at1, at2, forStep, sWhile, w_low, w_whole, w_fraction, wi_Ratio]
    have fz : f.natAbs < 2 ^ 41 := by omega
    have two : ∀ (u : Int), 0 < f → CMulW f t ∧ CMulW f b ∧ (0 < f * b ∧ (f * b).natAbs < 2 ^ 9000) := fun _ _ =>
      ⟨wide_mul fz tz (by decide) (by decide) (by decide), wide_mul fz bz (by decide) (by decide) (by decide), Int.mul_pos f0 bp, nmono (nmul fz bz) (by decide)⟩
    obtain ⟨m1, m2, m3⟩ := two 0 f0
    have h' : Q (.ins "Ratio" [("_top", .int (mkR (f * t) (f * b)).1), ("_bottom", .int (mkR (f * t) (f * b)).2)]) S1 := by
      rw [mkR_scale f0 lw]
      exact h _ p1 o1
    have rest : (decide (f < 10) = true ∨ decide (f < 10) = false) := by cases decide (f < 10) <;> simp
    by_cases b1 : b = 1
    · subst b1
      by_cases f1 : f = 1
      · subst f1
        simp only [decide_true]
        try simp only [true_and, and_true, oU2, oUn1, oL1, oS1, oR1, oJust, iAdd, iSub, iMul, iFdiv, iMod, iEq, iNe, iLt, iLe, iGt, iGe, iNeg, iAbs, DL.iStr, wFmt, wJs, wJoined, sNext, sSeq, sDrop, sRet, sRetN, sIf, sAsg, sPar, wOp, wVar, wC, wUn, wCons, wNil, wCB, wCall, wMake, wMakeSw, wCallSw, wProp, wFld, oI, oI0, oU, wTest, wAnd, wOr, wNot, wAndV, wOrV, wNotV, wIf, wTup, wLst, wLstM, gwName, gwNil, gwCons, gwTup, gwSub, oIx, oInt1, oAbsI, oLen, oGcd, oDivmod, oMax2, oMin2, oIsi, tyOf, clOf, kt_ii, kt_ib, kt_rr, kt_ir, kt_ri, kt_rb, kt_ni, kt_bi, kt_bb, kt_si, kt_ti, kt_li, kt_di, kt_nr, kt_br, kt_sr, kt_tr, kt_lr, kt_dr, oStrI, if_t1, if_f1, Bool.not_true, Bool.not_false, rt, startD, List.map_cons, List.map_nil, List.length_cons, List.length_nil, List.cons_append, List.nil_append, List.getElem?_cons_zero, List.getElem?_cons_succ, List.set_cons_zero, List.set_cons_succ, List.replicate, Nat.reduceAdd, Nat.reduceSub, Nat.zero_add, Nat.sub_self, Nat.add_sub_cancel, lk_top, lk_bot, w1, w2, numD_int, numD_ins, w_is_int, w_is_number, wi_Ratio, w_as_ratio, w_top, w_bottom, w1r, w2r, w_add, w_neg, w_abs, w_sub, w_mul, w_radd, w_rsub, w_rmul, w_floordiv, w_rfloordiv, w_mod, w_rmod, w_str, w_repr, w_eq, w_quotient, wCutTo, wTruth, oPow, sFor, sForR, at0', at1, at2, forStep, sWhile, w_low, w_whole, w_fraction, wi_Ratio]
        refine ⟨⟨by decide, nmono (m := 1) (by decide) (by decide)⟩, ?_⟩
        rw [mkR_one]
        exact h _ p1 o1
      · simp only [decide_true, decide_eq_false f1]
        simp only [true_and, and_true, oU2, oUn1, oL1, oS1, oR1, oJust, iAdd, iSub, iMul, iFdiv, iMod, iEq, iNe, iLt, iLe, iGt, iGe, iNeg, iAbs, DL.iStr, wFmt, wJs, wJoined, sNext, sSeq, sDrop, sRet, sRetN, sIf, sAsg, sPar, wOp, wVar, wC, wUn, wCons, wNil, wCB, wCall, wMake, wMakeSw, wCallSw, wProp, wFld, oI, oI0, oU, wTest, wAnd, wOr, wNot, wAndV, wOrV, wNotV, wIf, wTup, wLst, wLstM, gwName, gwNil, gwCons, gwTup, gwSub, oIx, oInt1, oAbsI, oLen, oGcd, oDivmod, oMax2, oMin2, oIsi, tyOf, clOf, kt_ii, kt_ib, kt_rr, kt_ir, kt_ri, kt_rb, kt_ni, kt_bi, kt_bb, kt_si, kt_ti, kt_li, kt_di, kt_nr, kt_br, kt_sr, kt_tr, kt_lr, kt_dr, oStrI, if_t1, if_f1, Bool.not_true, Bool.not_false, rt, startD, List.map_cons, List.map_nil, List.length_cons, List.length_nil, List.cons_append, List.nil_append, List.getElem?_cons_zero, List.getElem?_cons_succ, List.set_cons_zero, List.set_cons_succ, List.replicate, Nat.reduceAdd, Nat.reduceSub, Nat.zero_add, Nat.sub_self, Nat.add_sub_cancel, lk_top, lk_bot, w1, w2, numD_int, numD_ins, w_is_int, w_is_number, wi_Ratio, w_as_ratio, w_top, w_bottom, w1r, w2r, w_add, w_neg, w_abs, w_sub, w_mul, w_radd, w_rsub, w_rmul, w_floordiv, w_rfloordiv, w_mod, w_rmod, w_str, w_repr, w_eq, w_quotient, wCutTo, wTruth, oPow, sFor, sForR, at0', at1, at2, forStep, sWhile, w_low, w_whole, w_fraction, wi_Ratio]
        rcases rest with r | r
        · rw [r]
          simp only [true_and, and_true, oU2, oUn1, oL1, oS1, oR1, oJust, iAdd, iSub, iMul, iFdiv, iMod, iEq, iNe, iLt, iLe, iGt, iGe, iNeg, iAbs, DL.iStr, wFmt, wJs, wJoined, sNext, sSeq, sDrop, sRet, sRetN, sIf, sAsg, sPar, wOp, wVar, wC, wUn, wCons, wNil, wCB, wCall, wMake, wMakeSw, wCallSw, wProp, wFld, oI, oI0, oU, wTest, wAnd, wOr, wNot, wAndV, wOrV, wNotV, wIf, wTup, wLst, wLstM, gwName, gwNil, gwCons, gwTup, gwSub, oIx, oInt1, oAbsI, oLen, oGcd, oDivmod, oMax2, oMin2, oIsi, tyOf, clOf, kt_ii, kt_ib, kt_rr, kt_ir, kt_ri, kt_rb, kt_ni, kt_bi, kt_bb, kt_si, kt_ti, kt_li, kt_di, kt_nr, kt_br, kt_sr, kt_tr, kt_lr, kt_dr, oStrI, if_t1, if_f1, Bool.not_true, Bool.not_false, rt, startD, List.map_cons, List.map_nil, List.length_cons, List.length_nil, List.cons_append, List.nil_append, List.getElem?_cons_zero, List.getElem?_cons_succ, List.set_cons_zero, List.set_cons_succ, List.replicate, Nat.reduceAdd, Nat.reduceSub, Nat.zero_add, Nat.sub_self, Nat.add_sub_cancel, lk_top, lk_bot, w1, w2, numD_int, numD_ins, w_is_int, w_is_number, wi_Ratio, w_as_ratio, w_top, w_bottom, w1r, w2r, w_add, w_neg, w_abs, w_sub, w_mul, w_radd, w_rsub, w_rmul, w_floordiv, w_rfloordiv, w_mod, w_rmod, w_str, w_repr, w_eq, w_quotient, wCutTo, wTruth, oPow, sFor, sForR, at0', at1, at2, forStep, sWhile, w_low, w_whole, w_fraction, wi_Ratio]
          exact ⟨m1, m2, m3, h'⟩
        · rw [r]
          simp only [true_and, and_true, oU2, oUn1, oL1, oS1, oR1, oJust, iAdd, iSub, iMul, iFdiv, iMod, iEq, iNe, iLt, iLe, iGt, iGe, iNeg, iAbs, DL.iStr, wFmt, wJs, wJoined, sNext, sSeq, sDrop, sRet, sRetN, sIf, sAsg, sPar, wOp, wVar, wC, wUn, wCons, wNil, wCB, wCall, wMake, wMakeSw, wCallSw, wProp, wFld, oI, oI0, oU, wTest, wAnd, wOr, wNot, wAndV, wOrV, wNotV, wIf, wTup, wLst, wLstM, gwName, gwNil, gwCons, gwTup, gwSub, oIx, oInt1, oAbsI, oLen, oGcd, oDivmod, oMax2, oMin2, oIsi, tyOf, clOf, kt_ii, kt_ib, kt_rr, kt_ir, kt_ri, kt_rb, kt_ni, kt_bi, kt_bb, kt_si, kt_ti, kt_li, kt_di, kt_nr, kt_br, kt_sr, kt_tr, kt_lr, kt_dr, oStrI, if_t1, if_f1, Bool.not_true, Bool.not_false, rt, startD, List.map_cons, List.map_nil, List.length_cons, List.length_nil, List.cons_append, List.nil_append, List.getElem?_cons_zero, List.getElem?_cons_succ, List.set_cons_zero, List.set_cons_succ, List.replicate, Nat.reduceAdd, Nat.reduceSub, Nat.zero_add, Nat.sub_self, Nat.add_sub_cancel, lk_top, lk_bot, w1, w2, numD_int, numD_ins, w_is_int, w_is_number, wi_Ratio, w_as_ratio, w_top, w_bottom, w1r, w2r, w_add, w_neg, w_abs, w_sub, w_mul, w_radd, w_rsub, w_rmul, w_floordiv, w_rfloordiv, w_mod, w_rmod, w_str, w_repr, w_eq, w_quotient, wCutTo, wTruth, oPow, sFor, sForR, at0', at1, at2, forStep, sWhile, w_low, w_whole, w_fraction, wi_Ratio]
          exact ⟨m1, m2, m3, h'⟩
    · rw [decide_eq_false b1]
      simp only [true_and, and_true, oU2, oUn1, oL1, oS1, oR1, oJust, iAdd, iSub, iMul, iFdiv, iMod, iEq, iNe, iLt, iLe, iGt, iGe, iNeg, iAbs, DL.iStr, wFmt, wJs, wJoined, sNext, sSeq, sDrop, sRet, sRetN, sIf, sAsg, sPar, wOp, wVar, wC, wUn, wCons, wNil, wCB, wCall, wMake, wMakeSw, wCallSw, wProp, wFld, oI, oI0, oU, wTest, wAnd, wOr, wNot, wAndV, wOrV, wNotV, wIf, wTup, wLst, wLstM, gwName, gwNil, gwCons, gwTup, gwSub, oIx, oInt1, oAbsI, oLen, oGcd, oDivmod, oMax2, oMin2, oIsi, tyOf, clOf, kt_ii, kt_ib, kt_rr, kt_ir, kt_ri, kt_rb, kt_ni, kt_bi, kt_bb, kt_si, kt_ti, kt_li, kt_di, kt_nr, kt_br, kt_sr, kt_tr, kt_lr, kt_dr, oStrI, if_t1, if_f1, Bool.not_true, Bool.not_false, rt, startD, List.map_cons, List.map_nil, List.length_cons, List.length_nil, List.cons_append, List.nil_append, List.getElem?_cons_zero, List.getElem?_cons_succ, List.set_cons_zero, List.set_cons_succ, List.replicate, Nat.reduceAdd, Nat.reduceSub, Nat.zero_add, Nat.sub_self, Nat.add_sub_cancel, lk_top, lk_bot, w1, w2, numD_int, numD_ins, w_is_int, w_is_number, wi_Ratio, w_as_ratio, w_top, w_bottom, w1r, w2r, w_add, w_neg, w_abs, w_sub, w_mul, w_radd, w_rsub, w_rmul, w_floordiv, w_rfloordiv, w_mod, w_rmod, w_str, w_repr, w_eq, w_quotient, wCutTo, wTruth, oPow, sFor, sForR, at0', at1, at2, forStep, sWhile, w_low, w_whole, w_fraction, wi_Ratio]
      rcases rest with r | r
      · rw [r]
        simp only [true_and, and_true, oU2, oUn1, oL1, oS1, oR1, oJust, iAdd, iSub, iMul, iFdiv, iMod, iEq, iNe, iLt, iLe, iGt, iGe, iNeg, iAbs, DL.iStr, wFmt, wJs, wJoined, sNext, sSeq, sDrop, sRet, sRetN, sIf, sAsg, sPar, wOp, wVar, wC, wUn, wCons, wNil, wCB, wCall, wMake, wMakeSw, wCallSw, wProp, wFld, oI, oI0, oU, wTest, wAnd, wOr, wNot, wAndV, wOrV, wNotV, wIf, wTup, wLst, wLstM, gwName, gwNil, gwCons, gwTup, gwSub, oIx, oInt1, oAbsI, oLen, oGcd, oDivmod, oMax2, oMin2, oIsi, tyOf, clOf, kt_ii, kt_ib, kt_rr, kt_ir, kt_ri, kt_rb, kt_ni, kt_bi, kt_bb, kt_si, kt_ti, kt_li, kt_di, kt_nr, kt_br, kt_sr, kt_tr, kt_lr, kt_dr, oStrI, if_t1, if_f1, Bool.not_true, Bool.not_false, rt, startD, List.map_cons, List.map_nil, List.length_cons, List.length_nil, List.cons_append, List.nil_append, List.getElem?_cons_zero, List.getElem?_cons_succ, List.set_cons_zero, List.set_cons_succ, List.replicate, Nat.reduceAdd, Nat.reduceSub, Nat.zero_add, Nat.sub_self, Nat.add_sub_cancel, lk_top, lk_bot, w1, w2, numD_int, numD_ins, w_is_int, w_is_number, wi_Ratio, w_as_ratio, w_top, w_bottom, w1r, w2r, w_add, w_neg, w_abs, w_sub, w_mul, w_radd, w_rsub, w_rmul, w_floordiv, w_rfloordiv, w_mod, w_rmod, w_str, w_repr, w_eq, w_quotient, wCutTo, wTruth, oPow, sFor, sForR, at0', at1, at2, forStep, sWhile, w_low, w_whole, w_fraction, wi_Ratio]
        exact ⟨m1, m2, m3, h'⟩
      · rw [r]
        simp only [true_and, and_true, oU2, oUn1, oL1, oS1, oR1, oJust, iAdd, iSub, iMul, iFdiv, iMod, iEq, iNe, iLt, iLe, iGt, iGe, iNeg, iAbs, DL.iStr, wFmt, wJs, wJoined, sNext, sSeq, sDrop, sRet, sRetN, sIf, sAsg, sPar, wOp, wVar, wC, wUn, wCons, wNil, wCB, wCall, wMake, wMakeSw, wCallSw, wProp, wFld, oI, oI0, oU, wTest, wAnd, wOr, wNot, wAndV, wOrV, wNotV, wIf, wTup, wLst, wLstM, gwName, gwNil, gwCons, gwTup, gwSub, oIx, oInt1, oAbsI, oLen, oGcd, oDivmod, oMax2, oMin2, oIsi, tyOf, clOf, kt_ii, kt_ib, kt_rr, kt_ir, kt_ri, kt_rb, kt_ni, kt_bi, kt_bb, kt_si, kt_ti, kt_li, kt_di, kt_nr, kt_br, kt_sr, kt_tr, kt_lr, kt_dr, oStrI, if_t1, if_f1, Bool.not_true, Bool.not_false, rt, startD, List.map_cons, List.map_nil, List.length_cons, List.length_nil, List.cons_append, List.nil_append, List.getElem?_cons_zero, List.getElem?_cons_succ, List.set_cons_zero, List.set_cons_succ, List.replicate, Nat.reduceAdd, Nat.reduceSub, Nat.zero_add, Nat.sub_self, Nat.add_sub_cancel, lk_top, lk_bot, w1, w2, numD_int, numD_ins, w_is_int, w_is_number, wi_Ratio, w_as_ratio, w_top, w_bottom, w1r, w2r, w_add, w_neg, w_abs, w_sub, w_mul, w_radd, w_rsub, w_rmul, w_floordiv, w_rfloordiv, w_mod, w_rmod, w_str, w_repr, w_eq, w_quotient, wCutTo, wTruth, oPow, sFor, sForR, at0', at1, at2, forStep, sWhile, w_low, w_whole, w_fraction, wi_Ratio]
        exact ⟨m1, m2, m3, h'⟩
theorem eqT {a b : Int} {S : MS} {Q : D → MS → Prop} (h : Q (.bl true) S) : oEqD (.tup [.int a, .int b]) (.tup [.int a, .int b]) S Q := by
  refine ⟨.tuple [.int a, .int b], .tuple [.int a, .int b], rfl, rfl, by simp [SeqAt.shaped, PyData.canLay0, PyData.canLayAll0, PyData.depth, PyData.depthAll], by simp [SeqAt.shaped, PyData.canLay0, PyData.canLayAll0, PyData.depth, PyData.depthAll], ?_⟩
  have e : PyData.eqv (.tuple [.int a, .int b]) (.tuple [.int a, .int b]) = true := by simp [PyData.eqv, PyData.eqvAll]
  rw [e]
  exact h
theorem okS (x : String) : PyData.strOk (Str.ofString x) = true := by
  rw [Str.ofString_eq_toList]
  unfold PyData.strOk
  rw [Array.all_eq_true]
  intro i hi
  simp at hi ⊢
  have := (x.toList[i]).valid
  have h2 : (x.toList[i]).toNat < 0x110000 := by
    rcases this with h | h
    · have : (x.toList[i]).toNat < 55296 := h
      omega
    · exact h.2
  simpa using h2
theorem ok_app {a b : Str} (ha : PyData.strOk a = true) (hb : PyData.strOk b = true) : PyData.strOk (a ++ b) = true := by
  have ha' : a.cps.all (· < 0x110000) = true := ha
  have hb' : b.cps.all (· < 0x110000) = true := hb
  show (a.cps ++ b.cps).all (· < 0x110000) = true
  rw [Array.all_append, ha', hb']
  rfl
theorem shp {a b : Str} (ha : PyData.strOk a = true) (hb : PyData.strOk b = true) : SeqAt.shaped (.list [.str a, .str b]) = true := by
  simp [SeqAt.shaped, PyData.canLay0, PyData.canLayAll0, PyData.depth, PyData.depthAll, ha, hb]
theorem eqS {a b : Str} {S : MS} {Q : D → MS → Prop} (ha : PyData.strOk a = true) (hb : PyData.strOk b = true) (h : Q (.bl true) S) : oEqD (.lst [.str a, .str b]) (.lst [.str a, .str b]) S Q := by
  refine ⟨.list [.str a, .str b], .list [.str a, .str b], rfl, rfl, shp ha hb, shp ha hb, ?_⟩
  have e : PyData.eqv (.list [.str a, .str b]) (.list [.str a, .str b]) = true := by simp [PyData.eqv, PyData.eqvAll]
  rw [e]
  exact h
theorem neS {a b : Str} {S : MS} {Q : D → MS → Prop} (ha : PyData.strOk a = true) (hb : PyData.strOk b = true) (h : Q (.bl false) S) : oNeD (.lst [.str a, .str b]) (.lst [.str a, .str b]) S Q := by
  refine ⟨.list [.str a, .str b], .list [.str a, .str b], rfl, rfl, shp ha hb, shp ha hb, ?_⟩
  have e : PyData.eqv (.list [.str a, .str b]) (.list [.str a, .str b]) = true := by simp [PyData.eqv, PyData.eqvAll]
  rw [e]
  exact h
theorem eqNil {m : Nat} {S : MS} {Q : D → MS → Prop} (e : S[m]? = some []) (h : Q (.bl true) S) : oEqD (.mut m) (.lst []) S Q := by
  refine ⟨.list [], .list [], ?_, rfl, rfl, rfl, ?_⟩
  · show (S[m]?).bind _ = _
    rw [e]
    rfl
  · have e : PyData.eqv (.list []) (.list []) = true := by simp [PyData.eqv, PyData.eqvAll]
    rw [e]
    exact h

theorem e_app (a : Str) : Str.empty ++ a = a := by
  cases a
  show Str.mk _ = _
  simp [Str.empty]
theorem strR_eq (t b : Int) : strR (t, b) = if b = 1 then txt t else txt t ++ "/" ++ txt b := by
  show (if b = 1 then txt t else Str.empty ++ txt t ++ "/" ++ txt b) = _
  rw [e_app]
theorem reprR_eq (t b : Int) : reprR (t, b) = "Ratio(" ++ txt t ++ ", " ++ txt b ++ ")" := by
  show Str.empty ++ "Ratio(" ++ txt t ++ ", " ++ txt b ++ ")" = _
  rw [e_app]
theorem len_app (a b : Str) : (a ++ b).length = a.length + b.length := Array.size_append

end
end K1
set_option Elab.async false
set_option linter.all false
set_option maxRecDepth 100000
namespace K1
open PySem PySem.Spec PyProof.Rows L2 DL
section
variable {P : Program} {w : World} {K : PySem.W.Frag} {mg : Str → Option Value} {base : Heap}
theorem lkm (t b : Int) {m : Str} (h1 : ¬ m = "_top") (h2 : ¬ m = "_bottom") : List.lookup m [(("_top" : Str), D.int t), ("_bottom", .int b)] = none := by
  have q1 : (m == ("_top" : Str)) = false := by simpa using h1
  have q2 : (m == ("_bottom" : Str)) = false := by simpa using h2
  simp [List.lookup, q1, q2]
theorem lk_ex (t b : Int) : List.lookup ("_excess" : Str) [(("_top" : Str), D.int t), ("_bottom", .int b)] = none := lkm t b (by decide +kernel) (by decide +kernel)

def w_excess : WF := w2r fun p q S Q => (Sz 2000 p ∧ Sz 2000 q) ∧ Q (.int (p.1 * q.2 - q.1 * p.2)) S
theorem sc_R_excess : FnScope ["self", "number", "right"] ["self", "number"] (defScope s_R_excess) := ⟨rfl, rfl, rfl, by decide +kernel, rfl, by decide +kernel, by decide +kernel⟩
theorem ok_R_excess (T : Tx K mg) : FnOk P w K mg base CX0 6 T.f_R_excess T.fd_R_excess ["self", "number"] (spW ⟨K, mg⟩ 2 w_excess) := by
  refine fnD (k := 5) T.F_R_excess sc_R_excess (fun cdv A outer s H E hr => ⟨_, (dss_cons (ds_set (i := 2) sc_R_excess.nd (d_call (ok_as_ratio T) (hr.mono (by decide)) T.m_as_ratio T.F_as_ratio.kp T.b_as_ratio (da_cons (dv 1) da_nil)))
  (dss_one (ds_ret (d_op op_sub snd_iSub (d_op op_mulW snd_iMul (d_fld (dv 0) T.g_Ratio T.cl T.na_top) (d_prop (dv 2) T.g_Ratio T.cl T.p_bottom (ok_R_bottom T) (hr.mono (by decide)) T.b_R_bottom)) (d_op op_mulW snd_iMul (d_prop (dv 2) T.g_Ratio T.cl T.p_top (ok_R_top T) (hr.mono (by decide)) T.b_R_top) (d_fld (dv 0) T.g_Ratio T.cl T.na_bottom))))))⟩) (fun ds S Q hl h => ?_)
  obtain ⟨t, b, y, q, rfl, hq, ⟨sp, sq⟩, h⟩ := two_rat h
  have h1 : t.natAbs < 2 ^ 2000 := sp.2.1
  have h2 : b.natAbs < 2 ^ 2000 := sp.2.2
  have h3 : q.1.natAbs < 2 ^ 2000 := sq.2.1
  have h4 : q.2.natAbs < 2 ^ 2000 := sq.2.2
  rcases num_in hq with ⟨i, rfl, rfl⟩ | ⟨u, d, rfl, rfl⟩
  · simp only [true_and, and_true, oU2, oUn1, oL1, oS1, oR1, oJust, iAdd, iSub, iMul, iFdiv, iMod, iEq, iNe, iLt, iLe, iGt, iGe, iNeg, iAbs, DL.iStr, wFmt, wJs, wJoined, sNext, sSeq, sDrop, sRet, sRetN, sIf, sAsg, sPar, wOp, wVar, wC, wUn, wCons, wNil, wCB, wCall, wMake, wMakeSw, wCallSw, wProp, wFld, oI, oI0, oU, wTest, wAnd, wOr, wNot, wAndV, wOrV, wNotV, wIf, wTup, wLst, wLstM, gwName, gwNil, gwCons, gwTup, gwSub, oIx, oInt1, oAbsI, oLen, oGcd, oDivmod, oMax2, oMin2, oIsi, tyOf, clOf, kt_ii, kt_ib, kt_rr, kt_ir, kt_ri, kt_rb, kt_ni, kt_bi, kt_bb, kt_si, kt_ti, kt_li, kt_di, kt_nr, kt_br, kt_sr, kt_tr, kt_lr, kt_dr, oStrI, if_t1, if_f1, Bool.not_true, Bool.not_false, rt, startD, List.map_cons, List.map_nil, List.length_cons, List.length_nil, List.cons_append, List.nil_append, List.getElem?_cons_zero, List.getElem?_cons_succ, List.set_cons_zero, List.set_cons_succ, List.replicate, Nat.reduceAdd, Nat.reduceSub, Nat.zero_add, Nat.sub_self, Nat.add_sub_cancel, lk_top, lk_bot, w1, w2, numD_int, numD_ins, w_is_int, w_is_number, wi_Ratio, w_as_ratio, w_top, w_bottom, w1r, w2r, w_add, w_neg, w_abs, w_sub, w_mul, w_radd, w_rsub, w_rmul, w_floordiv, w_rfloordiv, w_mod, w_rmod, w_str, w_repr, w_eq, w_quotient, wCutTo, wTruth, oPow, sFor, sForR, at0', at1, at2, forStep, sWhile, w_low, w_whole, w_fraction, wi_Ratio, w_made, wMeth, oBool1, lk_ex, oOwnA]
    exact ⟨cm8 h1 h4, cm8 h3 h2, h⟩
  · simp only [true_and, and_true, oU2, oUn1, oL1, oS1, oR1, oJust, iAdd, iSub, iMul, iFdiv, iMod, iEq, iNe, iLt, iLe, iGt, iGe, iNeg, iAbs, DL.iStr, wFmt, wJs, wJoined, sNext, sSeq, sDrop, sRet, sRetN, sIf, sAsg, sPar, wOp, wVar, wC, wUn, wCons, wNil, wCB, wCall, wMake, wMakeSw, wCallSw, wProp, wFld, oI, oI0, oU, wTest, wAnd, wOr, wNot, wAndV, wOrV, wNotV, wIf, wTup, wLst, wLstM, gwName, gwNil, gwCons, gwTup, gwSub, oIx, oInt1, oAbsI, oLen, oGcd, oDivmod, oMax2, oMin2, oIsi, tyOf, clOf, kt_ii, kt_ib, kt_rr, kt_ir, kt_ri, kt_rb, kt_ni, kt_bi, kt_bb, kt_si, kt_ti, kt_li, kt_di, kt_nr, kt_br, kt_sr, kt_tr, kt_lr, kt_dr, oStrI, if_t1, if_f1, Bool.not_true, Bool.not_false, rt, startD, List.map_cons, List.map_nil, List.length_cons, List.length_nil, List.cons_append, List.nil_append, List.getElem?_cons_zero, List.getElem?_cons_succ, List.set_cons_zero, List.set_cons_succ, List.replicate, Nat.reduceAdd, Nat.reduceSub, Nat.zero_add, Nat.sub_self, Nat.add_sub_cancel, lk_top, lk_bot, w1, w2, numD_int, numD_ins, w_is_int, w_is_number, wi_Ratio, w_as_ratio, w_top, w_bottom, w1r, w2r, w_add, w_neg, w_abs, w_sub, w_mul, w_radd, w_rsub, w_rmul, w_floordiv, w_rfloordiv, w_mod, w_rmod, w_str, w_repr, w_eq, w_quotient, wCutTo, wTruth, oPow, sFor, sForR, at0', at1, at2, forStep, sWhile, w_low, w_whole, w_fraction, wi_Ratio, w_made, wMeth, oBool1, lk_ex, oOwnA]
    exact ⟨cm8 h1 h4, cm8 h3 h2, h⟩
def w_lt : WF := w2r fun p q S Q => (Sz 2000 p ∧ Sz 2000 q) ∧ Q (.bl (decide (p.1 * q.2 - q.1 * p.2 < 0))) S
theorem sc_R_lt : FnScope ["self", "other"] ["self", "other"] (defScope s_R_lt) := ⟨rfl, rfl, rfl, by decide +kernel, rfl, by decide +kernel, by decide +kernel⟩
theorem ok_R_lt (T : Tx K mg) : FnOk P w K mg base CX0 8 T.f_R_lt T.fd_R_lt ["self", "other"] (spW ⟨K, mg⟩ 2 w_lt) := by
  refine fnD (k := 7) T.F_R_lt sc_R_lt (fun cdv A outer s H E hr => ⟨_, (dss_cons (ds_if (dt_not (dt_val (d_call (ok_is_number T) (hr.mono (by decide)) T.m_is_number T.F_is_number.kp T.b_is_number (da_cons (dv 1) da_nil)))) (dss_one ds_never) dss_nil)
  (dss_one (ds_ret (d_cmp op_lt snd_iLt (d_meth (dv 0) T.g_Ratio T.cl T.M_R_excess (ok_R_excess T) (hr.mono (by decide)) T.b_R_excess (da_cons (dv 1) da_nil)) d_int (nomark _)))))⟩) (fun ds S Q hl h => ?_)
  obtain ⟨t, b, y, q, rfl, hq, ⟨sp, sq⟩, h⟩ := two_rat h
  have h1 : t.natAbs < 2 ^ 2000 := sp.2.1
  have h2 : b.natAbs < 2 ^ 2000 := sp.2.2
  have h3 : q.1.natAbs < 2 ^ 2000 := sq.2.1
  have h4 : q.2.natAbs < 2 ^ 2000 := sq.2.2
  rcases num_in hq with ⟨i, rfl, rfl⟩ | ⟨u, d, rfl, rfl⟩
  · simp only [true_and, and_true, oU2, oUn1, oL1, oS1, oR1, oJust, iAdd, iSub, iMul, iFdiv, iMod, iEq, iNe, iLt, iLe, iGt, iGe, iNeg, iAbs, DL.iStr, wFmt, wJs, wJoined, sNext, sSeq, sDrop, sRet, sRetN, sIf, sAsg, sPar, wOp, wVar, wC, wUn, wCons, wNil, wCB, wCall, wMake, wMakeSw, wCallSw, wProp, wFld, oI, oI0, oU, wTest, wAnd, wOr, wNot, wAndV, wOrV, wNotV, wIf, wTup, wLst, wLstM, gwName, gwNil, gwCons, gwTup, gwSub, oIx, oInt1, oAbsI, oLen, oGcd, oDivmod, oMax2, oMin2, oIsi, tyOf, clOf, kt_ii, kt_ib, kt_rr, kt_ir, kt_ri, kt_rb, kt_ni, kt_bi, kt_bb, kt_si, kt_ti, kt_li, kt_di, kt_nr, kt_br, kt_sr, kt_tr, kt_lr, kt_dr, oStrI, if_t1, if_f1, Bool.not_true, Bool.not_false, rt, startD, List.map_cons, List.map_nil, List.length_cons, List.length_nil, List.cons_append, List.nil_append, List.getElem?_cons_zero, List.getElem?_cons_succ, List.set_cons_zero, List.set_cons_succ, List.replicate, Nat.reduceAdd, Nat.reduceSub, Nat.zero_add, Nat.sub_self, Nat.add_sub_cancel, lk_top, lk_bot, w1, w2, numD_int, numD_ins, w_is_int, w_is_number, wi_Ratio, w_as_ratio, w_top, w_bottom, w1r, w2r, w_add, w_neg, w_abs, w_sub, w_mul, w_radd, w_rsub, w_rmul, w_floordiv, w_rfloordiv, w_mod, w_rmod, w_str, w_repr, w_eq, w_quotient, wCutTo, wTruth, oPow, sFor, sForR, at0', at1, at2, forStep, sWhile, w_low, w_whole, w_fraction, wi_Ratio, w_made, wMeth, oBool1, lk_ex, oOwnA, w_excess]
    exact ⟨⟨sp, sq⟩, h⟩
  · simp only [true_and, and_true, oU2, oUn1, oL1, oS1, oR1, oJust, iAdd, iSub, iMul, iFdiv, iMod, iEq, iNe, iLt, iLe, iGt, iGe, iNeg, iAbs, DL.iStr, wFmt, wJs, wJoined, sNext, sSeq, sDrop, sRet, sRetN, sIf, sAsg, sPar, wOp, wVar, wC, wUn, wCons, wNil, wCB, wCall, wMake, wMakeSw, wCallSw, wProp, wFld, oI, oI0, oU, wTest, wAnd, wOr, wNot, wAndV, wOrV, wNotV, wIf, wTup, wLst, wLstM, gwName, gwNil, gwCons, gwTup, gwSub, oIx, oInt1, oAbsI, oLen, oGcd, oDivmod, oMax2, oMin2, oIsi, tyOf, clOf, kt_ii, kt_ib, kt_rr, kt_ir, kt_ri, kt_rb, kt_ni, kt_bi, kt_bb, kt_si, kt_ti, kt_li, kt_di, kt_nr, kt_br, kt_sr, kt_tr, kt_lr, kt_dr, oStrI, if_t1, if_f1, Bool.not_true, Bool.not_false, rt, startD, List.map_cons, List.map_nil, List.length_cons, List.length_nil, List.cons_append, List.nil_append, List.getElem?_cons_zero, List.getElem?_cons_succ, List.set_cons_zero, List.set_cons_succ, List.replicate, Nat.reduceAdd, Nat.reduceSub, Nat.zero_add, Nat.sub_self, Nat.add_sub_cancel, lk_top, lk_bot, w1, w2, numD_int, numD_ins, w_is_int, w_is_number, wi_Ratio, w_as_ratio, w_top, w_bottom, w1r, w2r, w_add, w_neg, w_abs, w_sub, w_mul, w_radd, w_rsub, w_rmul, w_floordiv, w_rfloordiv, w_mod, w_rmod, w_str, w_repr, w_eq, w_quotient, wCutTo, wTruth, oPow, sFor, sForR, at0', at1, at2, forStep, sWhile, w_low, w_whole, w_fraction, wi_Ratio, w_made, wMeth, oBool1, lk_ex, oOwnA, w_excess]
    exact ⟨⟨sp, sq⟩, h⟩
def w_le : WF := w2r fun p q S Q => (Sz 2000 p ∧ Sz 2000 q) ∧ Q (.bl (decide (p.1 * q.2 - q.1 * p.2 ≤ 0))) S
theorem sc_R_le : FnScope ["self", "other"] ["self", "other"] (defScope s_R_le) := ⟨rfl, rfl, rfl, by decide +kernel, rfl, by decide +kernel, by decide +kernel⟩
theorem ok_R_le (T : Tx K mg) : FnOk P w K mg base CX0 8 T.f_R_le T.fd_R_le ["self", "other"] (spW ⟨K, mg⟩ 2 w_le) := by
  refine fnD (k := 7) T.F_R_le sc_R_le (fun cdv A outer s H E hr => ⟨_, (dss_cons (ds_if (dt_not (dt_val (d_call (ok_is_number T) (hr.mono (by decide)) T.m_is_number T.F_is_number.kp T.b_is_number (da_cons (dv 1) da_nil)))) (dss_one ds_never) dss_nil)
  (dss_one (ds_ret (d_cmp op_le snd_iLe (d_meth (dv 0) T.g_Ratio T.cl T.M_R_excess (ok_R_excess T) (hr.mono (by decide)) T.b_R_excess (da_cons (dv 1) da_nil)) d_int (nomark _)))))⟩) (fun ds S Q hl h => ?_)
  obtain ⟨t, b, y, q, rfl, hq, ⟨sp, sq⟩, h⟩ := two_rat h
  have h1 : t.natAbs < 2 ^ 2000 := sp.2.1
  have h2 : b.natAbs < 2 ^ 2000 := sp.2.2
  have h3 : q.1.natAbs < 2 ^ 2000 := sq.2.1
  have h4 : q.2.natAbs < 2 ^ 2000 := sq.2.2
  rcases num_in hq with ⟨i, rfl, rfl⟩ | ⟨u, d, rfl, rfl⟩
  · simp only [true_and, and_true, oU2, oUn1, oL1, oS1, oR1, oJust, iAdd, iSub, iMul, iFdiv, iMod, iEq, iNe, iLt, iLe, iGt, iGe, iNeg, iAbs, DL.iStr, wFmt, wJs, wJoined, sNext, sSeq, sDrop, sRet, sRetN, sIf, sAsg, sPar, wOp, wVar, wC, wUn, wCons, wNil, wCB, wCall, wMake, wMakeSw, wCallSw, wProp, wFld, oI, oI0, oU, wTest, wAnd, wOr, wNot, wAndV, wOrV, wNotV, wIf, wTup, wLst, wLstM, gwName, gwNil, gwCons, gwTup, gwSub, oIx, oInt1, oAbsI, oLen, oGcd, oDivmod, oMax2, oMin2, oIsi, tyOf, clOf, kt_ii, kt_ib, kt_rr, kt_ir, kt_ri, kt_rb, kt_ni, kt_bi, kt_bb, kt_si, kt_ti, kt_li, kt_di, kt_nr, kt_br, kt_sr, kt_tr, kt_lr, kt_dr, oStrI, if_t1, if_f1, Bool.not_true, Bool.not_false, rt, startD, List.map_cons, List.map_nil, List.length_cons, List.length_nil, List.cons_append, List.nil_append, List.getElem?_cons_zero, List.getElem?_cons_succ, List.set_cons_zero, List.set_cons_succ, List.replicate, Nat.reduceAdd, Nat.reduceSub, Nat.zero_add, Nat.sub_self, Nat.add_sub_cancel, lk_top, lk_bot, w1, w2, numD_int, numD_ins, w_is_int, w_is_number, wi_Ratio, w_as_ratio, w_top, w_bottom, w1r, w2r, w_add, w_neg, w_abs, w_sub, w_mul, w_radd, w_rsub, w_rmul, w_floordiv, w_rfloordiv, w_mod, w_rmod, w_str, w_repr, w_eq, w_quotient, wCutTo, wTruth, oPow, sFor, sForR, at0', at1, at2, forStep, sWhile, w_low, w_whole, w_fraction, wi_Ratio, w_made, wMeth, oBool1, lk_ex, oOwnA, w_excess]
    exact ⟨⟨sp, sq⟩, h⟩
  · simp only [true_and, and_true, oU2, oUn1, oL1, oS1, oR1, oJust, iAdd, iSub, iMul, iFdiv, iMod, iEq, iNe, iLt, iLe, iGt, iGe, iNeg, iAbs, DL.iStr, wFmt, wJs, wJoined, sNext, sSeq, sDrop, sRet, sRetN, sIf, sAsg, sPar, wOp, wVar, wC, wUn, wCons, wNil, wCB, wCall, wMake, wMakeSw, wCallSw, wProp, wFld, oI, oI0, oU, wTest, wAnd, wOr, wNot, wAndV, wOrV, wNotV, wIf, wTup, wLst, wLstM, gwName, gwNil, gwCons, gwTup, gwSub, oIx, oInt1, oAbsI, oLen, oGcd, oDivmod, oMax2, oMin2, oIsi, tyOf, clOf, kt_ii, kt_ib, kt_rr, kt_ir, kt_ri, kt_rb, kt_ni, kt_bi, kt_bb, kt_si, kt_ti, kt_li, kt_di, kt_nr, kt_br, kt_sr, kt_tr, kt_lr, kt_dr, oStrI, if_t1, if_f1, Bool.not_true, Bool.not_false, rt, startD, List.map_cons, List.map_nil, List.length_cons, List.length_nil, List.cons_append, List.nil_append, List.getElem?_cons_zero, List.getElem?_cons_succ, List.set_cons_zero, List.set_cons_succ, List.replicate, Nat.reduceAdd, Nat.reduceSub, Nat.zero_add, Nat.sub_self, Nat.add_sub_cancel, lk_top, lk_bot, w1, w2, numD_int, numD_ins, w_is_int, w_is_number, wi_Ratio, w_as_ratio, w_top, w_bottom, w1r, w2r, w_add, w_neg, w_abs, w_sub, w_mul, w_radd, w_rsub, w_rmul, w_floordiv, w_rfloordiv, w_mod, w_rmod, w_str, w_repr, w_eq, w_quotient, wCutTo, wTruth, oPow, sFor, sForR, at0', at1, at2, forStep, sWhile, w_low, w_whole, w_fraction, wi_Ratio, w_made, wMeth, oBool1, lk_ex, oOwnA, w_excess]
    exact ⟨⟨sp, sq⟩, h⟩
def w_gt : WF := w2r fun p q S Q => (Sz 2000 p ∧ Sz 2000 q) ∧ Q (.bl (decide (p.1 * q.2 - q.1 * p.2 > 0))) S
theorem sc_R_gt : FnScope ["self", "other"] ["self", "other"] (defScope s_R_gt) := ⟨rfl, rfl, rfl, by decide +kernel, rfl, by decide +kernel, by decide +kernel⟩
theorem ok_R_gt (T : Tx K mg) : FnOk P w K mg base CX0 8 T.f_R_gt T.fd_R_gt ["self", "other"] (spW ⟨K, mg⟩ 2 w_gt) := by
  refine fnD (k := 7) T.F_R_gt sc_R_gt (fun cdv A outer s H E hr => ⟨_, (dss_cons (ds_if (dt_not (dt_val (d_call (ok_is_number T) (hr.mono (by decide)) T.m_is_number T.F_is_number.kp T.b_is_number (da_cons (dv 1) da_nil)))) (dss_one ds_never) dss_nil)
  (dss_one (ds_ret (d_cmp op_gt snd_iGt (d_meth (dv 0) T.g_Ratio T.cl T.M_R_excess (ok_R_excess T) (hr.mono (by decide)) T.b_R_excess (da_cons (dv 1) da_nil)) d_int (nomark _)))))⟩) (fun ds S Q hl h => ?_)
  obtain ⟨t, b, y, q, rfl, hq, ⟨sp, sq⟩, h⟩ := two_rat h
  have h1 : t.natAbs < 2 ^ 2000 := sp.2.1
  have h2 : b.natAbs < 2 ^ 2000 := sp.2.2
  have h3 : q.1.natAbs < 2 ^ 2000 := sq.2.1
  have h4 : q.2.natAbs < 2 ^ 2000 := sq.2.2
  rcases num_in hq with ⟨i, rfl, rfl⟩ | ⟨u, d, rfl, rfl⟩
  · simp only [true_and, and_true, oU2, oUn1, oL1, oS1, oR1, oJust, iAdd, iSub, iMul, iFdiv, iMod, iEq, iNe, iLt, iLe, iGt, iGe, iNeg, iAbs, DL.iStr, wFmt, wJs, wJoined, sNext, sSeq, sDrop, sRet, sRetN, sIf, sAsg, sPar, wOp, wVar, wC, wUn, wCons, wNil, wCB, wCall, wMake, wMakeSw, wCallSw, wProp, wFld, oI, oI0, oU, wTest, wAnd, wOr, wNot, wAndV, wOrV, wNotV, wIf, wTup, wLst, wLstM, gwName, gwNil, gwCons, gwTup, gwSub, oIx, oInt1, oAbsI, oLen, oGcd, oDivmod, oMax2, oMin2, oIsi, tyOf, clOf, kt_ii, kt_ib, kt_rr, kt_ir, kt_ri, kt_rb, kt_ni, kt_bi, kt_bb, kt_si, kt_ti, kt_li, kt_di, kt_nr, kt_br, kt_sr, kt_tr, kt_lr, kt_dr, oStrI, if_t1, if_f1, Bool.not_true, Bool.not_false, rt, startD, List.map_cons, List.map_nil, List.length_cons, List.length_nil, List.cons_append, List.nil_append, List.getElem?_cons_zero, List.getElem?_cons_succ, List.set_cons_zero, List.set_cons_succ, List.replicate, Nat.reduceAdd, Nat.reduceSub, Nat.zero_add, Nat.sub_self, Nat.add_sub_cancel, lk_top, lk_bot, w1, w2, numD_int, numD_ins, w_is_int, w_is_number, wi_Ratio, w_as_ratio, w_top, w_bottom, w1r, w2r, w_add, w_neg, w_abs, w_sub, w_mul, w_radd, w_rsub, w_rmul, w_floordiv, w_rfloordiv, w_mod, w_rmod, w_str, w_repr, w_eq, w_quotient, wCutTo, wTruth, oPow, sFor, sForR, at0', at1, at2, forStep, sWhile, w_low, w_whole, w_fraction, wi_Ratio, w_made, wMeth, oBool1, lk_ex, oOwnA, w_excess]
    exact ⟨⟨sp, sq⟩, h⟩
  · simp only [true_and, and_true, oU2, oUn1, oL1, oS1, oR1, oJust, iAdd, iSub, iMul, iFdiv, iMod, iEq, iNe, iLt, iLe, iGt, iGe, iNeg, iAbs, DL.iStr, wFmt, wJs, wJoined, sNext, sSeq, sDrop, sRet, sRetN, sIf, sAsg, sPar, wOp, wVar, wC, wUn, wCons, wNil, wCB, wCall, wMake, wMakeSw, wCallSw, wProp, wFld, oI, oI0, oU, wTest, wAnd, wOr, wNot, wAndV, wOrV, wNotV, wIf, wTup, wLst, wLstM, gwName, gwNil, gwCons, gwTup, gwSub, oIx, oInt1, oAbsI, oLen, oGcd, oDivmod, oMax2, oMin2, oIsi, tyOf, clOf, kt_ii, kt_ib, kt_rr, kt_ir, kt_ri, kt_rb, kt_ni, kt_bi, kt_bb, kt_si, kt_ti, kt_li, kt_di, kt_nr, kt_br, kt_sr, kt_tr, kt_lr, kt_dr, oStrI, if_t1, if_f1, Bool.not_true, Bool.not_false, rt, startD, List.map_cons, List.map_nil, List.length_cons, List.length_nil, List.cons_append, List.nil_append, List.getElem?_cons_zero, List.getElem?_cons_succ, List.set_cons_zero, List.set_cons_succ, List.replicate, Nat.reduceAdd, Nat.reduceSub, Nat.zero_add, Nat.sub_self, Nat.add_sub_cancel, lk_top, lk_bot, w1, w2, numD_int, numD_ins, w_is_int, w_is_number, wi_Ratio, w_as_ratio, w_top, w_bottom, w1r, w2r, w_add, w_neg, w_abs, w_sub, w_mul, w_radd, w_rsub, w_rmul, w_floordiv, w_rfloordiv, w_mod, w_rmod, w_str, w_repr, w_eq, w_quotient, wCutTo, wTruth, oPow, sFor, sForR, at0', at1, at2, forStep, sWhile, w_low, w_whole, w_fraction, wi_Ratio, w_made, wMeth, oBool1, lk_ex, oOwnA, w_excess]
    exact ⟨⟨sp, sq⟩, h⟩
def w_ge : WF := w2r fun p q S Q => (Sz 2000 p ∧ Sz 2000 q) ∧ Q (.bl (decide (p.1 * q.2 - q.1 * p.2 ≥ 0))) S
theorem sc_R_ge : FnScope ["self", "other"] ["self", "other"] (defScope s_R_ge) := ⟨rfl, rfl, rfl, by decide +kernel, rfl, by decide +kernel, by decide +kernel⟩
theorem ok_R_ge (T : Tx K mg) : FnOk P w K mg base CX0 8 T.f_R_ge T.fd_R_ge ["self", "other"] (spW ⟨K, mg⟩ 2 w_ge) := by
  refine fnD (k := 7) T.F_R_ge sc_R_ge (fun cdv A outer s H E hr => ⟨_, (dss_cons (ds_if (dt_not (dt_val (d_call (ok_is_number T) (hr.mono (by decide)) T.m_is_number T.F_is_number.kp T.b_is_number (da_cons (dv 1) da_nil)))) (dss_one ds_never) dss_nil)
  (dss_one (ds_ret (d_cmp op_ge snd_iGe (d_meth (dv 0) T.g_Ratio T.cl T.M_R_excess (ok_R_excess T) (hr.mono (by decide)) T.b_R_excess (da_cons (dv 1) da_nil)) d_int (nomark _)))))⟩) (fun ds S Q hl h => ?_)
  obtain ⟨t, b, y, q, rfl, hq, ⟨sp, sq⟩, h⟩ := two_rat h
  have h1 : t.natAbs < 2 ^ 2000 := sp.2.1
  have h2 : b.natAbs < 2 ^ 2000 := sp.2.2
  have h3 : q.1.natAbs < 2 ^ 2000 := sq.2.1
  have h4 : q.2.natAbs < 2 ^ 2000 := sq.2.2
  rcases num_in hq with ⟨i, rfl, rfl⟩ | ⟨u, d, rfl, rfl⟩
  · simp only [true_and, and_true, oU2, oUn1, oL1, oS1, oR1, oJust, iAdd, iSub, iMul, iFdiv, iMod, iEq, iNe, iLt, iLe, iGt, iGe, iNeg, iAbs, DL.iStr, wFmt, wJs, wJoined, sNext, sSeq, sDrop, sRet, sRetN, sIf, sAsg, sPar, wOp, wVar, wC, wUn, wCons, wNil, wCB, wCall, wMake, wMakeSw, wCallSw, wProp, wFld, oI, oI0, oU, wTest, wAnd, wOr, wNot, wAndV, wOrV, wNotV, wIf, wTup, wLst, wLstM, gwName, gwNil, gwCons, gwTup, gwSub, oIx, oInt1, oAbsI, oLen, oGcd, oDivmod, oMax2, oMin2, oIsi, tyOf, clOf, kt_ii, kt_ib, kt_rr, kt_ir, kt_ri, kt_rb, kt_ni, kt_bi, kt_bb, kt_si, kt_ti, kt_li, kt_di, kt_nr, kt_br, kt_sr, kt_tr, kt_lr, kt_dr, oStrI, if_t1, if_f1, Bool.not_true, Bool.not_false, rt, startD, List.map_cons, List.map_nil, List.length_cons, List.length_nil, List.cons_append, List.nil_append, List.getElem?_cons_zero, List.getElem?_cons_succ, List.set_cons_zero, List.set_cons_succ, List.replicate, Nat.reduceAdd, Nat.reduceSub, Nat.zero_add, Nat.sub_self, Nat.add_sub_cancel, lk_top, lk_bot, w1, w2, numD_int, numD_ins, w_is_int, w_is_number, wi_Ratio, w_as_ratio, w_top, w_bottom, w1r, w2r, w_add, w_neg, w_abs, w_sub, w_mul, w_radd, w_rsub, w_rmul, w_floordiv, w_rfloordiv, w_mod, w_rmod, w_str, w_repr, w_eq, w_quotient, wCutTo, wTruth, oPow, sFor, sForR, at0', at1, at2, forStep, sWhile, w_low, w_whole, w_fraction, wi_Ratio, w_made, wMeth, oBool1, lk_ex, oOwnA, w_excess]
    exact ⟨⟨sp, sq⟩, h⟩
  · simp only [true_and, and_true, oU2, oUn1, oL1, oS1, oR1, oJust, iAdd, iSub, iMul, iFdiv, iMod, iEq, iNe, iLt, iLe, iGt, iGe, iNeg, iAbs, DL.iStr, wFmt, wJs, wJoined, sNext, sSeq, sDrop, sRet, sRetN, sIf, sAsg, sPar, wOp, wVar, wC, wUn, wCons, wNil, wCB, wCall, wMake, wMakeSw, wCallSw, wProp, wFld, oI, oI0, oU, wTest, wAnd, wOr, wNot, wAndV, wOrV, wNotV, wIf, wTup, wLst, wLstM, gwName, gwNil, gwCons, gwTup, gwSub, oIx, oInt1, oAbsI, oLen, oGcd, oDivmod, oMax2, oMin2, oIsi, tyOf, clOf, kt_ii, kt_ib, kt_rr, kt_ir, kt_ri, kt_rb, kt_ni, kt_bi, kt_bb, kt_si, kt_ti, kt_li, kt_di, kt_nr, kt_br, kt_sr, kt_tr, kt_lr, kt_dr, oStrI, if_t1, if_f1, Bool.not_true, Bool.not_false, rt, startD, List.map_cons, List.map_nil, List.length_cons, List.length_nil, List.cons_append, List.nil_append, List.getElem?_cons_zero, List.getElem?_cons_succ, List.set_cons_zero, List.set_cons_succ, List.replicate, Nat.reduceAdd, Nat.reduceSub, Nat.zero_add, Nat.sub_self, Nat.add_sub_cancel, lk_top, lk_bot, w1, w2, numD_int, numD_ins, w_is_int, w_is_number, wi_Ratio, w_as_ratio, w_top, w_bottom, w1r, w2r, w_add, w_neg, w_abs, w_sub, w_mul, w_radd, w_rsub, w_rmul, w_floordiv, w_rfloordiv, w_mod, w_rmod, w_str, w_repr, w_eq, w_quotient, wCutTo, wTruth, oPow, sFor, sForR, at0', at1, at2, forStep, sWhile, w_low, w_whole, w_fraction, wi_Ratio, w_made, wMeth, oBool1, lk_ex, oOwnA, w_excess]
    exact ⟨⟨sp, sq⟩, h⟩
def w_ne : WF := w2r fun p q S Q => Q (.bl (!decide (p.1 = q.1 ∧ p.2 = q.2))) S
theorem sc_R_ne : FnScope ["self", "other"] ["self", "other"] (defScope s_R_ne) := ⟨rfl, rfl, rfl, by decide +kernel, rfl, by decide +kernel, by decide +kernel⟩
theorem ok_R_ne (T : Tx K mg) : FnOk P w K mg base CX0 6 T.f_R_ne T.fd_R_ne ["self", "other"] (spW ⟨K, mg⟩ 2 w_ne) := by
  refine fnD (k := 5) T.F_R_ne sc_R_ne (fun cdv A outer s H E hr => ⟨_, (dss_one (ds_ret (d_not (d_cmp (OpR.or op_eq (op_ownCmp (op := .Eq) (fun _ _ => rfl) T.own T.M_R_eq (ok_R_eq T) (hr.mono (by decide)) T.b_R_eq pass0)) (snd_U1 snd_iEq T.g_Ratio) (dv 0) (dv 1) (nomark _)))))⟩) (fun ds S Q hl h => ?_)
  obtain ⟨t, b, y, q, rfl, hq, h⟩ := two_rat h
  rcases num_in hq with ⟨i, rfl, rfl⟩ | ⟨u, d, rfl, rfl⟩
  · simp only [true_and, and_true, oU2, oUn1, oL1, oS1, oR1, oJust, iAdd, iSub, iMul, iFdiv, iMod, iEq, iNe, iLt, iLe, iGt, iGe, iNeg, iAbs, DL.iStr, wFmt, wJs, wJoined, sNext, sSeq, sDrop, sRet, sRetN, sIf, sAsg, sPar, wOp, wVar, wC, wUn, wCons, wNil, wCB, wCall, wMake, wMakeSw, wCallSw, wProp, wFld, oI, oI0, oU, wTest, wAnd, wOr, wNot, wAndV, wOrV, wNotV, wIf, wTup, wLst, wLstM, gwName, gwNil, gwCons, gwTup, gwSub, oIx, oInt1, oAbsI, oLen, oGcd, oDivmod, oMax2, oMin2, oIsi, tyOf, clOf, kt_ii, kt_ib, kt_rr, kt_ir, kt_ri, kt_rb, kt_ni, kt_bi, kt_bb, kt_si, kt_ti, kt_li, kt_di, kt_nr, kt_br, kt_sr, kt_tr, kt_lr, kt_dr, oStrI, if_t1, if_f1, Bool.not_true, Bool.not_false, rt, startD, List.map_cons, List.map_nil, List.length_cons, List.length_nil, List.cons_append, List.nil_append, List.getElem?_cons_zero, List.getElem?_cons_succ, List.set_cons_zero, List.set_cons_succ, List.replicate, Nat.reduceAdd, Nat.reduceSub, Nat.zero_add, Nat.sub_self, Nat.add_sub_cancel, lk_top, lk_bot, w1, w2, numD_int, numD_ins, w_is_int, w_is_number, wi_Ratio, w_as_ratio, w_top, w_bottom, w1r, w2r, w_add, w_neg, w_abs, w_sub, w_mul, w_radd, w_rsub, w_rmul, w_floordiv, w_rfloordiv, w_mod, w_rmod, w_str, w_repr, w_eq, w_quotient, wCutTo, wTruth, oPow, sFor, sForR, at0', at1, at2, forStep, sWhile, w_low, w_whole, w_fraction, wi_Ratio, w_made, wMeth, oBool1, lk_ex, oOwnA, w_excess]
    exact h
  · simp only [true_and, and_true, oU2, oUn1, oL1, oS1, oR1, oJust, iAdd, iSub, iMul, iFdiv, iMod, iEq, iNe, iLt, iLe, iGt, iGe, iNeg, iAbs, DL.iStr, wFmt, wJs, wJoined, sNext, sSeq, sDrop, sRet, sRetN, sIf, sAsg, sPar, wOp, wVar, wC, wUn, wCons, wNil, wCB, wCall, wMake, wMakeSw, wCallSw, wProp, wFld, oI, oI0, oU, wTest, wAnd, wOr, wNot, wAndV, wOrV, wNotV, wIf, wTup, wLst, wLstM, gwName, gwNil, gwCons, gwTup, gwSub, oIx, oInt1, oAbsI, oLen, oGcd, oDivmod, oMax2, oMin2, oIsi, tyOf, clOf, kt_ii, kt_ib, kt_rr, kt_ir, kt_ri, kt_rb, kt_ni, kt_bi, kt_bb, kt_si, kt_ti, kt_li, kt_di, kt_nr, kt_br, kt_sr, kt_tr, kt_lr, kt_dr, oStrI, if_t1, if_f1, Bool.not_true, Bool.not_false, rt, startD, List.map_cons, List.map_nil, List.length_cons, List.length_nil, List.cons_append, List.nil_append, List.getElem?_cons_zero, List.getElem?_cons_succ, List.set_cons_zero, List.set_cons_succ, List.replicate, Nat.reduceAdd, Nat.reduceSub, Nat.zero_add, Nat.sub_self, Nat.add_sub_cancel, lk_top, lk_bot, w1, w2, numD_int, numD_ins, w_is_int, w_is_number, wi_Ratio, w_as_ratio, w_top, w_bottom, w1r, w2r, w_add, w_neg, w_abs, w_sub, w_mul, w_radd, w_rsub, w_rmul, w_floordiv, w_rfloordiv, w_mod, w_rmod, w_str, w_repr, w_eq, w_quotient, wCutTo, wTruth, oPow, sFor, sForR, at0', at1, at2, forStep, sWhile, w_low, w_whole, w_fraction, wi_Ratio, w_made, wMeth, oBool1, lk_ex, oOwnA, w_excess]
    exact h
def w_bool : WF := w1r fun p S Q => Q (.bl (p.1 != 0)) S
theorem sc_R_bool : FnScope ["self"] ["self"] (defScope s_R_bool) := ⟨rfl, rfl, rfl, by decide +kernel, rfl, by decide +kernel, by decide +kernel⟩
theorem ok_R_bool (T : Tx K mg) : FnOk P w K mg base CX0 1 T.f_R_bool T.fd_R_bool ["self"] (spW ⟨K, mg⟩ 1 w_bool) := by
  refine fnD (k := 0) T.F_R_bool sc_R_bool (fun cdv A outer s H E hr => ⟨_, (dss_one (ds_ret (d_callTy call_bool1 snd_bool1 T.z_bool (da_cons (d_fld (dv 0) T.g_Ratio T.cl T.na_top) da_nil) (hv := bt_bool))))⟩) (fun ds S Q hl h => ?_)
  obtain ⟨t, b, rfl, h⟩ := one_rat h
  simp only [true_and, and_true, oU2, oUn1, oL1, oS1, oR1, oJust, iAdd, iSub, iMul, iFdiv, iMod, iEq, iNe, iLt, iLe, iGt, iGe, iNeg, iAbs, DL.iStr, wFmt, wJs, wJoined, sNext, sSeq, sDrop, sRet, sRetN, sIf, sAsg, sPar, wOp, wVar, wC, wUn, wCons, wNil, wCB, wCall, wMake, wMakeSw, wCallSw, wProp, wFld, oI, oI0, oU, wTest, wAnd, wOr, wNot, wAndV, wOrV, wNotV, wIf, wTup, wLst, wLstM, gwName, gwNil, gwCons, gwTup, gwSub, oIx, oInt1, oAbsI, oLen, oGcd, oDivmod, oMax2, oMin2, oIsi, tyOf, clOf, kt_ii, kt_ib, kt_rr, kt_ir, kt_ri, kt_rb, kt_ni, kt_bi, kt_bb, kt_si, kt_ti, kt_li, kt_di, kt_nr, kt_br, kt_sr, kt_tr, kt_lr, kt_dr, oStrI, if_t1, if_f1, Bool.not_true, Bool.not_false, rt, startD, List.map_cons, List.map_nil, List.length_cons, List.length_nil, List.cons_append, List.nil_append, List.getElem?_cons_zero, List.getElem?_cons_succ, List.set_cons_zero, List.set_cons_succ, List.replicate, Nat.reduceAdd, Nat.reduceSub, Nat.zero_add, Nat.sub_self, Nat.add_sub_cancel, lk_top, lk_bot, w1, w2, numD_int, numD_ins, w_is_int, w_is_number, wi_Ratio, w_as_ratio, w_top, w_bottom, w1r, w2r, w_add, w_neg, w_abs, w_sub, w_mul, w_radd, w_rsub, w_rmul, w_floordiv, w_rfloordiv, w_mod, w_rmod, w_str, w_repr, w_eq, w_quotient, wCutTo, wTruth, oPow, sFor, sForR, at0', at1, at2, forStep, sWhile, w_low, w_whole, w_fraction, wi_Ratio, w_made, wMeth, oBool1, lk_ex, oOwnA, w_excess]
  exact h
theorem forD_cnt {N : Nat} {all : List D} {step : D → DEnv → MS → (DEnv → MS → Prop) → Prop} {fin : DEnv → MS → Prop} (I : Nat → DEnv → MS → Prop) (hs : ∀ i d ρ S nx, i < N → d ∈ all → I i ρ S → (∀ ρ' S', I (i + 1) ρ' S' → nx ρ' S') → step d ρ S nx) (hf : ∀ ρ S, I N ρ S → fin ρ S) :
    ∀ (ds : List D) (i : Nat) (ρ : DEnv) (S : MS), (∀ d ∈ ds, d ∈ all) → i + ds.length = N → I i ρ S → forD ds step fin ρ S
  | [], i, ρ, S, _, hn, h => hf ρ S (by simp at hn; subst hn; exact h)
  | d :: ds, i, ρ, S, ha, hn, h => hs i d ρ S _ (by simp at hn; omega) (ha d List.mem_cons_self) h fun ρ' S' h' => forD_cnt I hs hf ds (i + 1) ρ' S' (fun e he => ha e (List.mem_cons_of_mem _ he)) (by simp at hn; omega) h'
theorem npow {t : Int} {m : Nat} (h : t.natAbs < 2 ^ m) : ∀ i : Nat, (t ^ i).natAbs < 2 ^ (i * m + 1)
  | 0 => by simp
  | i + 1 => by
    have ih := npow h i
    have hm : t.natAbs ≤ 2 ^ m := Nat.le_of_lt h
    rw [Int.pow_succ, Int.natAbs_mul, show (i + 1) * m + 1 = (i * m + 1) + m by rw [Nat.add_mul]; omega, Nat.pow_add]
    exact Nat.lt_of_le_of_lt (Nat.mul_le_mul_left _ hm) (Nat.mul_lt_mul_of_pos_right ih (Nat.pow_pos (by decide)))
theorem range_mem {n : Nat} {d : D} (h : d ∈ rangeD 0 n) : ∃ i : Int, d = .int i ∧ 0 ≤ i ∧ i < n := by
  unfold rangeD at h
  obtain ⟨i, hi, rfl⟩ := List.mem_map.mp h
  exact ⟨_, rfl, by omega, by have := List.mem_range.mp hi; omega⟩
theorem range_len {n : Nat} : (rangeD 0 n).length = n := by simp [rangeD]

theorem cmL {a b : Int} {m n : Nat} (ha : a.natAbs < 2 ^ m) (hb : b.natAbs < 2 ^ n) (hm : 0 < m) (hn : 0 < n) (h : m + n ≤ 500000) : CMulW a b := wide_mul ha hb (by omega) (by omega) (by omega)
theorem pw_lt {t : Int} {m n e : Nat} (h : t.natAbs < 2 ^ m) (hz : n * m ≤ 8900) (he : e ≤ n) : (t ^ e).natAbs < 2 ^ 8901 := nmono (npow h e) (by have := Nat.mul_le_mul_right m he; omega)
theorem half_nat {n k : Nat} : n / 2 ^ k / 2 = n / 2 ^ (k + 1) := by rw [Nat.div_div_eq_div_mul, Nat.pow_succ]
theorem mod_next {n k : Nat} : n % 2 ^ (k + 1) = n % 2 ^ k + 2 ^ k * (n / 2 ^ k % 2) := by rw [Nat.pow_succ, Nat.mod_mul]
theorem fdiv2 (x : Nat) : (x : Int).fdiv 2 = ((x / 2 : Nat) : Int) := by rw [Int.fdiv_eq_ediv_of_nonneg _ (by decide)]; rfl
theorem fmod2 (x : Nat) : (x : Int).fmod 2 = ((x % 2 : Nat) : Int) := by rw [Int.fmod_eq_emod_of_nonneg _ (by decide)]; rfl

def w_raised : WF := fun ds S Q => match ds with
  | [.int t, .int e] => ∃ m : Nat, 0 ≤ e ∧ e ≤ 64 ∧ t.natAbs < 2 ^ m ∧ e.toNat * m ≤ 8900 ∧ Q (.int (t ^ e.toNat)) S
  | _ => False
theorem sc_raised : FnScope ["number", "exponent", "product", "factor", "left"] ["number", "exponent"] (defScope s_raised) := ⟨rfl, rfl, rfl, by decide +kernel, rfl, by decide +kernel, by decide +kernel⟩
theorem ok_raised (T : Tx K mg) : FnOk P w K mg base CX0 1 T.f_raised T.fd_raised ["number", "exponent"] (spW ⟨K, mg⟩ 2 w_raised) := by
  refine fnD (k := 0) T.F_raised sc_raised (fun cdv A outer s H E hr => ⟨_, (dss_cons (ds_set (i := 2) sc_raised.nd d_int)
  (dss_cons (ds_set (i := 3) sc_raised.nd (dv 0))
  (dss_cons (ds_set (i := 4) sc_raised.nd (dv 1))
  (dss_cons (ds_while PassesOwn.never (dt_cmp op_gt snd_iGt (dv 4) d_int (nomark _)) (dss_cons (ds_if (dt_cmp op_eq snd_iEq (d_op op_modN snd_iMod (dv 4) d_int) d_int (nomark _)) (dss_one (ds_set (i := 2) sc_raised.nd (d_op op_mulW snd_iMul (dv 2) (dv 3)))) dss_nil)
  (dss_cons (ds_set (i := 3) sc_raised.nd (d_op op_mulW snd_iMul (dv 3) (dv 3)))
  (dss_one (ds_set (i := 4) sc_raised.nd (d_op op_fdivWN snd_iFdiv (dv 4) d_int))))))
  (dss_one (ds_ret (dv 2)))))))⟩) (fun ds S Q hl h => ?_)
  match ds, h with
  | [.int t, .int e], ⟨m, e0, e1, ht, hz, h⟩ =>
    obtain ⟨n, rfl⟩ := Int.eq_ofNat_of_zero_le e0
    have hz : n * m ≤ 8900 := by simpa using hz
    simp only [true_and, and_true, oU2, oUn1, oL1, oS1, oR1, oJust, iAdd, iSub, iMul, iFdiv, iMod, iEq, iNe, iLt, iLe, iGt, iGe, iNeg, iAbs, DL.iStr, wFmt, wJs, wJoined, sNext, sSeq, sDrop, sRet, sRetN, sIf, sAsg, sPar, wOp, wVar, wC, wUn, wCons, wNil, wCB, wCall, wMake, wMakeSw, wCallSw, wProp, wFld, oI, oI0, oU, wTest, wAnd, wOr, wNot, wAndV, wOrV, wNotV, wIf, wTup, wLst, wLstM, gwName, gwNil, gwCons, gwTup, gwSub, oIx, oInt1, oAbsI, oLen, oGcd, oDivmod, oMax2, oMin2, oIsi, tyOf, clOf, kt_ii, kt_ib, kt_rr, kt_ir, kt_ri, kt_rb, kt_ni, kt_bi, kt_bb, kt_si, kt_ti, kt_li, kt_di, kt_nr, kt_br, kt_sr, kt_tr, kt_lr, kt_dr, oStrI, if_t1, if_f1, Bool.not_true, Bool.not_false, rt, startD, List.map_cons, List.map_nil, List.length_cons, List.length_nil, List.cons_append, List.nil_append, List.getElem?_cons_zero, List.getElem?_cons_succ, List.set_cons_zero, List.set_cons_succ, List.replicate, Nat.reduceAdd, Nat.reduceSub, Nat.zero_add, Nat.sub_self, Nat.add_sub_cancel, lk_top, lk_bot, w1, w2, numD_int, numD_ins, w_is_int, w_is_number, wi_Ratio, w_as_ratio, w_top, w_bottom, w1r, w2r, w_add, w_neg, w_abs, w_sub, w_mul, w_radd, w_rsub, w_rmul, w_floordiv, w_rfloordiv, w_mod, w_rmod, w_str, w_repr, w_eq, w_quotient, wCutTo, wTruth, oPow, sFor, sForR, at0', at1, at2, forStep, sWhile, w_low, w_whole, w_fraction, wi_Ratio, w_made, wMeth, oBool1, lk_ex, oOwnA, w_excess, w_lt, w_le, w_gt, w_ge, w_ne, w_bool, sWhile]
    refine ⟨fun μ ρ S' => S' = S ∧ ∃ k : Nat, ρ = [some (.int t), some (.int (n : Int)), some (.int (t ^ (n % 2 ^ k))), some (.int (t ^ (2 ^ k))), some (.int ((n / 2 ^ k : Nat) : Int))] ∧ μ = n / 2 ^ k, ⟨n, rfl, 0, by simp [Nat.mod_one, show t ^ 1 = t by rw [Int.pow_succ, Int.pow_zero, Int.one_mul]], by simp⟩, ?_⟩
    rintro μ ρ S' ⟨rfl, k, rfl, rfl⟩
    simp only [true_and, and_true, oU2, oUn1, oL1, oS1, oR1, oJust, iAdd, iSub, iMul, iFdiv, iMod, iEq, iNe, iLt, iLe, iGt, iGe, iNeg, iAbs, DL.iStr, wFmt, wJs, wJoined, sNext, sSeq, sDrop, sRet, sRetN, sIf, sAsg, sPar, wOp, wVar, wC, wUn, wCons, wNil, wCB, wCall, wMake, wMakeSw, wCallSw, wProp, wFld, oI, oI0, oU, wTest, wAnd, wOr, wNot, wAndV, wOrV, wNotV, wIf, wTup, wLst, wLstM, gwName, gwNil, gwCons, gwTup, gwSub, oIx, oInt1, oAbsI, oLen, oGcd, oDivmod, oMax2, oMin2, oIsi, tyOf, clOf, kt_ii, kt_ib, kt_rr, kt_ir, kt_ri, kt_rb, kt_ni, kt_bi, kt_bb, kt_si, kt_ti, kt_li, kt_di, kt_nr, kt_br, kt_sr, kt_tr, kt_lr, kt_dr, oStrI, if_t1, if_f1, Bool.not_true, Bool.not_false, rt, startD, List.map_cons, List.map_nil, List.length_cons, List.length_nil, List.cons_append, List.nil_append, List.getElem?_cons_zero, List.getElem?_cons_succ, List.set_cons_zero, List.set_cons_succ, List.replicate, Nat.reduceAdd, Nat.reduceSub, Nat.zero_add, Nat.sub_self, Nat.add_sub_cancel, lk_top, lk_bot, w1, w2, numD_int, numD_ins, w_is_int, w_is_number, wi_Ratio, w_as_ratio, w_top, w_bottom, w1r, w2r, w_add, w_neg, w_abs, w_sub, w_mul, w_radd, w_rsub, w_rmul, w_floordiv, w_rfloordiv, w_mod, w_rmod, w_str, w_repr, w_eq, w_quotient, wCutTo, wTruth, oPow, sFor, sForR, at0', at1, at2, forStep, sWhile, w_low, w_whole, w_fraction, wi_Ratio, w_made, wMeth, oBool1, lk_ex, oOwnA, w_excess, w_lt, w_le, w_gt, w_ge, w_ne, w_bool, sWhile]
    by_cases c : 0 < n / 2 ^ k
    · rw [decide_eq_true (show (0 : Int) < ((n / 2 ^ k : Nat) : Int) by omega)]
      simp only [true_and, and_true, oU2, oUn1, oL1, oS1, oR1, oJust, iAdd, iSub, iMul, iFdiv, iMod, iEq, iNe, iLt, iLe, iGt, iGe, iNeg, iAbs, DL.iStr, wFmt, wJs, wJoined, sNext, sSeq, sDrop, sRet, sRetN, sIf, sAsg, sPar, wOp, wVar, wC, wUn, wCons, wNil, wCB, wCall, wMake, wMakeSw, wCallSw, wProp, wFld, oI, oI0, oU, wTest, wAnd, wOr, wNot, wAndV, wOrV, wNotV, wIf, wTup, wLst, wLstM, gwName, gwNil, gwCons, gwTup, gwSub, oIx, oInt1, oAbsI, oLen, oGcd, oDivmod, oMax2, oMin2, oIsi, tyOf, clOf, kt_ii, kt_ib, kt_rr, kt_ir, kt_ri, kt_rb, kt_ni, kt_bi, kt_bb, kt_si, kt_ti, kt_li, kt_di, kt_nr, kt_br, kt_sr, kt_tr, kt_lr, kt_dr, oStrI, if_t1, if_f1, Bool.not_true, Bool.not_false, rt, startD, List.map_cons, List.map_nil, List.length_cons, List.length_nil, List.cons_append, List.nil_append, List.getElem?_cons_zero, List.getElem?_cons_succ, List.set_cons_zero, List.set_cons_succ, List.replicate, Nat.reduceAdd, Nat.reduceSub, Nat.zero_add, Nat.sub_self, Nat.add_sub_cancel, lk_top, lk_bot, w1, w2, numD_int, numD_ins, w_is_int, w_is_number, wi_Ratio, w_as_ratio, w_top, w_bottom, w1r, w2r, w_add, w_neg, w_abs, w_sub, w_mul, w_radd, w_rsub, w_rmul, w_floordiv, w_rfloordiv, w_mod, w_rmod, w_str, w_repr, w_eq, w_quotient, wCutTo, wTruth, oPow, sFor, sForR, at0', at1, at2, forStep, sWhile, w_low, w_whole, w_fraction, wi_Ratio, w_made, wMeth, oBool1, lk_ex, oOwnA, w_excess, w_lt, w_le, w_gt, w_ge, w_ne, w_bool, sWhile]
      have kn : 2 ^ k ≤ n := by
        rcases Nat.lt_or_ge n (2 ^ k) with l | l
        · rw [Nat.div_eq_of_lt l] at c; omega
        · exact l
      have f1 := pw_lt (e := 2 ^ k) ht hz kn
      have f2 := pw_lt (e := n % 2 ^ k) ht hz (Nat.mod_le _ _)
      have sq : t ^ (2 ^ k) * t ^ (2 ^ k) = t ^ (2 ^ (k + 1)) := by rw [← Int.pow_add, Nat.pow_succ, Nat.mul_two]
      have lt2 : n / 2 ^ (k + 1) < n / 2 ^ k := by rw [← half_nat]; omega
      refine ⟨by decide, ?_⟩
      rw [fmod2]
      by_cases c2 : n / 2 ^ k % 2 = 1
      · rw [decide_eq_true (show ((n / 2 ^ k % 2 : Nat) : Int) = 1 by omega)]
        simp only [true_and, and_true, oU2, oUn1, oL1, oS1, oR1, oJust, iAdd, iSub, iMul, iFdiv, iMod, iEq, iNe, iLt, iLe, iGt, iGe, iNeg, iAbs, DL.iStr, wFmt, wJs, wJoined, sNext, sSeq, sDrop, sRet, sRetN, sIf, sAsg, sPar, wOp, wVar, wC, wUn, wCons, wNil, wCB, wCall, wMake, wMakeSw, wCallSw, wProp, wFld, oI, oI0, oU, wTest, wAnd, wOr, wNot, wAndV, wOrV, wNotV, wIf, wTup, wLst, wLstM, gwName, gwNil, gwCons, gwTup, gwSub, oIx, oInt1, oAbsI, oLen, oGcd, oDivmod, oMax2, oMin2, oIsi, tyOf, clOf, kt_ii, kt_ib, kt_rr, kt_ir, kt_ri, kt_rb, kt_ni, kt_bi, kt_bb, kt_si, kt_ti, kt_li, kt_di, kt_nr, kt_br, kt_sr, kt_tr, kt_lr, kt_dr, oStrI, if_t1, if_f1, Bool.not_true, Bool.not_false, rt, startD, List.map_cons, List.map_nil, List.length_cons, List.length_nil, List.cons_append, List.nil_append, List.getElem?_cons_zero, List.getElem?_cons_succ, List.set_cons_zero, List.set_cons_succ, List.replicate, Nat.reduceAdd, Nat.reduceSub, Nat.zero_add, Nat.sub_self, Nat.add_sub_cancel, lk_top, lk_bot, w1, w2, numD_int, numD_ins, w_is_int, w_is_number, wi_Ratio, w_as_ratio, w_top, w_bottom, w1r, w2r, w_add, w_neg, w_abs, w_sub, w_mul, w_radd, w_rsub, w_rmul, w_floordiv, w_rfloordiv, w_mod, w_rmod, w_str, w_repr, w_eq, w_quotient, wCutTo, wTruth, oPow, sFor, sForR, at0', at1, at2, forStep, sWhile, w_low, w_whole, w_fraction, wi_Ratio, w_made, wMeth, oBool1, lk_ex, oOwnA, w_excess, w_lt, w_le, w_gt, w_ge, w_ne, w_bool, sWhile]
        refine ⟨cmL f2 f1 (by decide) (by decide) (by decide), cmL f1 f1 (by decide) (by decide) (by decide), ⟨by decide, by decide⟩, n / 2 ^ (k + 1), lt2, k + 1, ?_, rfl⟩
        rw [fdiv2, half_nat, sq, mod_next, c2, Nat.mul_one, Int.pow_add]
      · rw [decide_eq_false (show ¬ ((n / 2 ^ k % 2 : Nat) : Int) = 1 by omega)]
        simp only [true_and, and_true, oU2, oUn1, oL1, oS1, oR1, oJust, iAdd, iSub, iMul, iFdiv, iMod, iEq, iNe, iLt, iLe, iGt, iGe, iNeg, iAbs, DL.iStr, wFmt, wJs, wJoined, sNext, sSeq, sDrop, sRet, sRetN, sIf, sAsg, sPar, wOp, wVar, wC, wUn, wCons, wNil, wCB, wCall, wMake, wMakeSw, wCallSw, wProp, wFld, oI, oI0, oU, wTest, wAnd, wOr, wNot, wAndV, wOrV, wNotV, wIf, wTup, wLst, wLstM, gwName, gwNil, gwCons, gwTup, gwSub, oIx, oInt1, oAbsI, oLen, oGcd, oDivmod, oMax2, oMin2, oIsi, tyOf, clOf, kt_ii, kt_ib, kt_rr, kt_ir, kt_ri, kt_rb, kt_ni, kt_bi, kt_bb, kt_si, kt_ti, kt_li, kt_di, kt_nr, kt_br, kt_sr, kt_tr, kt_lr, kt_dr, oStrI, if_t1, if_f1, Bool.not_true, Bool.not_false, rt, startD, List.map_cons, List.map_nil, List.length_cons, List.length_nil, List.cons_append, List.nil_append, List.getElem?_cons_zero, List.getElem?_cons_succ, List.set_cons_zero, List.set_cons_succ, List.replicate, Nat.reduceAdd, Nat.reduceSub, Nat.zero_add, Nat.sub_self, Nat.add_sub_cancel, lk_top, lk_bot, w1, w2, numD_int, numD_ins, w_is_int, w_is_number, wi_Ratio, w_as_ratio, w_top, w_bottom, w1r, w2r, w_add, w_neg, w_abs, w_sub, w_mul, w_radd, w_rsub, w_rmul, w_floordiv, w_rfloordiv, w_mod, w_rmod, w_str, w_repr, w_eq, w_quotient, wCutTo, wTruth, oPow, sFor, sForR, at0', at1, at2, forStep, sWhile, w_low, w_whole, w_fraction, wi_Ratio, w_made, wMeth, oBool1, lk_ex, oOwnA, w_excess, w_lt, w_le, w_gt, w_ge, w_ne, w_bool, sWhile]
        refine ⟨cmL f1 f1 (by decide) (by decide) (by decide), ⟨by decide, by decide⟩, n / 2 ^ (k + 1), lt2, k + 1, ?_, rfl⟩
        rw [fdiv2, half_nat, sq, mod_next, show n / 2 ^ k % 2 = 0 by omega]
        simp only [Nat.mul_zero, Nat.add_zero]
    · rw [decide_eq_false (show ¬ (0 : Int) < ((n / 2 ^ k : Nat) : Int) by omega)]
      simp only [true_and, and_true, oU2, oUn1, oL1, oS1, oR1, oJust, iAdd, iSub, iMul, iFdiv, iMod, iEq, iNe, iLt, iLe, iGt, iGe, iNeg, iAbs, DL.iStr, wFmt, wJs, wJoined, sNext, sSeq, sDrop, sRet, sRetN, sIf, sAsg, sPar, wOp, wVar, wC, wUn, wCons, wNil, wCB, wCall, wMake, wMakeSw, wCallSw, wProp, wFld, oI, oI0, oU, wTest, wAnd, wOr, wNot, wAndV, wOrV, wNotV, wIf, wTup, wLst, wLstM, gwName, gwNil, gwCons, gwTup, gwSub, oIx, oInt1, oAbsI, oLen, oGcd, oDivmod, oMax2, oMin2, oIsi, tyOf, clOf, kt_ii, kt_ib, kt_rr, kt_ir, kt_ri, kt_rb, kt_ni, kt_bi, kt_bb, kt_si, kt_ti, kt_li, kt_di, kt_nr, kt_br, kt_sr, kt_tr, kt_lr, kt_dr, oStrI, if_t1, if_f1, Bool.not_true, Bool.not_false, rt, startD, List.map_cons, List.map_nil, List.length_cons, List.length_nil, List.cons_append, List.nil_append, List.getElem?_cons_zero, List.getElem?_cons_succ, List.set_cons_zero, List.set_cons_succ, List.replicate, Nat.reduceAdd, Nat.reduceSub, Nat.zero_add, Nat.sub_self, Nat.add_sub_cancel, lk_top, lk_bot, w1, w2, numD_int, numD_ins, w_is_int, w_is_number, wi_Ratio, w_as_ratio, w_top, w_bottom, w1r, w2r, w_add, w_neg, w_abs, w_sub, w_mul, w_radd, w_rsub, w_rmul, w_floordiv, w_rfloordiv, w_mod, w_rmod, w_str, w_repr, w_eq, w_quotient, wCutTo, wTruth, oPow, sFor, sForR, at0', at1, at2, forStep, sWhile, w_low, w_whole, w_fraction, wi_Ratio, w_made, wMeth, oBool1, lk_ex, oOwnA, w_excess, w_lt, w_le, w_gt, w_ge, w_ne, w_bool, sWhile]
      have e : n % 2 ^ k = n := Nat.mod_eq_of_lt (Nat.lt_of_not_le fun l => c (Nat.div_pos l (Nat.pow_pos (by decide))))
      rw [e]
      have h : Q (.int (t ^ n)) S' := by simpa using h
      exact h
def w_pow : WF := fun ds S Q => match ds with
  | [.ins c fs, .int n] => ∃ p m, 0 < m ∧ numD (.ins c fs) = some p ∧ 0 ≤ n ∧ n ≤ 64 ∧ 0 < p.2 ∧ p.1.natAbs < 2 ^ m ∧ p.2.natAbs < 2 ^ m ∧ n.toNat * m ≤ 8900 ∧ Q (rt (mkR (p.1 ^ n.toNat) (p.2 ^ n.toNat))) S
  | _ => False
theorem sc_R_pow : FnScope ["self", "other"] ["self", "other"] (defScope s_R_pow) := ⟨rfl, rfl, rfl, by decide +kernel, rfl, by decide +kernel, by decide +kernel⟩
theorem ok_R_pow (T : Tx K mg) : FnOk P w K mg base CX0 5 T.f_R_pow T.fd_R_pow ["self", "other"] (spW ⟨K, mg⟩ 2 w_pow) := by
  refine fnD (k := 4) T.F_R_pow sc_R_pow (fun cdv A outer s H E hr => ⟨_, (dss_cons (ds_if (dt_not (dt_val (d_call (ok_is_int T) (hr.mono (by decide)) T.m_is_int T.F_is_int.kp T.b_is_int (da_cons (dv 1) da_nil)))) (dss_one ds_never) dss_nil)
  (dss_cons (ds_if (PDW.pt (dw_or (dt_cmp op_lt snd_iLt (dv 1) d_int (nomark _)) (dw_or1 (dt_cmp op_gt snd_iGt (dv 1) (d_globI T.g_MOST_FACTORS) (nomark _))))) (dss_one ds_never) dss_nil)
  (dss_one (ds_ret (d_make T.mkk (ok_R_init T) (hr.mono (by decide)) T.g_Ratio T.b_R_init2 T.v_R_init2 (fun _ _ => .nil) (da_cons (d_call (ok_raised T) (hr.mono (by decide)) T.m_raised T.F_raised.kp T.b_raised (da_cons (d_fld (dv 0) T.g_Ratio T.cl T.na_top) (da_cons (dv 1) da_nil))) (da_cons (d_call (ok_raised T) (hr.mono (by decide)) T.m_raised T.F_raised.kp T.b_raised (da_cons (d_fld (dv 0) T.g_Ratio T.cl T.na_bottom) (da_cons (dv 1) da_nil))) da_nil)))))))⟩) (fun ds S Q hl h => ?_)
  match ds, h with
  | [.ins c fs, .int n], ⟨p, m, m0, hp, n0, n1, b0, ht, hb, hm, h⟩ =>
    rcases num_in hp with ⟨i, e, _⟩ | ⟨t, b, e, rfl⟩
    · cases e
    cases e
    have b0 : 0 < b := b0
    have ht : t.natAbs < 2 ^ m := ht
    have hb : b.natAbs < 2 ^ m := hb
    simp only [true_and, and_true, oU2, oUn1, oL1, oS1, oR1, oJust, iAdd, iSub, iMul, iFdiv, iMod, iEq, iNe, iLt, iLe, iGt, iGe, iNeg, iAbs, DL.iStr, wFmt, wJs, wJoined, sNext, sSeq, sDrop, sRet, sRetN, sIf, sAsg, sPar, wOp, wVar, wC, wUn, wCons, wNil, wCB, wCall, wMake, wMakeSw, wCallSw, wProp, wFld, oI, oI0, oU, wTest, wAnd, wOr, wNot, wAndV, wOrV, wNotV, wIf, wTup, wLst, wLstM, gwName, gwNil, gwCons, gwTup, gwSub, oIx, oInt1, oAbsI, oLen, oGcd, oDivmod, oMax2, oMin2, oIsi, tyOf, clOf, kt_ii, kt_ib, kt_rr, kt_ir, kt_ri, kt_rb, kt_ni, kt_bi, kt_bb, kt_si, kt_ti, kt_li, kt_di, kt_nr, kt_br, kt_sr, kt_tr, kt_lr, kt_dr, oStrI, if_t1, if_f1, Bool.not_true, Bool.not_false, rt, startD, List.map_cons, List.map_nil, List.length_cons, List.length_nil, List.cons_append, List.nil_append, List.getElem?_cons_zero, List.getElem?_cons_succ, List.set_cons_zero, List.set_cons_succ, List.replicate, Nat.reduceAdd, Nat.reduceSub, Nat.zero_add, Nat.sub_self, Nat.add_sub_cancel, lk_top, lk_bot, w1, w2, numD_int, numD_ins, w_is_int, w_is_number, wi_Ratio, w_as_ratio, w_top, w_bottom, w1r, w2r, w_add, w_neg, w_abs, w_sub, w_mul, w_radd, w_rsub, w_rmul, w_floordiv, w_rfloordiv, w_mod, w_rmod, w_str, w_repr, w_eq, w_quotient, wCutTo, wTruth, oPow, sFor, sForR, at0', at1, at2, forStep, w_low, w_whole, w_fraction, wi_Ratio, w_made, wMeth, oBool1, lk_ex, oOwnA, w_excess, w_lt, w_le, w_gt, w_ge, w_ne, w_bool, w_raised]
    rw [decide_eq_false (by omega : ¬ n < 0), decide_eq_false (by omega : ¬ 64 < n)]
    simp only [true_and, and_true, oU2, oUn1, oL1, oS1, oR1, oJust, iAdd, iSub, iMul, iFdiv, iMod, iEq, iNe, iLt, iLe, iGt, iGe, iNeg, iAbs, DL.iStr, wFmt, wJs, wJoined, sNext, sSeq, sDrop, sRet, sRetN, sIf, sAsg, sPar, wOp, wVar, wC, wUn, wCons, wNil, wCB, wCall, wMake, wMakeSw, wCallSw, wProp, wFld, oI, oI0, oU, wTest, wAnd, wOr, wNot, wAndV, wOrV, wNotV, wIf, wTup, wLst, wLstM, gwName, gwNil, gwCons, gwTup, gwSub, oIx, oInt1, oAbsI, oLen, oGcd, oDivmod, oMax2, oMin2, oIsi, tyOf, clOf, kt_ii, kt_ib, kt_rr, kt_ir, kt_ri, kt_rb, kt_ni, kt_bi, kt_bb, kt_si, kt_ti, kt_li, kt_di, kt_nr, kt_br, kt_sr, kt_tr, kt_lr, kt_dr, oStrI, if_t1, if_f1, Bool.not_true, Bool.not_false, rt, startD, List.map_cons, List.map_nil, List.length_cons, List.length_nil, List.cons_append, List.nil_append, List.getElem?_cons_zero, List.getElem?_cons_succ, List.set_cons_zero, List.set_cons_succ, List.replicate, Nat.reduceAdd, Nat.reduceSub, Nat.zero_add, Nat.sub_self, Nat.add_sub_cancel, lk_top, lk_bot, w1, w2, numD_int, numD_ins, w_is_int, w_is_number, wi_Ratio, w_as_ratio, w_top, w_bottom, w1r, w2r, w_add, w_neg, w_abs, w_sub, w_mul, w_radd, w_rsub, w_rmul, w_floordiv, w_rfloordiv, w_mod, w_rmod, w_str, w_repr, w_eq, w_quotient, wCutTo, wTruth, oPow, sFor, sForR, at0', at1, at2, forStep, w_low, w_whole, w_fraction, wi_Ratio, w_made, wMeth, oBool1, lk_ex, oOwnA, w_excess, w_lt, w_le, w_gt, w_ge, w_ne, w_bool, w_raised]
    exact ⟨m, n0, n1, ht, hm, m, n0, n1, hb, hm, ⟨Int.pow_pos b0, nmono (npow hb _) (by omega)⟩, h⟩
end
end K1
set_option Elab.async false
set_option linter.all false
set_option maxRecDepth 100000
namespace K1
open PySem PySem.Spec PyProof.Rows L2 DL
/-! ### values -/
def val (p : Int × Int) : Rat := (p.1 : Rat) / (p.2 : Rat)
structure Nrm (p : Int × Int) : Prop where
  pos : 0 < p.2
  one : gc p.1 p.2 = 1
theorem cast_pos {b : Int} (h : 0 < b) : (0 : Rat) < (b : Rat) := by exact_mod_cast h
theorem cast_ne {b : Int} (h : b ≠ 0) : (b : Rat) ≠ 0 := by exact_mod_cast h
theorem val_int (i : Int) : val (i, 1) = (i : Rat) := by
  show (i : Rat) / ((1 : Int) : Rat) = i
  have : ((1 : Int) : Rat) = 1 := rfl
  rw [this]
  grind
theorem val_mkR {t b : Int} (hb : b ≠ 0) (h : 0 < gc t b) : (((t / gc t b : Int)) : Rat) / ((b / gc t b : Int) : Rat) = (t : Rat) / (b : Rat) := by
  obtain ⟨u, hu⟩ := gc_dvd_l t b
  obtain ⟨v, hv⟩ := gc_dvd_r t b
  generalize hg : gc t b = g at *
  have g0 : g ≠ 0 := by omega
  have v0 : v ≠ 0 := fun z => hb (by rw [hv, z, Int.mul_zero])
  have e1 : t / g = u := by rw [hu]; exact Int.mul_ediv_cancel_left _ g0
  have e2 : b / g = v := by rw [hv]; exact Int.mul_ediv_cancel_left _ g0
  rw [e1, e2, hu, hv, Rat.intCast_mul, Rat.intCast_mul]
  have h1 := cast_ne g0
  have h2 := cast_ne v0
  grind
theorem val_mk {t b : Int} (hb : 0 < b) : val (mkR t b) = (t : Rat) / (b : Rat) := by
  have g0 := gc_pos (t := t) hb
  show ((t.fdiv (gc t b) : Int) : Rat) / ((b.fdiv (gc t b) : Int) : Rat) = _
  rw [fdiv_gc hb, fdiv_gc2 hb]
  exact val_mkR (by omega) g0
theorem mkR_pos {t b : Int} (hb : 0 < b) : 0 < (mkR t b).2 := by
  show 0 < b.fdiv (gc t b)
  have g0 := gc_pos (t := t) hb
  rw [fdiv_gc2 hb]
  exact Int.ediv_pos_of_pos_of_dvd hb (by omega) (gc_dvd_r t b)
theorem nrm_mk {t b : Int} (hb : 0 < b) : Nrm (mkR t b) := ⟨mkR_pos hb, gc_mkR hb⟩
theorem nrm_int (i : Int) : Nrm (i, 1) := ⟨by show (0 : Int) < 1; decide, by show gc i 1 = 1; unfold gc; simp⟩
theorem Nrm.mk' {p : Int × Int} (h : Nrm p) : mkR p.1 p.2 = p := by
  show (p.1.fdiv (gc p.1 p.2), p.2.fdiv (gc p.1 p.2)) = p
  rw [h.one]
  simp
theorem cop_dvd {a b c : Int} (h : a ∣ b * c) (g : Int.gcd a b = 1) : a ∣ c := by
  have h1 : a.natAbs ∣ b.natAbs * c.natAbs := by
    rw [← Int.natAbs_mul]
    exact Int.natAbs_dvd_natAbs.mpr h
  exact Int.natAbs_dvd_natAbs.mp (Nat.Coprime.dvd_of_dvd_mul_left (show Nat.Coprime a.natAbs b.natAbs from g) h1)
theorem canon {p q : Int × Int} (hp : Nrm p) (hq : Nrm q) (e : val p = val q) : p = q := by
  have b0 := cast_pos hp.pos
  have d0 := cast_pos hq.pos
  have x : p.1 * q.2 = q.1 * p.2 := by
    have : (p.1 : Rat) * q.2 = q.1 * p.2 := by
      have e : (p.1 : Rat) / p.2 = (q.1 : Rat) / q.2 := e
      have h1 : (p.2 : Rat) ≠ 0 := by grind
      have h2 : (q.2 : Rat) ≠ 0 := by grind
      have h3 : (p.1 : Rat) = ((p.1 : Rat) / p.2) * p.2 := by grind
      rw [h3, e]
      grind
    exact_mod_cast this
  have c1 : Int.gcd p.1 p.2 = 1 := by
    have := hp.one
    unfold gc at this
    exact_mod_cast this
  have c2 : Int.gcd q.1 q.2 = 1 := by
    have := hq.one
    unfold gc at this
    exact_mod_cast this
  have e2 : p.2 = q.2 := by
    have d1 : p.2 ∣ q.2 := by
      have : p.2 ∣ p.1 * q.2 := ⟨q.1, by rw [x, Int.mul_comm]⟩
      exact cop_dvd this (by rw [Int.gcd_comm]; exact c1)
    have d2 : q.2 ∣ p.2 := by
      have : q.2 ∣ q.1 * p.2 := ⟨p.1, by rw [← x, Int.mul_comm]⟩
      exact cop_dvd this (by rw [Int.gcd_comm]; exact c2)
    exact Int.dvd_antisymm (Int.le_of_lt hp.pos) (Int.le_of_lt hq.pos) d1 d2
  have e1 : p.1 = q.1 := by
    rw [e2] at x
    exact Int.eq_of_mul_eq_mul_right (by have := hq.pos; omega) x
  exact Prod.ext e1 e2
theorem lt_val {p q : Int × Int} (hp : Nrm p) (hq : Nrm q) : val p < val q ↔ p.1 * q.2 < q.1 * p.2 := by
  have b0 := cast_pos hp.pos
  have d0 := cast_pos hq.pos
  show (p.1 : Rat) / p.2 < (q.1 : Rat) / q.2 ↔ _
  rw [Rat.div_lt_iff b0]
  have e : (q.1 : Rat) / q.2 * p.2 = (q.1 : Rat) * p.2 / q.2 := by grind
  rw [e, Rat.lt_div_iff d0]
  have e2 : ((p.1 * q.2 : Int) : Rat) = (p.1 : Rat) * q.2 := Rat.intCast_mul ..
  have e3 : ((q.1 * p.2 : Int) : Rat) = (q.1 : Rat) * p.2 := Rat.intCast_mul ..
  rw [← e2, ← e3, Rat.intCast_lt_intCast]
theorem le_val {p q : Int × Int} (hp : Nrm p) (hq : Nrm q) : val p ≤ val q ↔ p.1 * q.2 ≤ q.1 * p.2 := by
  rw [← Rat.not_lt, lt_val hq hp]
  omega
theorem val_add {p q : Int × Int} (hp : Nrm p) (hq : Nrm q) : val (addR p q) = val p + val q := by
  have b0 : (p.2 : Rat) ≠ 0 := cast_ne (by have := hp.pos; omega)
  have d0 : (q.2 : Rat) ≠ 0 := cast_ne (by have := hq.pos; omega)
  show val (mkR _ _) = (p.1 : Rat) / p.2 + (q.1 : Rat) / q.2
  rw [val_mk (Int.mul_pos hp.pos hq.pos), Rat.intCast_add, Rat.intCast_mul, Rat.intCast_mul, Rat.intCast_mul]
  grind
theorem val_mul {p q : Int × Int} (hp : Nrm p) (hq : Nrm q) : val (mulR p q) = val p * val q := by
  have b0 : (p.2 : Rat) ≠ 0 := cast_ne (by have := hp.pos; omega)
  have d0 : (q.2 : Rat) ≠ 0 := cast_ne (by have := hq.pos; omega)
  show val (mkR _ _) = (p.1 : Rat) / p.2 * ((q.1 : Rat) / q.2)
  rw [val_mk (Int.mul_pos hp.pos hq.pos), Rat.intCast_mul, Rat.intCast_mul]
  grind
theorem val_neg {p : Int × Int} (hp : Nrm p) : val (negR p) = -val p := by
  show val (mkR _ _) = -((p.1 : Rat) / p.2)
  rw [val_mk hp.pos, Rat.intCast_neg]
  grind
theorem nrm_add {p q : Int × Int} (hp : Nrm p) (hq : Nrm q) : Nrm (addR p q) := nrm_mk (Int.mul_pos hp.pos hq.pos)
theorem nrm_mul {p q : Int × Int} (hp : Nrm p) (hq : Nrm q) : Nrm (mulR p q) := nrm_mk (Int.mul_pos hp.pos hq.pos)
theorem nrm_neg {p : Int × Int} (hp : Nrm p) : Nrm (negR p) := nrm_mk hp.pos
/-- x a number with this value, told by numbers of at most n bits; k: a ratio -/
structure Nb (k : Bool) (x : D) (r : Rat) (n : Nat) : Prop where
  ex : ∃ p, numD x = some p ∧ (k = true → x = rt p) ∧ Nrm p ∧ Sz n p ∧ val p = r
theorem Nb.rt {p : Int × Int} {n : Nat} (hp : Nrm p) (hs : Sz n p) : Nb true (K1.rt p) (val p) n := ⟨p, numD_ins _ _, fun _ => rfl, hp, hs, rfl⟩
theorem Nb.int {i : Int} {n : Nat} (h : 0 < n) (hi : i.natAbs < 2 ^ n) : Nb false (.int i) (i : Rat) n := ⟨(i, 1), rfl, fun z => (Bool.false_ne_true z).elim, nrm_int i, Sz.one h hi, val_int i⟩
theorem Nb.mono {k : Bool} {x : D} {r : Rat} {n m : Nat} (h : Nb k x r n) (l : n ≤ m) : Nb k x r m := by
  obtain ⟨p, h1, h2, h3, h4, h5⟩ := h.ex
  exact ⟨p, h1, h2, h3, h4.mono l, h5⟩
theorem Nb.weak {k : Bool} {x : D} {r : Rat} {n : Nat} (h : Nb k x r n) : Nb false x r n := by
  obtain ⟨p, h1, h2, h3, h4, h5⟩ := h.ex
  exact ⟨p, h1, fun z => (Bool.false_ne_true z).elim, h3, h4, h5⟩
/-- an int, or a ratio -/
theorem Nb.cases {k : Bool} {x : D} {r : Rat} {n : Nat} (h : Nb k x r n) : (k = false ∧ ∃ i : Int, x = .int i ∧ i.natAbs < 2 ^ n ∧ r = (i : Rat)) ∨ ∃ p : Int × Int, x = K1.rt p ∧ Nrm p ∧ Sz n p ∧ val p = r := by
  obtain ⟨p, h1, h2, h3, h4, h5⟩ := h.ex
  rcases numD_cases h1 with ⟨i, rfl, rfl⟩ | rfl
  · cases k with
    | true => exact absurd (h2 rfl) (by intro z; cases z)
    | false => exact .inl ⟨rfl, i, rfl, h4.2.1, by rw [← h5, val_int]⟩
  · exact .inr ⟨p, rfl, h3, h4, h5⟩
theorem Nb.rat {x : D} {r : Rat} {n : Nat} (h : Nb true x r n) : ∃ p : Int × Int, x = K1.rt p ∧ Nrm p ∧ Sz n p ∧ val p = r := by
  rcases h.cases with ⟨z, _⟩ | h
  · cases z
  · exact h

end K1
set_option Elab.async false
set_option linter.all false
set_option maxRecDepth 100000
namespace K1
open PySem PySem.Spec PyProof.Rows L2 DL
theorem Nb.any {k : Bool} {x : D} {r : Rat} {n : Nat} (h : Nb true x r n) : Nb k x r n := by
  obtain ⟨p, h1, h2, h3, h4, h5⟩ := h.ex
  exact ⟨p, h1, fun _ => h2 rfl, h3, h4, h5⟩
theorem Nb.two {k : Bool} {x : D} {r : Rat} {n : Nat} (h : Nb k x r n) : (k = false ∧ ∃ i : Int, x = .int i ∧ Sz n (i, 1) ∧ r = val (i, 1)) ∨ ∃ p : Int × Int, x = K1.rt p ∧ Nrm p ∧ Sz n p ∧ r = val p := by
  obtain ⟨p, h1, h2, h3, h4, h5⟩ := h.ex
  rcases numD_cases h1 with ⟨i, rfl, rfl⟩ | rfl
  · cases k with
    | true => exact absurd (h2 rfl) (by intro z; cases z)
    | false => exact .inl ⟨rfl, i, rfl, h4, h5.symm⟩
  · exact .inr ⟨p, rfl, h3, h4, h5.symm⟩
theorem Nb.of {P : Int × Int} {r : Rat} {n : Nat} (hp : Nrm P) (hs : Sz n P) (e : val P = r) : Nb true (K1.rt P) r n := ⟨P, numD_ins _ _, fun _ => rfl, hp, hs, e⟩
theorem Nb.ofI {i : Int} {r : Rat} {n : Nat} (hs : Sz n (i, 1)) (e : val (i, 1) = r) : Nb false (.int i) r n := ⟨(i, 1), rfl, fun z => (Bool.false_ne_true z).elim, nrm_int i, hs, e⟩
section
variable {f : Int × Int → Int × Int → MS → (D → MS → Prop) → Prop} {f1 : Int × Int → MS → (D → MS → Prop) → Prop} {p q : Int × Int} {i j : Int} {S : MS} {Q : D → MS → Prop} {oi : OInt} {wl wr : WF}
theorem w2r_rr (h : f p q S Q) : w2r f [rt p, rt q] S Q := by simp only [w2r, rt, numD_ins]; exact h
theorem w2r_ri (h : f p (i, 1) S Q) : w2r f [rt p, .int i] S Q := by simp only [w2r, rt, numD_ins, numD_int]; exact h
theorem w1r_r (h : f1 p S Q) : w1r f1 [rt p] S Q := by simp only [w1r, rt, numD_ins]; exact h
theorem w2_rr (h : f p q S Q) : w2 f [rt p, rt q] S Q := by simp only [w2, rt, numD_ins]; exact h
theorem w2_ri (h : f p (i, 1) S Q) : w2 f [rt p, .int i] S Q := by simp only [w2, rt, numD_ins, numD_int]; exact h
theorem w2_ir (h : f (i, 1) q S Q) : w2 f [.int i, rt q] S Q := by simp only [w2, rt, numD_ins, numD_int]; exact h
theorem w2_ii (h : f (i, 1) (j, 1) S Q) : w2 f [.int i, .int j] S Q := by simp only [w2, numD_int]; exact h
theorem o_rr (h : wl [rt p, rt q] S Q) : oU2 oi "Ratio" wl wr (rt p) (rt q) S Q := ⟨rfl, rfl, h⟩
theorem o_ri (h : wl [rt p, .int i] S Q) : oU2 oi "Ratio" wl wr (rt p) (.int i) S Q := ⟨rfl, h⟩
theorem o_ir (h : wr [rt q, .int i] S Q) : oU2 oi "Ratio" wl wr (.int i) (rt q) S Q := ⟨rfl, h⟩
theorem o_ii (h : oi i j S Q) : oU2 oi "Ratio" wl wr (.int i) (.int j) S Q := h
end
theorem sz_add2 {p q : Int × Int} {n m : Nat} (hp : Sz n p) (hq : Sz m q) : Sz (n + m + 1) (addR p q) :=
  mkR_sz (Int.mul_pos hp.1 hq.1) (nadd (nmul hp.2.1 hq.2.2) (by rw [Nat.add_comm]; exact nmul hq.2.1 hp.2.2)) (nmono (nmul hp.2.2 hq.2.2) (by omega))
theorem sz_mul2 {p q : Int × Int} {n m : Nat} (hp : Sz n p) (hq : Sz m q) : Sz (n + m) (mulR p q) := mkR_sz (Int.mul_pos hp.1 hq.1) (nmul hp.2.1 hq.2.1) (nmul hp.2.2 hq.2.2)
theorem add_int (i j : Int) : addR (i, 1) (j, 1) = (i + j, 1) := by
  show mkR (i * 1 + j * 1) (1 * 1) = _
  rw [Int.mul_one, Int.mul_one]
  exact mkR_one _
section
variable {k l : Bool} {x y : D} {r s : Rat} {n m : Nat} {S : MS} {Q : D → MS → Prop}
theorem g_add (hx : Nb k x r n) (hy : Nb l y s m) (hn : n ≤ 2000) (hm : m ≤ 2000) (h : ∀ z, Nb (k || l) z (r + s) (n + m + 1) → Q z S) : oU2 iAdd "Ratio" w_add w_radd x y S Q := by
  rcases hx.two with ⟨rfl, i, rfl, si, rfl⟩ | ⟨p, rfl, np, sp, rfl⟩ <;> rcases hy.two with ⟨rfl, j, rfl, sj, rfl⟩ | ⟨q, rfl, nq, sq, rfl⟩
  · exact h _ (.ofI (by rw [← add_int]; exact sz_add2 si sj) (by rw [← add_int]; exact val_add (nrm_int i) (nrm_int j)))
  · refine o_ir (w2r_ri ⟨⟨sq.mono hm, si.mono hn⟩, h _ (.any (.of (nrm_add nq (nrm_int i)) ?_ ?_))⟩)
    · have := sz_add2 sq si
      rwa [Nat.add_comm m n] at this
    · rw [val_add nq (nrm_int i)]; grind
  · exact o_ri (w2r_ri ⟨⟨sp.mono hn, sj.mono hm⟩, h _ (.any (.of (nrm_add np (nrm_int j)) (sz_add2 sp sj) (val_add np (nrm_int j))))⟩)
  · exact o_rr (w2r_rr ⟨⟨sp.mono hn, sq.mono hm⟩, h _ (.any (.of (nrm_add np nq) (sz_add2 sp sq) (val_add np nq)))⟩)
theorem g_mul (hx : Nb k x r n) (hy : Nb l y s m) (hn : n ≤ 2000) (hm : m ≤ 2000) (h : ∀ z, Nb (k || l) z (r * s) (n + m) → Q z S) : oU2 iMul "Ratio" w_mul w_rmul x y S Q := by
  rcases hx.two with ⟨rfl, i, rfl, si, rfl⟩ | ⟨p, rfl, np, sp, rfl⟩ <;> rcases hy.two with ⟨rfl, j, rfl, sj, rfl⟩ | ⟨q, rfl, nq, sq, rfl⟩
  · exact ⟨cm8 (nmono si.2.1 hn) (nmono sj.2.1 hm), h _ (.ofI (by rw [← mulR_int]; exact sz_mul2 si sj) (by rw [← mulR_int]; exact val_mul (nrm_int i) (nrm_int j)))⟩
  · refine o_ir (w2r_ri ⟨⟨sq.mono hm, si.mono hn⟩, h _ (.any (.of (nrm_mul nq (nrm_int i)) ?_ ?_))⟩)
    · have := sz_mul2 sq si
      rwa [Nat.add_comm m n] at this
    · rw [val_mul nq (nrm_int i)]; grind
  · exact o_ri (w2r_ri ⟨⟨sp.mono hn, sj.mono hm⟩, h _ (.any (.of (nrm_mul np (nrm_int j)) (sz_mul2 sp sj) (val_mul np (nrm_int j))))⟩)
  · exact o_rr (w2r_rr ⟨⟨sp.mono hn, sq.mono hm⟩, h _ (.any (.of (nrm_mul np nq) (sz_mul2 sp sq) (val_mul np nq)))⟩)
theorem val_sub {p q : Int × Int} (hp : Nrm p) (hq : Nrm q) : val (subR p q) = val p - val q := by
  show val (addR p (negR q)) = _
  rw [val_add hp (nrm_neg hq), val_neg hq]
  grind
theorem sz_sub2 {p q : Int × Int} (hp : Sz n p) (hq : Sz m q) : Sz (n + m + 1) (subR p q) := sz_add2 hp (negR_sz hq)
theorem sub_int (i j : Int) : subR (i, 1) (j, 1) = (i - j, 1) := by
  show addR (i, 1) (negR (j, 1)) = _
  rw [negR_int, add_int]
  rfl
theorem g_sub (hx : Nb k x r n) (hy : Nb l y s m) (hn : n ≤ 2000) (hm : m ≤ 2000) (h : ∀ z, Nb (k || l) z (r - s) (n + m + 1) → Q z S) : oU2 iSub "Ratio" w_sub w_rsub x y S Q := by
  rcases hx.two with ⟨rfl, i, rfl, si, rfl⟩ | ⟨p, rfl, np, sp, rfl⟩ <;> rcases hy.two with ⟨rfl, j, rfl, sj, rfl⟩ | ⟨q, rfl, nq, sq, rfl⟩
  · exact h _ (.ofI (by rw [← sub_int]; exact sz_sub2 si sj) (by rw [← sub_int]; exact val_sub (nrm_int i) (nrm_int j)))
  · refine o_ir (w2r_ri ⟨⟨sq.mono hm, si.mono hn⟩, h _ (.any (.of (nrm_add (nrm_neg nq) (nrm_int i)) ?_ ?_))⟩)
    · have := sz_add2 (negR_sz sq) si
      rwa [Nat.add_comm m n] at this
    · rw [val_add (nrm_neg nq) (nrm_int i), val_neg nq]; grind
  · exact o_ri (w2r_ri ⟨⟨sp.mono hn, sj.mono hm⟩, h _ (.any (.of (nrm_add np (nrm_neg (nrm_int j))) (sz_sub2 sp sj) (val_sub np (nrm_int j))))⟩)
  · exact o_rr (w2r_rr ⟨⟨sp.mono hn, sq.mono hm⟩, h _ (.any (.of (nrm_add np (nrm_neg nq)) (sz_sub2 sp sq) (val_sub np nq)))⟩)
theorem g_neg (hx : Nb k x r n) (hn : n ≤ 2000) (h : ∀ z, Nb k z (-r) n → Q z S) : oUn1 iNeg "Ratio" w_neg x S Q := by
  rcases hx.two with ⟨rfl, i, rfl, si, rfl⟩ | ⟨p, rfl, np, sp, rfl⟩
  · exact h _ (.ofI (by rw [← negR_int]; exact negR_sz si) (by rw [← negR_int]; exact val_neg (nrm_int i)))
  · exact ⟨rfl, w1r_r ⟨sp.mono hn, h _ (.any (.of (nrm_neg np) (negR_sz sp) (val_neg np)))⟩⟩
def rabs (r : Rat) : Rat := if r < 0 then -r else r
theorem val_neg_iff {p : Int × Int} (hp : Nrm p) : val p < 0 ↔ p.1 < 0 := by
  have e : (0 : Rat) = val (0, 1) := by rw [val_int]; rfl
  rw [e, lt_val hp (nrm_int 0)]
  simp
theorem val_abs {p : Int × Int} (hp : Nrm p) : val (absR p) = rabs (val p) := by
  unfold rabs
  show val (mkR (if p.1 < 0 then -p.1 else p.1) p.2) = _
  by_cases c : p.1 < 0
  · rw [if_pos c, if_pos ((val_neg_iff hp).mpr c)]
    exact val_neg hp
  · rw [if_neg c, if_neg (fun z => c ((val_neg_iff hp).mp z)), hp.mk']
theorem g_abs (hx : Nb true x r n) (hn : n ≤ 2000) (h : ∀ z, Nb true z (rabs r) n → Q z S) : oL1 iAbs "Ratio" w_abs [x] S Q := by
  rcases hx.two with ⟨z, _⟩ | ⟨p, rfl, np, sp, rfl⟩
  · cases z
  · exact ⟨rfl, w1r_r ⟨sp.mono hn, h _ (.of (nrm_mk np.pos) (mkR_sz sp.1 (by split; exact nneg sp.2.1; exact sp.2.1) sp.2.2) (val_abs np))⟩⟩
theorem eq_dec {p q : Int × Int} (hp : Nrm p) (hq : Nrm q) : decide (p.1 = q.1 ∧ p.2 = q.2) = decide (val p = val q) := by
  rw [decide_eq_decide]
  exact ⟨fun h => by rw [Prod.ext h.1 h.2], fun h => by rw [canon hp hq h]; exact ⟨rfl, rfl⟩⟩
theorem g_eq (hx : Nb true x r n) (hy : Nb l y s m) (h : Q (.bl (decide (r = s))) S) : oU2 iEq "Ratio" w_eq wNo x y S Q := by
  rcases hx.two with ⟨z, _⟩ | ⟨p, rfl, np, sp, rfl⟩
  · cases z
  rcases hy.two with ⟨rfl, j, rfl, sj, rfl⟩ | ⟨q, rfl, nq, sq, rfl⟩
  · refine o_ri (w2r_ri ?_)
    show Q (.bl (decide (p.1 = (j, (1 : Int)).1 ∧ p.2 = (j, (1 : Int)).2))) S
    rw [eq_dec np (nrm_int j)]
    exact h
  · refine o_rr (w2r_rr ?_)
    rw [eq_dec np nq]
    exact h
theorem g_ne (hx : Nb true x r n) (hy : Nb l y s m) (h : Q (.bl (!decide (r = s))) S) : oU2 iNe "Ratio" w_ne wNo x y S Q := by
  rcases hx.two with ⟨z, _⟩ | ⟨p, rfl, np, sp, rfl⟩
  · cases z
  rcases hy.two with ⟨rfl, j, rfl, sj, rfl⟩ | ⟨q, rfl, nq, sq, rfl⟩
  · refine o_ri (w2r_ri ?_)
    show Q (.bl (!decide (p.1 = (j, (1 : Int)).1 ∧ p.2 = (j, (1 : Int)).2))) S
    rw [eq_dec np (nrm_int j)]
    exact h
  · refine o_rr (w2r_rr ?_)
    rw [eq_dec np nq]
    exact h
theorem int_eq (i j : Int) : decide (i = j) = decide (val (i, 1) = val (j, 1)) := by
  rw [decide_eq_decide, val_int, val_int]
  exact ⟨fun h => by rw [h], fun h => by exact_mod_cast h⟩
theorem g_ne0 {j : Int} (hx : Nb k x r n) (h : Q (.bl (!decide (r = val (j, 1)))) S) : oU2 iNe "Ratio" w_ne wNo x (.int j) S Q := by
  rcases hx.two with ⟨rfl, i, rfl, si, rfl⟩ | ⟨p, rfl, np, sp, rfl⟩
  · show Q (.bl (!decide (i = j))) S
    rw [int_eq]
    exact h
  · refine o_ri (w2r_ri ?_)
    show Q (.bl (!decide (p.1 = (j, (1 : Int)).1 ∧ p.2 = (j, (1 : Int)).2))) S
    rw [eq_dec np (nrm_int j)]
    exact h
end

section
variable {k l : Bool} {x y : D} {r s : Rat} {n m : Nat} {S : MS} {Q : D → MS → Prop}
theorem g_lt (hx : Nb k x r n) (hy : Nb l y s m) (hn : n ≤ 2000) (hm : m ≤ 2000) (h : Q (.bl (decide (r < s))) S) : oU2 iLt "Ratio" w_lt w_gt x y S Q := by
  rcases hx.two with ⟨rfl, i, rfl, si, rfl⟩ | ⟨p, rfl, np, sp, rfl⟩ <;> rcases hy.two with ⟨rfl, j, rfl, sj, rfl⟩ | ⟨q, rfl, nq, sq, rfl⟩
  · have e : decide (i < j) = decide (val (i, 1) < val (j, 1)) := by
      rw [decide_eq_decide]
      exact Iff.trans (by show _ ↔ i * 1 < j * 1; (try dsimp only); omega) (lt_val (nrm_int i) (nrm_int j)).symm
    show Q (.bl (decide (i < j))) S
    rw [e]
    exact h
  · refine o_ir (w2r_ri ⟨⟨sq.mono hm, si.mono hn⟩, ?_⟩)
    have e : decide (q.1 * (i, (1 : Int)).2 - (i, (1 : Int)).1 * q.2 > 0) = decide (val (i, 1) < val q) := by
      rw [decide_eq_decide]
      exact Iff.trans (by show _ ↔ i * q.2 < q.1 * 1; (try dsimp only); omega) (lt_val (nrm_int i) nq).symm
    rw [e]
    exact h
  · refine o_ri (w2r_ri ⟨⟨sp.mono hn, sj.mono hm⟩, ?_⟩)
    have e : decide (p.1 * (j, (1 : Int)).2 - (j, (1 : Int)).1 * p.2 < 0) = decide (val p < val (j, 1)) := by
      rw [decide_eq_decide]
      exact Iff.trans (by show _ ↔ p.1 * 1 < j * p.2; (try dsimp only); omega) (lt_val np (nrm_int j)).symm
    rw [e]
    exact h
  · refine o_rr (w2r_rr ⟨⟨sp.mono hn, sq.mono hm⟩, ?_⟩)
    have e : decide (p.1 * q.2 - q.1 * p.2 < 0) = decide (val p < val q) := by
      rw [decide_eq_decide]
      exact Iff.trans (by show _ ↔ p.1 * q.2 < q.1 * p.2; (try dsimp only); omega) (lt_val np nq).symm
    rw [e]
    exact h
theorem g_le (hx : Nb k x r n) (hy : Nb l y s m) (hn : n ≤ 2000) (hm : m ≤ 2000) (h : Q (.bl (decide (r ≤ s))) S) : oU2 iLe "Ratio" w_le w_ge x y S Q := by
  rcases hx.two with ⟨rfl, i, rfl, si, rfl⟩ | ⟨p, rfl, np, sp, rfl⟩ <;> rcases hy.two with ⟨rfl, j, rfl, sj, rfl⟩ | ⟨q, rfl, nq, sq, rfl⟩
  · have e : decide (i ≤ j) = decide (val (i, 1) ≤ val (j, 1)) := by
      rw [decide_eq_decide]
      exact Iff.trans (by show _ ↔ i * 1 ≤ j * 1; (try dsimp only); omega) (le_val (nrm_int i) (nrm_int j)).symm
    show Q (.bl (decide (i ≤ j))) S
    rw [e]
    exact h
  · refine o_ir (w2r_ri ⟨⟨sq.mono hm, si.mono hn⟩, ?_⟩)
    have e : decide (q.1 * (i, (1 : Int)).2 - (i, (1 : Int)).1 * q.2 ≥ 0) = decide (val (i, 1) ≤ val q) := by
      rw [decide_eq_decide]
      exact Iff.trans (by show _ ↔ i * q.2 ≤ q.1 * 1; (try dsimp only); omega) (le_val (nrm_int i) nq).symm
    rw [e]
    exact h
  · refine o_ri (w2r_ri ⟨⟨sp.mono hn, sj.mono hm⟩, ?_⟩)
    have e : decide (p.1 * (j, (1 : Int)).2 - (j, (1 : Int)).1 * p.2 ≤ 0) = decide (val p ≤ val (j, 1)) := by
      rw [decide_eq_decide]
      exact Iff.trans (by show _ ↔ p.1 * 1 ≤ j * p.2; (try dsimp only); omega) (le_val np (nrm_int j)).symm
    rw [e]
    exact h
  · refine o_rr (w2r_rr ⟨⟨sp.mono hn, sq.mono hm⟩, ?_⟩)
    have e : decide (p.1 * q.2 - q.1 * p.2 ≤ 0) = decide (val p ≤ val q) := by
      rw [decide_eq_decide]
      exact Iff.trans (by show _ ↔ p.1 * q.2 ≤ q.1 * p.2; (try dsimp only); omega) (le_val np nq).symm
    rw [e]
    exact h
theorem g_gt (hx : Nb k x r n) (hy : Nb l y s m) (hn : n ≤ 2000) (hm : m ≤ 2000) (h : Q (.bl (decide (r > s))) S) : oU2 iGt "Ratio" w_gt w_lt x y S Q := by
  rcases hx.two with ⟨rfl, i, rfl, si, rfl⟩ | ⟨p, rfl, np, sp, rfl⟩ <;> rcases hy.two with ⟨rfl, j, rfl, sj, rfl⟩ | ⟨q, rfl, nq, sq, rfl⟩
  · have e : decide (j < i) = decide (val (i, 1) > val (j, 1)) := by
      rw [decide_eq_decide]
      exact Iff.trans (by show _ ↔ j * 1 < i * 1; (try dsimp only); omega) (lt_val (nrm_int j) (nrm_int i)).symm
    show Q (.bl (decide (j < i))) S
    rw [e]
    exact h
  · refine o_ir (w2r_ri ⟨⟨sq.mono hm, si.mono hn⟩, ?_⟩)
    have e : decide (q.1 * (i, (1 : Int)).2 - (i, (1 : Int)).1 * q.2 < 0) = decide (val (i, 1) > val q) := by
      rw [decide_eq_decide]
      exact Iff.trans (by show _ ↔ q.1 * 1 < i * q.2; (try dsimp only); omega) (lt_val nq (nrm_int i)).symm
    rw [e]
    exact h
  · refine o_ri (w2r_ri ⟨⟨sp.mono hn, sj.mono hm⟩, ?_⟩)
    have e : decide (p.1 * (j, (1 : Int)).2 - (j, (1 : Int)).1 * p.2 > 0) = decide (val p > val (j, 1)) := by
      rw [decide_eq_decide]
      exact Iff.trans (by show _ ↔ j * p.2 < p.1 * 1; (try dsimp only); omega) (lt_val (nrm_int j) np).symm
    rw [e]
    exact h
  · refine o_rr (w2r_rr ⟨⟨sp.mono hn, sq.mono hm⟩, ?_⟩)
    have e : decide (p.1 * q.2 - q.1 * p.2 > 0) = decide (val p > val q) := by
      rw [decide_eq_decide]
      exact Iff.trans (by show _ ↔ q.1 * p.2 < p.1 * q.2; (try dsimp only); omega) (lt_val nq np).symm
    rw [e]
    exact h
theorem g_ge (hx : Nb k x r n) (hy : Nb l y s m) (hn : n ≤ 2000) (hm : m ≤ 2000) (h : Q (.bl (decide (r ≥ s))) S) : oU2 iGe "Ratio" w_ge w_le x y S Q := by
  rcases hx.two with ⟨rfl, i, rfl, si, rfl⟩ | ⟨p, rfl, np, sp, rfl⟩ <;> rcases hy.two with ⟨rfl, j, rfl, sj, rfl⟩ | ⟨q, rfl, nq, sq, rfl⟩
  · have e : decide (j ≤ i) = decide (val (i, 1) ≥ val (j, 1)) := by
      rw [decide_eq_decide]
      exact Iff.trans (by show _ ↔ j * 1 ≤ i * 1; (try dsimp only); omega) (le_val (nrm_int j) (nrm_int i)).symm
    show Q (.bl (decide (j ≤ i))) S
    rw [e]
    exact h
  · refine o_ir (w2r_ri ⟨⟨sq.mono hm, si.mono hn⟩, ?_⟩)
    have e : decide (q.1 * (i, (1 : Int)).2 - (i, (1 : Int)).1 * q.2 ≤ 0) = decide (val (i, 1) ≥ val q) := by
      rw [decide_eq_decide]
      exact Iff.trans (by show _ ↔ q.1 * 1 ≤ i * q.2; (try dsimp only); omega) (le_val nq (nrm_int i)).symm
    rw [e]
    exact h
  · refine o_ri (w2r_ri ⟨⟨sp.mono hn, sj.mono hm⟩, ?_⟩)
    have e : decide (p.1 * (j, (1 : Int)).2 - (j, (1 : Int)).1 * p.2 ≥ 0) = decide (val p ≥ val (j, 1)) := by
      rw [decide_eq_decide]
      exact Iff.trans (by show _ ↔ j * p.2 ≤ p.1 * 1; (try dsimp only); omega) (le_val (nrm_int j) np).symm
    rw [e]
    exact h
  · refine o_rr (w2r_rr ⟨⟨sp.mono hn, sq.mono hm⟩, ?_⟩)
    have e : decide (p.1 * q.2 - q.1 * p.2 ≥ 0) = decide (val p ≥ val q) := by
      rw [decide_eq_decide]
      exact Iff.trans (by show _ ↔ q.1 * p.2 ≤ p.1 * q.2; (try dsimp only); omega) (le_val nq np).symm
    rw [e]
    exact h
end
end K1
set_option Elab.async false
set_option linter.all false
set_option maxRecDepth 100000
namespace K1
open PySem PySem.Spec PyProof.Rows L2 DL
def Flo (F : Int) (v : Rat) : Prop := (F : Rat) ≤ v ∧ v < (F : Rat) + 1
theorem Flo.uniq {F G : Int} {v : Rat} (a : Flo F v) (b : Flo G v) : F = G := by
  have h1 : (F : Rat) < ((G + 1 : Int) : Rat) := by
    rw [Rat.intCast_add]
    have := a.1
    have := b.2
    have e : ((1 : Int) : Rat) = 1 := rfl
    rw [e]
    grind
  have h2 : (G : Rat) < ((F + 1 : Int) : Rat) := by
    rw [Rat.intCast_add]
    have := b.1
    have := a.2
    have e : ((1 : Int) : Rat) = 1 := rfl
    rw [e]
    grind
  rw [Rat.intCast_lt_intCast] at h1 h2
  omega
theorem flo_pos {t u : Int} (hu : 0 < u) : Flo (t / u) ((t : Rat) / (u : Rat)) := by
  have u0 := cast_pos hu
  constructor
  · rw [← Rat.not_lt, Rat.div_lt_iff u0, ← Rat.intCast_mul, Rat.intCast_lt_intCast]
    have := Int.ediv_mul_le t (show u ≠ 0 by omega)
    omega
  · rw [Rat.div_lt_iff u0]
    have e : ((t / u : Int) : Rat) + 1 = ((t / u + 1 : Int) : Rat) := by rw [Rat.intCast_add]; rfl
    rw [e, ← Rat.intCast_mul, Rat.intCast_lt_intCast]
    exact Int.lt_ediv_add_one_mul_self t hu
theorem flo_fdiv {t u : Int} (hu : u ≠ 0) : Flo (t.fdiv u) ((t : Rat) / (u : Rat)) := by
  by_cases h : 0 < u
  · rw [Int.fdiv_eq_ediv_of_nonneg _ (by omega)]
    exact flo_pos h
  · have e : t.fdiv u = (-t).fdiv (-u) := by
      have := Int.neg_fdiv_neg t u
      rw [this]
    rw [e, Int.fdiv_eq_ediv_of_nonneg _ (by omega)]
    have := flo_pos (t := -t) (u := -u) (by omega)
    rw [Rat.intCast_neg, Rat.intCast_neg] at this
    have u0 := cast_ne hu
    have e2 : -(t : Rat) / -(u : Rat) = (t : Rat) / (u : Rat) := by grind
    rw [e2] at this
    exact this
theorem val_ne {q : Int × Int} (hq : Nrm q) (h : val q ≠ 0) : q.1 ≠ 0 := fun z => h (by
  show (q.1 : Rat) / q.2 = 0
  rw [z]
  have : ((0 : Int) : Rat) = 0 := rfl
  rw [this]
  grind)
theorem val_div {p q : Int × Int} (hp : Nrm p) (hq : Nrm q) (h : val q ≠ 0) : val p / val q = ((p.1 * q.2 : Int) : Rat) / ((p.2 * q.1 : Int) : Rat) := by
  have b0 : (p.2 : Rat) ≠ 0 := cast_ne (by have := hp.pos; omega)
  have d0 : (q.2 : Rat) ≠ 0 := cast_ne (by have := hq.pos; omega)
  have n0 : (q.1 : Rat) ≠ 0 := cast_ne (val_ne hq h)
  show (p.1 : Rat) / p.2 / ((q.1 : Rat) / q.2) = _
  rw [Rat.intCast_mul, Rat.intCast_mul]
  grind
theorem flo_fd {p q : Int × Int} (hp : Nrm p) (hq : Nrm q) (h : val q ≠ 0) : Flo (fdR p q) (val p / val q) := by
  rw [val_div hp hq h]
  exact flo_fdiv (Int.mul_ne_zero (by have := hp.pos; omega) (val_ne hq h))
theorem quo_all {p q : Int × Int} {n m : Nat} (hp : Nrm p) (hq : Nrm q) (sp : Sz n p) (sq : Sz m q) (h : val q ≠ 0) : Nrm (quoR p q) ∧ Sz (n + m) (quoR p q) ∧ val (quoR p q) = val p / val q := by
  have q0 := val_ne hq h
  have b0 := hp.pos
  have nz : p.2 * q.1 ≠ 0 := Int.mul_ne_zero (by omega) q0
  rw [val_div hp hq h]
  unfold quoR
  by_cases c : p.2 * q.1 < 0
  · rw [if_pos c]
    have pos : 0 < -(p.2 * q.1) := by omega
    refine ⟨nrm_mk pos, mkR_sz pos (nneg (nmul sp.2.1 sq.2.2)) (nneg (nmul sp.2.2 sq.2.1)), ?_⟩
    rw [val_mk pos, Rat.intCast_neg, Rat.intCast_neg]
    have := cast_ne nz
    grind
  · rw [if_neg c]
    have pos : 0 < p.2 * q.1 := by omega
    exact ⟨nrm_mk pos, mkR_sz pos (nmul sp.2.1 sq.2.2) (nmul sp.2.2 sq.2.1), val_mk pos⟩
theorem val_modR {p q : Int × Int} (hp : Nrm p) (hq : Nrm q) : val (modR p q) = val p - val q * (fdR p q : Rat) ∧ Nrm (modR p q) := by
  have n1 := nrm_int (fdR p q)
  refine ⟨?_, nrm_add hp (nrm_neg (nrm_mul hq n1))⟩
  show val (subR p (mulR q (fdR p q, 1))) = _
  rw [val_sub hp (nrm_mul hq n1), val_mul hq n1, val_int]
theorem fd_sz2 {p q : Int × Int} {n m : Nat} (sp : Sz n p) (sq : Sz m q) : (fdR p q).natAbs < 2 ^ (n + m) := Nat.lt_of_le_of_lt (fdiv_le _ _) (nmul sp.2.1 sq.2.2)
theorem mod_sz {p q : Int × Int} {n m : Nat} (hn : 0 < n) (sp : Sz n p) (sq : Sz m q) : Sz (n + (m + (n + m)) + 1) (modR p q) :=
  sz_sub2 sp (sz_mul2 sq (Sz.one (by omega) (fd_sz2 sp sq)))
section
variable {k l : Bool} {x y : D} {r s : Rat} {n m : Nat} {S : MS} {Q : D → MS → Prop}
theorem g_quo (hx : Nb k x r n) (hy : Nb l y s m) (hn : n ≤ 2000) (hm : m ≤ 2000) (hs : s ≠ 0) (h : ∀ z, Nb true z (r / s) (n + m) → Q z S) : w_quotient [x, y] S Q := by
  have fin : ∀ p q : Int × Int, Nrm p → Nrm q → Sz n p → Sz m q → r = val p → s = val q → (Sz 2000 p ∧ Sz 2000 q ∧ q.1 ≠ 0) ∧ Q (rt (quoR p q)) S := fun p q np nq sp sq e1 e2 => by
    subst e1 e2
    obtain ⟨a, b, c⟩ := quo_all np nq sp sq hs
    exact ⟨⟨sp.mono hn, sq.mono hm, val_ne nq hs⟩, h _ (.of a b c)⟩
  rcases hx.two with ⟨rfl, i, rfl, si, e1⟩ | ⟨p, rfl, np, sp, e1⟩ <;> rcases hy.two with ⟨rfl, j, rfl, sj, e2⟩ | ⟨q, rfl, nq, sq, e2⟩
  · exact w2_ii (fin _ _ (nrm_int i) (nrm_int j) si sj e1 e2)
  · exact w2_ir (fin _ _ (nrm_int i) nq si sq e1 e2)
  · exact w2_ri (fin _ _ np (nrm_int j) sp sj e1 e2)
  · exact w2_rr (fin _ _ np nq sp sq e1 e2)
theorem g_fdiv (hx : Nb k x r n) (hy : Nb l y s m) (h0 : 0 < n) (hn : n ≤ 2000) (hm : m ≤ 2000) (hs : s ≠ 0) (h : ∀ F : Int, Flo F (r / s) → Nb false (.int F) (F : Rat) (n + m) → Q (.int F) S) : oU2 iFdiv "Ratio" w_floordiv w_rfloordiv x y S Q := by
  have fin : ∀ p q : Int × Int, Nrm p → Nrm q → Sz n p → Sz m q → r = val p → s = val q → Q (.int (fdR p q)) S := fun p q np nq sp sq e1 e2 => by
    subst e1 e2
    exact h _ (flo_fd np nq hs) (.int (by omega) (fd_sz2 sp sq))
  rcases hx.two with ⟨rfl, i, rfl, si, e1⟩ | ⟨p, rfl, np, sp, e1⟩ <;> rcases hy.two with ⟨rfl, j, rfl, sj, e2⟩ | ⟨q, rfl, nq, sq, e2⟩
  · have j0 : j ≠ 0 := val_ne (nrm_int j) (by rw [← e2]; exact hs)
    refine ⟨⟨j0, lt_log2 (by decide) (nmono sj.2.1 (by omega : m ≤ 9000))⟩, ?_⟩
    have := fin _ _ (nrm_int i) (nrm_int j) si sj e1 e2
    have e : fdR (i, 1) (j, 1) = i.fdiv j := by
      show (i * 1).fdiv (1 * j) = _
      rw [Int.mul_one, Int.one_mul]
    rw [e] at this
    exact this
  · exact o_ir (w2r_ri ⟨⟨sq.mono hm, si.mono hn, val_ne nq (by rw [← e2]; exact hs)⟩, fin _ _ (nrm_int i) nq si sq e1 e2⟩)
  · exact o_ri (w2r_ri ⟨⟨sp.mono hn, sj.mono hm, val_ne (nrm_int j) (by rw [← e2]; exact hs)⟩, fin _ _ np (nrm_int j) sp sj e1 e2⟩)
  · exact o_rr (w2r_rr ⟨⟨sp.mono hn, sq.mono hm, val_ne nq (by rw [← e2]; exact hs)⟩, fin _ _ np nq sp sq e1 e2⟩)
theorem g_mod (hx : Nb k x r n) (hy : Nb l y s m) (h0 : 0 < n) (hn : n ≤ 450) (hm : m ≤ 450) (hs : s ≠ 0) (h : ∀ (F : Int) z, Flo F (r / s) → Nb (k || l) z (r - s * (F : Rat)) (n + (m + (n + m)) + 1) → Q z S) : oU2 iMod "Ratio" w_mod w_rmod x y S Q := by
  have fin : ∀ p q : Int × Int, Nrm p → Nrm q → Sz n p → Sz m q → r = val p → s = val q → Q (rt (modR p q)) S := fun p q np nq sp sq e1 e2 => by
    subst e1 e2
    exact h _ _ (flo_fd np nq hs) (.any (.of (val_modR np nq).2 (mod_sz h0 sp sq) (val_modR np nq).1))
  rcases hx.two with ⟨rfl, i, rfl, si, e1⟩ | ⟨p, rfl, np, sp, e1⟩ <;> rcases hy.two with ⟨rfl, j, rfl, sj, e2⟩ | ⟨q, rfl, nq, sq, e2⟩
  · have j0 : j ≠ 0 := val_ne (nrm_int j) (by rw [← e2]; exact hs)
    refine ⟨j0, ?_⟩
    subst e1 e2
    have fe : fdR (i, 1) (j, 1) = i.fdiv j := by
      show (i * 1).fdiv (1 * j) = _
      rw [Int.mul_one, Int.one_mul]
    have e : modR (i, 1) (j, 1) = (i.fmod j, 1) := by
      show subR (i, 1) (mulR (j, 1) (fdR (i, 1) (j, 1), 1)) = _
      rw [mulR_int, sub_int, fe, Int.fmod_def]
    have z := mod_sz h0 si sj
    rw [e] at z
    have v := (val_modR (nrm_int i) (nrm_int j)).1
    rw [e] at v
    exact h _ _ (flo_fd (nrm_int i) (nrm_int j) hs) (.ofI z v)
  · exact o_ir (w2r_ri ⟨⟨sq.mono hm, si.mono hn, val_ne nq (by rw [← e2]; exact hs)⟩, fin _ _ (nrm_int i) nq si sq e1 e2⟩)
  · exact o_ri (w2r_ri ⟨⟨sp.mono hn, sj.mono hm, val_ne (nrm_int j) (by rw [← e2]; exact hs)⟩, fin _ _ np (nrm_int j) sp sj e1 e2⟩)
  · exact o_rr (w2r_rr ⟨⟨sp.mono hn, sq.mono hm, val_ne nq (by rw [← e2]; exact hs)⟩, fin _ _ np nq sp sq e1 e2⟩)
theorem pow_val (a b : Rat) (hb : b ≠ 0) : ∀ e : Nat, a ^ e / b ^ e = (a / b) ^ e ∧ b ^ e ≠ 0
  | 0 => by
    rw [Rat.pow_zero, Rat.pow_zero, Rat.pow_zero]
    exact ⟨by grind, by grind⟩
  | e + 1 => by
    obtain ⟨h1, h2⟩ := pow_val a b hb e
    rw [Rat.pow_succ, Rat.pow_succ, Rat.pow_succ, ← h1]
    exact ⟨by grind, by grind⟩
theorem g_pow {e : Int} (hx : Nb true x r n) (h0 : 0 < n) (e0 : 0 ≤ e) (e1 : e ≤ 64) (hz : e.toNat * n ≤ 2000) (h : ∀ z, Nb true z (r ^ e.toNat) (e.toNat * n + 1) → Q z S) : oOwnB "Ratio" w_pow x (.int e) S Q := by
  rcases hx.two with ⟨z, _⟩ | ⟨p, rfl, np, sp, rfl⟩
  · cases z
  refine ⟨⟨_, rfl⟩, .inr ⟨_, rfl⟩, ⟨p, n, h0, numD_ins _ _, e0, e1, np.pos, sp.2.1, sp.2.2, Nat.le_trans hz (by decide), h _ ?_⟩⟩
  have pos : 0 < p.2 ^ e.toNat := Int.pow_pos np.pos
  refine .of (nrm_mk pos) (mkR_sz pos (npow sp.2.1 _) (npow sp.2.2 _)) ?_
  rw [val_mk pos, Rat.intCast_pow, Rat.intCast_pow]
  exact (pow_val _ _ (cast_ne (by have := np.pos; omega)) _).1
end

end K1
set_option Elab.async false
set_option linter.all false
set_option maxRecDepth 100000
set_option maxHeartbeats 0
namespace K1
open PySem PySem.Spec PyProof.Rows L2 DL
section
variable {P : Program} {w : World} {K : PySem.W.Frag} {mg : Str → Option Value} {base : Heap}
def CPowW (i j : Int) : Prop := 0 ≤ j ∧ j ≤ 64 ∧ i.natAbs < 2 ^ 2000
theorem op_powW {X : Cx} : OpR X (binaryOp .Pow) (rI CPowW fun i j => .int (i ^ j.toNat)) := opI fun i j _ _ _ _ _ hc q => by
  obtain ⟨h0, h1, h2⟩ := hc
  refine pow_int h0 ?_ q
  have hb : (Builtin.Int.intBits i : Int) ≤ 2000 := by
    unfold Builtin.Int.intBits
    split
    · decide
    · have := lt_log2 (by decide) h2
      omega
  have : (Builtin.Int.intBits i : Int) * j ≤ 2000 * 64 := Int.mul_le_mul hb h1 h0 (by decide)
  omega
def iPow : OInt := fun i j S Q => CPowW i j ∧ Q (.int (i ^ j.toNat)) S
theorem snd_iPow {mg : MG} : SndR mg (rI CPowW fun i j => .int (i ^ j.toNat)) (oJust iPow) := snd_justC fun _ _ _ _ => .int _

theorem dec_lt {P : Program} {w : World} {A : Around} {E : Value → Shared → Prop} {s : Shared} {i : Int} {t : Tok} {x : Addr} {ox : Obj} (Q' : Value → Shared → Prop) (h1 : s.heap.get? x = some ox) (h2 : ox.data = .plain) (q : Q' .notImplemented s) :
    wpAny (model P w) A (call (.builtin "int.__lt__") [.int i t, .ref x]) Q' E s := int_declines PySem.F.slot_int_lt PySem.F.entry_int_lt (PySem.F.args_int_lt_2 _ _) rfl h1 h2 q
theorem dec_le {P : Program} {w : World} {A : Around} {E : Value → Shared → Prop} {s : Shared} {i : Int} {t : Tok} {x : Addr} {ox : Obj} (Q' : Value → Shared → Prop) (h1 : s.heap.get? x = some ox) (h2 : ox.data = .plain) (q : Q' .notImplemented s) :
    wpAny (model P w) A (call (.builtin "int.__le__") [.int i t, .ref x]) Q' E s := int_declines PySem.F.slot_int_le PySem.F.entry_int_le (PySem.F.args_int_le_2 _ _) rfl h1 h2 q
theorem dec_gt {P : Program} {w : World} {A : Around} {E : Value → Shared → Prop} {s : Shared} {i : Int} {t : Tok} {x : Addr} {ox : Obj} (Q' : Value → Shared → Prop) (h1 : s.heap.get? x = some ox) (h2 : ox.data = .plain) (q : Q' .notImplemented s) :
    wpAny (model P w) A (call (.builtin "int.__gt__") [.int i t, .ref x]) Q' E s := int_declines PySem.F.slot_int_gt PySem.F.entry_int_gt (PySem.F.args_int_gt_2 _ _) rfl h1 h2 q
theorem dec_ge {P : Program} {w : World} {A : Around} {E : Value → Shared → Prop} {s : Shared} {i : Int} {t : Tok} {x : Addr} {ox : Obj} (Q' : Value → Shared → Prop) (h1 : s.heap.get? x = some ox) (h2 : ox.data = .plain) (q : Q' .notImplemented s) :
    wpAny (model P w) A (call (.builtin "int.__ge__") [.int i t, .ref x]) Q' E s := int_declines PySem.F.slot_int_ge PySem.F.entry_int_ge (PySem.F.args_int_ge_2 _ _) rfl h1 h2 q
section
variable {k l : Bool} {x y : D} {r s : Rat} {n m : Nat} {S : MS} {Q : D → MS → Prop}
theorem g_powA {e : Int} (hx : Nb k x r n) (h0 : 0 < n) (e0 : 0 ≤ e) (e1 : e ≤ 64) (hz : e.toNat * n ≤ 2000) (hn : n ≤ 2000) (h : ∀ z, Nb k z (r ^ e.toNat) (e.toNat * n + 1) → Q z S) : oU2 iPow "Ratio" w_pow wNo x (.int e) S Q := by
  rcases hx.two with ⟨rfl, i, rfl, si, rfl⟩ | ⟨p, rfl, np, sp, rfl⟩
  · refine ⟨⟨e0, e1, nmono si.2.1 hn⟩, h _ (.ofI ?_ ?_)⟩
    · exact Sz.one (by omega) (npow si.2.1 _)
    · rw [val_int, val_int, Rat.intCast_pow]
  · have := g_pow (Q := Q) (S := S) (e := e) (.of np sp rfl) h0 e0 e1 hz fun z hz' => h z (.any hz')
    exact ⟨rfl, this.2.2⟩
theorem g_absA (hx : Nb k x r n) (hn : n ≤ 2000) (h : ∀ z, Nb k z (rabs r) n → Q z S) : oL1 iAbs "Ratio" w_abs [x] S Q := by
  rcases hx.two with ⟨rfl, i, rfl, si, rfl⟩ | ⟨p, rfl, np, sp, rfl⟩
  · have e : absR (i, 1) = ((if i < 0 then -i else i), 1) := mkR_one _
    have v := val_abs (nrm_int i)
    rw [e] at v
    exact h _ (.ofI ⟨si.1, by show (if i < 0 then -i else i).natAbs < _; split; exact nneg si.2.1; exact si.2.1, si.2.2⟩ v)
  · exact ⟨rfl, w1r_r ⟨sp.mono hn, h _ (.any (.of (nrm_mk np.pos) (mkR_sz sp.1 (by split; exact nneg sp.2.1; exact sp.2.1) sp.2.2) (val_abs np)))⟩⟩
end
theorem d_callC {X : Cx} {G' : MG} {k n : Nat} {f : Addr} {fd : FuncData} {ps : List Str} {w : WF} {x : Str} {p pos : Pos} {e : Expr} {es : List Expr} {t : TA} {wl : WL} (F : FnOk X.prog X.w X.K X.mg X.base CX0 k f fd ps (spW G' n w)) (hr : Room k X.A) (hm : X.mg x = some (.ref f)) (hk : PySem.W.keepIn X.K (.ref f) = true) (hb : Binds X.K fd ps [])
    (ha : PDA X (e :: es) t wl) (hG : G' = X.G := by rfl) (hg : Gl X x := by rfl) (hdb : (x == ("__debug__" : Str)) = false := by decide) (he : starEach (e :: es) X.env = (false, eval e X.env) :: starEach es X.env := by rfl) (hpl : (backTo pos (starEach es X.env)).any (·.1) = false := by rfl) :
    PD X (.Call (.Name x p) (e :: es) [] pos) (tCall (spW G' n w) [] E0 t) (wCall n w wl) := by
  subst hG
  exact d_call F hr hm hk hb ha hg hdb he hpl
def Pre (S S' : MS) : Prop := S.length ≤ S'.length ∧ ∀ j, j < S.length → S'[j]? = S[j]?
theorem Pre.refl {S : MS} : Pre S S := ⟨Nat.le_refl _, fun _ _ => rfl⟩
theorem Pre.trans {S S1 S2 : MS} (a : Pre S S1) (b : Pre S1 S2) : Pre S S2 := ⟨Nat.le_trans a.1 b.1, fun j h => (b.2 j (Nat.lt_of_lt_of_le h a.1)).trans (a.2 j h)⟩
theorem pre_oth {S S1 S2 : MS} {m : Nat} (a : Pre S S1) (o : Oth m S1 S2) (h : S.length ≤ m) : Pre S S2 := ⟨by rw [o.1]; exact a.1, fun j hj => (o.2 j (by omega)).trans (a.2 j hj)⟩
theorem get_old {S : MS} {m : Nat} {x y : List D} (h : S[m]? = some x) : (S ++ [y])[m]? = some x := by
  rw [List.getElem?_append_left (List.getElem?_eq_some_iff.mp h).1]
  exact h
theorem pre_new {S : MS} {x : List D} : Pre S (S ++ [x]) := ⟨by simp, fun j h => List.getElem?_append_left h⟩
theorem new_at {S : MS} {x : List D} : (S ++ [x])[S.length]? = some x := by
  rw [List.getElem?_append_right (Nat.le_refl _), Nat.sub_self]
  rfl
theorem mono_str (ds : List D) (S : MS) (Q Q' : D → MS → Prop) (i : ∀ d S, Q d S → Q' d S) (h : w_str ds S Q) : w_str ds S Q' := by
  obtain ⟨t, b, rfl, h1, h⟩ := one_rat h
  exact ⟨h1, i _ _ h⟩
theorem mono_repr (ds : List D) (S : MS) (Q Q' : D → MS → Prop) (i : ∀ d S, Q d S → Q' d S) (h : w_repr ds S Q) : w_repr ds S Q' := by
  obtain ⟨t, b, rfl, h1, h⟩ := one_rat h
  exact ⟨h1, i _ _ h⟩
def Good2 (d : D) : Prop := ∃ x y r s n m l, d = .tup [x, y] ∧ Nb true x r n ∧ Nb l y s m ∧ r = s
theorem good2 {x y : D} {r s : Rat} {n m : Nat} {l : Bool} (hx : Nb true x r n) (hy : Nb l y s m) (e : r = s) : Good2 (.tup [x, y]) := ⟨x, y, r, s, n, m, l, rfl, hx, hy, e⟩
def AllG : List D → Prop
  | [] => True
  | d :: ds => Good2 d ∧ AllG ds
theorem lcD_skip {step : D → MS → (MS → Prop) → Prop} {fin : MS → Prop} {S : MS} (hf : fin S) : ∀ ds : List D, AllG ds → (∀ d, Good2 d → ∀ k : MS → Prop, k S → step d S k) → lcD ds step fin S
  | [], _, _ => hf
  | d :: ds, h, st => st d h.1 _ (lcD_skip hf ds h.2 st)
theorem AllG.app : ∀ {ds es : List D}, AllG ds → AllG es → AllG (ds ++ es)
  | [], _, _, h => h
  | _ :: _, _, h, q => ⟨h.1, AllG.app h.2 q⟩
theorem rabs_mul (a b : Rat) : rabs a * rabs b = rabs (a * b) := by
  have pos : ∀ x y : Rat, 0 ≤ x → 0 ≤ y → 0 ≤ x * y := fun x y hx hy => Rat.mul_nonneg hx hy
  unfold rabs
  by_cases ha : a < 0 <;> by_cases hb : b < 0
  · rw [if_pos ha, if_pos hb, if_neg (by have := pos (-a) (-b) (by grind) (by grind); grind)]
    grind
  · rw [if_pos ha, if_neg hb]
    have := pos (-a) b (by grind) (by grind)
    by_cases c : a * b < 0
    · rw [if_pos c]; grind
    · rw [if_neg c]; grind
  · rw [if_neg ha, if_pos hb]
    have := pos a (-b) (by grind) (by grind)
    by_cases c : a * b < 0
    · rw [if_pos c]; grind
    · rw [if_neg c]; grind
  · rw [if_neg ha, if_neg hb]
    have := pos a b (by grind) (by grind)
    by_cases c : a * b < 0
    · rw [if_pos c]; grind
    · rw [if_neg c]
theorem rabs_sq (a : Rat) : a ^ 2 = rabs a ^ 2 := by
  unfold rabs
  split <;> grind
theorem c0 : ((0 : Int) : Rat) = 0 := rfl
theorem c1 : ((1 : Int) : Rat) = 1 := rfl
theorem c2 : ((2 : Int) : Rat) = 2 := rfl

/-! ### what an expression of numbers comes to -/
def NE (w : WD) (ρ : DEnv) (S : MS) (k : Bool) (r : Rat) (n : Nat) : Prop := ∀ Q : D → MS → Prop, (∀ z, Nb k z r n → Q z S) → w ρ S Q
section
variable {wa wb : WD} {wl : WL} {ρ : DEnv} {S : MS} {k l : Bool} {r s : Rat} {n m : Nat} {x : D}
theorem ne_var {i : Nat} (h : ρ[i]? = some (some x)) (hx : Nb k x r n) : NE (wVar i) ρ S k r n := fun Q q => by
  unfold wVar
  rw [h]
  exact q _ hx
theorem ne_int {i : Int} (h0 : 0 < n) (h : i.natAbs < 2 ^ n) : NE (wC (.int i)) ρ S false (i : Rat) n := fun Q q => q _ (.int h0 h)
theorem ne_add (ha : NE wa ρ S k r n) (hb : NE wb ρ S l s m) (hn : n ≤ 2000) (hm : m ≤ 2000) : NE (wOp (oU2 iAdd "Ratio" w_add w_radd) wa wb) ρ S (k || l) (r + s) (n + m + 1) := fun Q q => ha _ fun x hx => hb _ fun y hy => g_add hx hy hn hm q
theorem ne_sub (ha : NE wa ρ S k r n) (hb : NE wb ρ S l s m) (hn : n ≤ 2000) (hm : m ≤ 2000) : NE (wOp (oU2 iSub "Ratio" w_sub w_rsub) wa wb) ρ S (k || l) (r - s) (n + m + 1) := fun Q q => ha _ fun x hx => hb _ fun y hy => g_sub hx hy hn hm q
theorem ne_mul (ha : NE wa ρ S k r n) (hb : NE wb ρ S l s m) (hn : n ≤ 2000) (hm : m ≤ 2000) : NE (wOp (oU2 iMul "Ratio" w_mul w_rmul) wa wb) ρ S (k || l) (r * s) (n + m) := fun Q q => ha _ fun x hx => hb _ fun y hy => g_mul hx hy hn hm q
theorem ne_neg (ha : NE wa ρ S k r n) (hn : n ≤ 2000) : NE (wUn (oUn1 iNeg "Ratio" w_neg) wa) ρ S k (-r) n := fun Q q => ha _ fun x hx => g_neg hx hn q
theorem ne_abs (ha : NE wa ρ S k r n) (hn : n ≤ 2000) : NE (wCB (oL1 iAbs "Ratio" w_abs) (wCons wa wNil)) ρ S k (rabs r) n := fun Q q => ha _ fun x hx => g_absA hx hn q
theorem ne_pow {e : Int} (ha : NE wa ρ S k r n) (h0 : 0 < n) (e0 : 0 ≤ e) (e1 : e ≤ 64) (hz : e.toNat * n ≤ 2000) (hn : n ≤ 2000) : NE (wOp (oU2 iPow "Ratio" w_pow wNo) wa (wC (.int e))) ρ S k (r ^ e.toNat) (e.toNat * n + 1) := fun Q q => ha _ fun x hx => g_powA hx h0 e0 e1 hz hn q
theorem ne_quo (ha : NE wa ρ S k r n) (hb : NE wb ρ S l s m) (hn : n ≤ 2000) (hm : m ≤ 2000) (hs : s ≠ 0) : NE (wCall 2 w_quotient (wCons wa (wCons wb wNil))) ρ S true (r / s) (n + m) := fun Q q => ha _ fun x hx => hb _ fun y hy => ⟨rfl, g_quo hx hy hn hm hs q⟩
/-- pairs of equals, lists of them -/
def GE (w : WD) (ρ : DEnv) (S : MS) : Prop := ∀ Q : D → MS → Prop, (∀ d, Good2 d → Q d S) → w ρ S Q
theorem ge_pair (ha : NE wa ρ S true r n) (hb : NE wb ρ S l s m) (e : r = s) : GE (wTup (wCons wa (wCons wb wNil))) ρ S := fun Q q => ha _ fun x hx => hb _ fun y hy => ⟨line5 (by simp), q _ (good2 hx hy e)⟩
def LE (wl : WL) (ρ : DEnv) (S : MS) (n : Nat) : Prop := ∀ Q : List D → MS → Prop, (∀ ds, AllG ds → ds.length = n → Q ds S) → wl ρ S Q
theorem le_nil : LE wNil ρ S 0 := fun Q q => q [] trivial rfl
theorem le_cons (ha : GE wa ρ S) (hb : LE wl ρ S n) : LE (wCons wa wl) ρ S (n + 1) := fun Q q => ha _ fun d gd => hb _ fun ds gs hl => q (d :: ds) ⟨gd, gs⟩ (congrArg Nat.succ hl)
def LL (w : WD) (ρ : DEnv) (S : MS) (n : Nat) : Prop := ∀ Q : D → MS → Prop, (∀ ds, AllG ds → ds.length = n → Q (.lst ds) S) → w ρ S Q
theorem ll_lst (h : LE wl ρ S n) (hn : n ≤ 100) : LL (wLst wl) ρ S n := fun Q q => h _ fun ds gs hl => ⟨line5 (by rw [hl]; omega), q ds gs hl⟩
theorem ll_cat {i : Nat} {ds : List D} (h : ρ[i]? = some (some (.lst ds))) (g : AllG ds) (hl : ds.length = n) (hb : LL wb ρ S m) (hn : n + m ≤ 100) : LL (wOp oCatL (wVar i) wb) ρ S (n + m) := fun Q q => by
  unfold wOp wVar
  rw [h]
  exact hb _ fun es ge le => ⟨_, _, rfl, rfl, line5 (by rw [hl, le]; omega), q _ (g.app ge) (by rw [List.length_append, hl, le])⟩
end

def w_ring : WF := fun ds S Q => match ds with
  | [x, y, z] => ∃ r s t l l', Nb true x r 141 ∧ Nb l y s 141 ∧ Nb l' z t 141 ∧ ∀ S', Pre S S' → Q (.bl true) S'
  | _ => False
theorem sc__law_ring_right : FnScope ["a", "b", "c", "rows", "told", "due"] ["a", "b", "c"] (defScope s__law_ring_right) := ⟨rfl, rfl, rfl, by decide +kernel, rfl, by decide +kernel, by decide +kernel⟩
theorem ok__law_ring_right (T : Tx K mg) : FnOk P w K mg base CX0 13 T.f__law_ring_right T.fd__law_ring_right ["a", "b", "c"] (spW ⟨K, mg⟩ 3 w_ring) := by
  refine fnD (k := 12) T.F__law_ring_right sc__law_ring_right (fun cdv A outer s H E hr => ⟨_, (dss_cons (ds_set (i := 3) sc__law_ring_right.nd (d_lst (da_cons (d_tup (da_cons (d_op (OpR.or op_add (OpR.or (op_ownB (op := .Add) T.own T.M_R_add T.M_R_radd.at_ (.inr ⟨_, rfl⟩) T.fi_add T.ri_add (ok_R_add T) (hr.mono (by decide)) T.b_R_add pass0) (op_ownI (op := .Add) T.own T.M_R_add T.M_R_radd PySem.F.slot_int_add PySem.F.fills_int_add (fun Q' h1 h2 q => dec_add Q' h1 h2 q) (ok_R_radd T) (hr.mono (by decide)) T.b_R_radd pass0))) (snd_U2 snd_iAdd T.g_Ratio) (dv 0) (dv 1)) (da_cons (d_op (OpR.or op_add (OpR.or (op_ownB (op := .Add) T.own T.M_R_add T.M_R_radd.at_ (.inr ⟨_, rfl⟩) T.fi_add T.ri_add (ok_R_add T) (hr.mono (by decide)) T.b_R_add pass0) (op_ownI (op := .Add) T.own T.M_R_add T.M_R_radd PySem.F.slot_int_add PySem.F.fills_int_add (fun Q' h1 h2 q => dec_add Q' h1 h2 q) (ok_R_radd T) (hr.mono (by decide)) T.b_R_radd pass0))) (snd_U2 snd_iAdd T.g_Ratio) (dv 1) (dv 0)) da_nil))) (da_cons (d_tup (da_cons (d_op (OpR.or op_mulW (OpR.or (op_ownB (op := .Mult) T.own T.M_R_mul T.M_R_rmul.at_ (.inr ⟨_, rfl⟩) T.fi_mul T.ri_mul (ok_R_mul T) (hr.mono (by decide)) T.b_R_mul pass0) (op_ownI (op := .Mult) T.own T.M_R_mul T.M_R_rmul PySem.F.slot_int_mul PySem.F.fills_int_mul (fun Q' h1 h2 q => dec_mul Q' h1 h2 q) (ok_R_rmul T) (hr.mono (by decide)) T.b_R_rmul pass0))) (snd_U2 snd_iMul T.g_Ratio) (dv 0) (dv 1)) (da_cons (d_op (OpR.or op_mulW (OpR.or (op_ownB (op := .Mult) T.own T.M_R_mul T.M_R_rmul.at_ (.inr ⟨_, rfl⟩) T.fi_mul T.ri_mul (ok_R_mul T) (hr.mono (by decide)) T.b_R_mul pass0) (op_ownI (op := .Mult) T.own T.M_R_mul T.M_R_rmul PySem.F.slot_int_mul PySem.F.fills_int_mul (fun Q' h1 h2 q => dec_mul Q' h1 h2 q) (ok_R_rmul T) (hr.mono (by decide)) T.b_R_rmul pass0))) (snd_U2 snd_iMul T.g_Ratio) (dv 1) (dv 0)) da_nil))) (da_cons (d_tup (da_cons (d_op (OpR.or op_add (OpR.or (op_ownB (op := .Add) T.own T.M_R_add T.M_R_radd.at_ (.inr ⟨_, rfl⟩) T.fi_add T.ri_add (ok_R_add T) (hr.mono (by decide)) T.b_R_add pass0) (op_ownI (op := .Add) T.own T.M_R_add T.M_R_radd PySem.F.slot_int_add PySem.F.fills_int_add (fun Q' h1 h2 q => dec_add Q' h1 h2 q) (ok_R_radd T) (hr.mono (by decide)) T.b_R_radd pass0))) (snd_U2 snd_iAdd T.g_Ratio) (d_op (OpR.or op_add (OpR.or (op_ownB (op := .Add) T.own T.M_R_add T.M_R_radd.at_ (.inr ⟨_, rfl⟩) T.fi_add T.ri_add (ok_R_add T) (hr.mono (by decide)) T.b_R_add pass0) (op_ownI (op := .Add) T.own T.M_R_add T.M_R_radd PySem.F.slot_int_add PySem.F.fills_int_add (fun Q' h1 h2 q => dec_add Q' h1 h2 q) (ok_R_radd T) (hr.mono (by decide)) T.b_R_radd pass0))) (snd_U2 snd_iAdd T.g_Ratio) (dv 0) (dv 1)) (dv 2)) (da_cons (d_op (OpR.or op_add (OpR.or (op_ownB (op := .Add) T.own T.M_R_add T.M_R_radd.at_ (.inr ⟨_, rfl⟩) T.fi_add T.ri_add (ok_R_add T) (hr.mono (by decide)) T.b_R_add pass0) (op_ownI (op := .Add) T.own T.M_R_add T.M_R_radd PySem.F.slot_int_add PySem.F.fills_int_add (fun Q' h1 h2 q => dec_add Q' h1 h2 q) (ok_R_radd T) (hr.mono (by decide)) T.b_R_radd pass0))) (snd_U2 snd_iAdd T.g_Ratio) (dv 0) (d_op (OpR.or op_add (OpR.or (op_ownB (op := .Add) T.own T.M_R_add T.M_R_radd.at_ (.inr ⟨_, rfl⟩) T.fi_add T.ri_add (ok_R_add T) (hr.mono (by decide)) T.b_R_add pass0) (op_ownI (op := .Add) T.own T.M_R_add T.M_R_radd PySem.F.slot_int_add PySem.F.fills_int_add (fun Q' h1 h2 q => dec_add Q' h1 h2 q) (ok_R_radd T) (hr.mono (by decide)) T.b_R_radd pass0))) (snd_U2 snd_iAdd T.g_Ratio) (dv 1) (dv 2))) da_nil))) (da_cons (d_tup (da_cons (d_op (OpR.or op_mulW (OpR.or (op_ownB (op := .Mult) T.own T.M_R_mul T.M_R_rmul.at_ (.inr ⟨_, rfl⟩) T.fi_mul T.ri_mul (ok_R_mul T) (hr.mono (by decide)) T.b_R_mul pass0) (op_ownI (op := .Mult) T.own T.M_R_mul T.M_R_rmul PySem.F.slot_int_mul PySem.F.fills_int_mul (fun Q' h1 h2 q => dec_mul Q' h1 h2 q) (ok_R_rmul T) (hr.mono (by decide)) T.b_R_rmul pass0))) (snd_U2 snd_iMul T.g_Ratio) (d_op (OpR.or op_mulW (OpR.or (op_ownB (op := .Mult) T.own T.M_R_mul T.M_R_rmul.at_ (.inr ⟨_, rfl⟩) T.fi_mul T.ri_mul (ok_R_mul T) (hr.mono (by decide)) T.b_R_mul pass0) (op_ownI (op := .Mult) T.own T.M_R_mul T.M_R_rmul PySem.F.slot_int_mul PySem.F.fills_int_mul (fun Q' h1 h2 q => dec_mul Q' h1 h2 q) (ok_R_rmul T) (hr.mono (by decide)) T.b_R_rmul pass0))) (snd_U2 snd_iMul T.g_Ratio) (dv 0) (dv 1)) (dv 2)) (da_cons (d_op (OpR.or op_mulW (OpR.or (op_ownB (op := .Mult) T.own T.M_R_mul T.M_R_rmul.at_ (.inr ⟨_, rfl⟩) T.fi_mul T.ri_mul (ok_R_mul T) (hr.mono (by decide)) T.b_R_mul pass0) (op_ownI (op := .Mult) T.own T.M_R_mul T.M_R_rmul PySem.F.slot_int_mul PySem.F.fills_int_mul (fun Q' h1 h2 q => dec_mul Q' h1 h2 q) (ok_R_rmul T) (hr.mono (by decide)) T.b_R_rmul pass0))) (snd_U2 snd_iMul T.g_Ratio) (dv 0) (d_op (OpR.or op_mulW (OpR.or (op_ownB (op := .Mult) T.own T.M_R_mul T.M_R_rmul.at_ (.inr ⟨_, rfl⟩) T.fi_mul T.ri_mul (ok_R_mul T) (hr.mono (by decide)) T.b_R_mul pass0) (op_ownI (op := .Mult) T.own T.M_R_mul T.M_R_rmul PySem.F.slot_int_mul PySem.F.fills_int_mul (fun Q' h1 h2 q => dec_mul Q' h1 h2 q) (ok_R_rmul T) (hr.mono (by decide)) T.b_R_rmul pass0))) (snd_U2 snd_iMul T.g_Ratio) (dv 1) (dv 2))) da_nil))) da_nil))))))
  (dss_cons (ds_set (i := 3) sc__law_ring_right.nd (d_op op_cat snd_catL (dv 3) (d_lst (da_cons (d_tup (da_cons (d_op (OpR.or op_mulW (OpR.or (op_ownB (op := .Mult) T.own T.M_R_mul T.M_R_rmul.at_ (.inr ⟨_, rfl⟩) T.fi_mul T.ri_mul (ok_R_mul T) (hr.mono (by decide)) T.b_R_mul pass0) (op_ownI (op := .Mult) T.own T.M_R_mul T.M_R_rmul PySem.F.slot_int_mul PySem.F.fills_int_mul (fun Q' h1 h2 q => dec_mul Q' h1 h2 q) (ok_R_rmul T) (hr.mono (by decide)) T.b_R_rmul pass0))) (snd_U2 snd_iMul T.g_Ratio) (dv 0) (d_op (OpR.or op_add (OpR.or (op_ownB (op := .Add) T.own T.M_R_add T.M_R_radd.at_ (.inr ⟨_, rfl⟩) T.fi_add T.ri_add (ok_R_add T) (hr.mono (by decide)) T.b_R_add pass0) (op_ownI (op := .Add) T.own T.M_R_add T.M_R_radd PySem.F.slot_int_add PySem.F.fills_int_add (fun Q' h1 h2 q => dec_add Q' h1 h2 q) (ok_R_radd T) (hr.mono (by decide)) T.b_R_radd pass0))) (snd_U2 snd_iAdd T.g_Ratio) (dv 1) (dv 2))) (da_cons (d_op (OpR.or op_add (OpR.or (op_ownB (op := .Add) T.own T.M_R_add T.M_R_radd.at_ (.inr ⟨_, rfl⟩) T.fi_add T.ri_add (ok_R_add T) (hr.mono (by decide)) T.b_R_add pass0) (op_ownI (op := .Add) T.own T.M_R_add T.M_R_radd PySem.F.slot_int_add PySem.F.fills_int_add (fun Q' h1 h2 q => dec_add Q' h1 h2 q) (ok_R_radd T) (hr.mono (by decide)) T.b_R_radd pass0))) (snd_U2 snd_iAdd T.g_Ratio) (d_op (OpR.or op_mulW (OpR.or (op_ownB (op := .Mult) T.own T.M_R_mul T.M_R_rmul.at_ (.inr ⟨_, rfl⟩) T.fi_mul T.ri_mul (ok_R_mul T) (hr.mono (by decide)) T.b_R_mul pass0) (op_ownI (op := .Mult) T.own T.M_R_mul T.M_R_rmul PySem.F.slot_int_mul PySem.F.fills_int_mul (fun Q' h1 h2 q => dec_mul Q' h1 h2 q) (ok_R_rmul T) (hr.mono (by decide)) T.b_R_rmul pass0))) (snd_U2 snd_iMul T.g_Ratio) (dv 0) (dv 1)) (d_op (OpR.or op_mulW (OpR.or (op_ownB (op := .Mult) T.own T.M_R_mul T.M_R_rmul.at_ (.inr ⟨_, rfl⟩) T.fi_mul T.ri_mul (ok_R_mul T) (hr.mono (by decide)) T.b_R_mul pass0) (op_ownI (op := .Mult) T.own T.M_R_mul T.M_R_rmul PySem.F.slot_int_mul PySem.F.fills_int_mul (fun Q' h1 h2 q => dec_mul Q' h1 h2 q) (ok_R_rmul T) (hr.mono (by decide)) T.b_R_rmul pass0))) (snd_U2 snd_iMul T.g_Ratio) (dv 0) (dv 2))) da_nil))) (da_cons (d_tup (da_cons (d_op (OpR.or op_sub (OpR.or (op_ownB (op := .Sub) T.own T.M_R_sub T.M_R_rsub.at_ (.inr ⟨_, rfl⟩) T.fi_sub T.ri_sub (ok_R_sub T) (hr.mono (by decide)) T.b_R_sub pass0) (op_ownI (op := .Sub) T.own T.M_R_sub T.M_R_rsub PySem.F.slot_int_sub PySem.F.fills_int_sub (fun Q' h1 h2 q => dec_sub Q' h1 h2 q) (ok_R_rsub T) (hr.mono (by decide)) T.b_R_rsub pass0))) (snd_U2 snd_iSub T.g_Ratio) (dv 0) (dv 1)) (da_cons (d_op (OpR.or op_add (OpR.or (op_ownB (op := .Add) T.own T.M_R_add T.M_R_radd.at_ (.inr ⟨_, rfl⟩) T.fi_add T.ri_add (ok_R_add T) (hr.mono (by decide)) T.b_R_add pass0) (op_ownI (op := .Add) T.own T.M_R_add T.M_R_radd PySem.F.slot_int_add PySem.F.fills_int_add (fun Q' h1 h2 q => dec_add Q' h1 h2 q) (ok_R_radd T) (hr.mono (by decide)) T.b_R_radd pass0))) (snd_U2 snd_iAdd T.g_Ratio) (dv 0) (d_un (DL.UnR.or un_neg (un_ownNeg T.M_R_neg (ok_R_neg T) (hr.mono (by decide)) T.b_R_neg pass0)) (snd_neg1 T.g_Ratio) (dv 1))) da_nil))) (da_cons (d_tup (da_cons (d_op (OpR.or op_sub (OpR.or (op_ownB (op := .Sub) T.own T.M_R_sub T.M_R_rsub.at_ (.inr ⟨_, rfl⟩) T.fi_sub T.ri_sub (ok_R_sub T) (hr.mono (by decide)) T.b_R_sub pass0) (op_ownI (op := .Sub) T.own T.M_R_sub T.M_R_rsub PySem.F.slot_int_sub PySem.F.fills_int_sub (fun Q' h1 h2 q => dec_sub Q' h1 h2 q) (ok_R_rsub T) (hr.mono (by decide)) T.b_R_rsub pass0))) (snd_U2 snd_iSub T.g_Ratio) (dv 0) (dv 1)) (da_cons (d_un (DL.UnR.or un_neg (un_ownNeg T.M_R_neg (ok_R_neg T) (hr.mono (by decide)) T.b_R_neg pass0)) (snd_neg1 T.g_Ratio) (d_op (OpR.or op_sub (OpR.or (op_ownB (op := .Sub) T.own T.M_R_sub T.M_R_rsub.at_ (.inr ⟨_, rfl⟩) T.fi_sub T.ri_sub (ok_R_sub T) (hr.mono (by decide)) T.b_R_sub pass0) (op_ownI (op := .Sub) T.own T.M_R_sub T.M_R_rsub PySem.F.slot_int_sub PySem.F.fills_int_sub (fun Q' h1 h2 q => dec_sub Q' h1 h2 q) (ok_R_rsub T) (hr.mono (by decide)) T.b_R_rsub pass0))) (snd_U2 snd_iSub T.g_Ratio) (dv 1) (dv 0))) da_nil))) (da_cons (d_tup (da_cons (d_op (OpR.or op_add (OpR.or (op_ownB (op := .Add) T.own T.M_R_add T.M_R_radd.at_ (.inr ⟨_, rfl⟩) T.fi_add T.ri_add (ok_R_add T) (hr.mono (by decide)) T.b_R_add pass0) (op_ownI (op := .Add) T.own T.M_R_add T.M_R_radd PySem.F.slot_int_add PySem.F.fills_int_add (fun Q' h1 h2 q => dec_add Q' h1 h2 q) (ok_R_radd T) (hr.mono (by decide)) T.b_R_radd pass0))) (snd_U2 snd_iAdd T.g_Ratio) (dv 0) d_int) (da_cons (dv 0) da_nil))) (da_cons (d_tup (da_cons (d_op (OpR.or op_mulW (OpR.or (op_ownB (op := .Mult) T.own T.M_R_mul T.M_R_rmul.at_ (.inr ⟨_, rfl⟩) T.fi_mul T.ri_mul (ok_R_mul T) (hr.mono (by decide)) T.b_R_mul pass0) (op_ownI (op := .Mult) T.own T.M_R_mul T.M_R_rmul PySem.F.slot_int_mul PySem.F.fills_int_mul (fun Q' h1 h2 q => dec_mul Q' h1 h2 q) (ok_R_rmul T) (hr.mono (by decide)) T.b_R_rmul pass0))) (snd_U2 snd_iMul T.g_Ratio) d_int (dv 0)) (da_cons (dv 0) da_nil))) da_nil))))))))
  (dss_cons (ds_set (i := 3) sc__law_ring_right.nd (d_op op_cat snd_catL (dv 3) (d_lst (da_cons (d_tup (da_cons (d_op (OpR.or op_mulW (OpR.or (op_ownB (op := .Mult) T.own T.M_R_mul T.M_R_rmul.at_ (.inr ⟨_, rfl⟩) T.fi_mul T.ri_mul (ok_R_mul T) (hr.mono (by decide)) T.b_R_mul pass0) (op_ownI (op := .Mult) T.own T.M_R_mul T.M_R_rmul PySem.F.slot_int_mul PySem.F.fills_int_mul (fun Q' h1 h2 q => dec_mul Q' h1 h2 q) (ok_R_rmul T) (hr.mono (by decide)) T.b_R_rmul pass0))) (snd_U2 snd_iMul T.g_Ratio) (dv 0) d_int) (da_cons d_int da_nil))) (da_cons (d_tup (da_cons (d_op (OpR.or op_powW (op_ownB (op := .Pow) T.own T.M_R_pow T.nr_pow (.inl rfl) T.fi_pow T.ri_pow (ok_R_pow T) (hr.mono (by decide)) T.b_R_pow pass0)) (snd_U1 snd_iPow T.g_Ratio) (d_op (OpR.or op_add (OpR.or (op_ownB (op := .Add) T.own T.M_R_add T.M_R_radd.at_ (.inr ⟨_, rfl⟩) T.fi_add T.ri_add (ok_R_add T) (hr.mono (by decide)) T.b_R_add pass0) (op_ownI (op := .Add) T.own T.M_R_add T.M_R_radd PySem.F.slot_int_add PySem.F.fills_int_add (fun Q' h1 h2 q => dec_add Q' h1 h2 q) (ok_R_radd T) (hr.mono (by decide)) T.b_R_radd pass0))) (snd_U2 snd_iAdd T.g_Ratio) (dv 0) (dv 1)) d_int) (da_cons (d_op (OpR.or op_add (OpR.or (op_ownB (op := .Add) T.own T.M_R_add T.M_R_radd.at_ (.inr ⟨_, rfl⟩) T.fi_add T.ri_add (ok_R_add T) (hr.mono (by decide)) T.b_R_add pass0) (op_ownI (op := .Add) T.own T.M_R_add T.M_R_radd PySem.F.slot_int_add PySem.F.fills_int_add (fun Q' h1 h2 q => dec_add Q' h1 h2 q) (ok_R_radd T) (hr.mono (by decide)) T.b_R_radd pass0))) (snd_U2 snd_iAdd T.g_Ratio) (d_op (OpR.or op_add (OpR.or (op_ownB (op := .Add) T.own T.M_R_add T.M_R_radd.at_ (.inr ⟨_, rfl⟩) T.fi_add T.ri_add (ok_R_add T) (hr.mono (by decide)) T.b_R_add pass0) (op_ownI (op := .Add) T.own T.M_R_add T.M_R_radd PySem.F.slot_int_add PySem.F.fills_int_add (fun Q' h1 h2 q => dec_add Q' h1 h2 q) (ok_R_radd T) (hr.mono (by decide)) T.b_R_radd pass0))) (snd_U2 snd_iAdd T.g_Ratio) (d_op (OpR.or op_powW (op_ownB (op := .Pow) T.own T.M_R_pow T.nr_pow (.inl rfl) T.fi_pow T.ri_pow (ok_R_pow T) (hr.mono (by decide)) T.b_R_pow pass0)) (snd_U1 snd_iPow T.g_Ratio) (dv 0) d_int) (d_op (OpR.or op_mulW (OpR.or (op_ownB (op := .Mult) T.own T.M_R_mul T.M_R_rmul.at_ (.inr ⟨_, rfl⟩) T.fi_mul T.ri_mul (ok_R_mul T) (hr.mono (by decide)) T.b_R_mul pass0) (op_ownI (op := .Mult) T.own T.M_R_mul T.M_R_rmul PySem.F.slot_int_mul PySem.F.fills_int_mul (fun Q' h1 h2 q => dec_mul Q' h1 h2 q) (ok_R_rmul T) (hr.mono (by decide)) T.b_R_rmul pass0))) (snd_U2 snd_iMul T.g_Ratio) (d_op (OpR.or op_mulW (OpR.or (op_ownB (op := .Mult) T.own T.M_R_mul T.M_R_rmul.at_ (.inr ⟨_, rfl⟩) T.fi_mul T.ri_mul (ok_R_mul T) (hr.mono (by decide)) T.b_R_mul pass0) (op_ownI (op := .Mult) T.own T.M_R_mul T.M_R_rmul PySem.F.slot_int_mul PySem.F.fills_int_mul (fun Q' h1 h2 q => dec_mul Q' h1 h2 q) (ok_R_rmul T) (hr.mono (by decide)) T.b_R_rmul pass0))) (snd_U2 snd_iMul T.g_Ratio) d_int (dv 0)) (dv 1))) (d_op (OpR.or op_powW (op_ownB (op := .Pow) T.own T.M_R_pow T.nr_pow (.inl rfl) T.fi_pow T.ri_pow (ok_R_pow T) (hr.mono (by decide)) T.b_R_pow pass0)) (snd_U1 snd_iPow T.g_Ratio) (dv 1) d_int)) da_nil))) (da_cons (d_tup (da_cons (d_op (OpR.or op_mulW (OpR.or (op_ownB (op := .Mult) T.own T.M_R_mul T.M_R_rmul.at_ (.inr ⟨_, rfl⟩) T.fi_mul T.ri_mul (ok_R_mul T) (hr.mono (by decide)) T.b_R_mul pass0) (op_ownI (op := .Mult) T.own T.M_R_mul T.M_R_rmul PySem.F.slot_int_mul PySem.F.fills_int_mul (fun Q' h1 h2 q => dec_mul Q' h1 h2 q) (ok_R_rmul T) (hr.mono (by decide)) T.b_R_rmul pass0))) (snd_U2 snd_iMul T.g_Ratio) (d_op (OpR.or op_powW (op_ownB (op := .Pow) T.own T.M_R_pow T.nr_pow (.inl rfl) T.fi_pow T.ri_pow (ok_R_pow T) (hr.mono (by decide)) T.b_R_pow pass0)) (snd_U1 snd_iPow T.g_Ratio) (dv 0) d_int) (d_op (OpR.or op_powW (op_ownB (op := .Pow) T.own T.M_R_pow T.nr_pow (.inl rfl) T.fi_pow T.ri_pow (ok_R_pow T) (hr.mono (by decide)) T.b_R_pow pass0)) (snd_U1 snd_iPow T.g_Ratio) (dv 0) d_int)) (da_cons (d_op (OpR.or op_powW (op_ownB (op := .Pow) T.own T.M_R_pow T.nr_pow (.inl rfl) T.fi_pow T.ri_pow (ok_R_pow T) (hr.mono (by decide)) T.b_R_pow pass0)) (snd_U1 snd_iPow T.g_Ratio) (dv 0) d_int) da_nil))) da_nil))))))
  (dss_cons (ds_set (i := 3) sc__law_ring_right.nd (d_op op_cat snd_catL (dv 3) (d_lst (da_cons (d_tup (da_cons (d_op (OpR.or op_powW (op_ownB (op := .Pow) T.own T.M_R_pow T.nr_pow (.inl rfl) T.fi_pow T.ri_pow (ok_R_pow T) (hr.mono (by decide)) T.b_R_pow pass0)) (snd_U1 snd_iPow T.g_Ratio) (d_op (OpR.or op_mulW (OpR.or (op_ownB (op := .Mult) T.own T.M_R_mul T.M_R_rmul.at_ (.inr ⟨_, rfl⟩) T.fi_mul T.ri_mul (ok_R_mul T) (hr.mono (by decide)) T.b_R_mul pass0) (op_ownI (op := .Mult) T.own T.M_R_mul T.M_R_rmul PySem.F.slot_int_mul PySem.F.fills_int_mul (fun Q' h1 h2 q => dec_mul Q' h1 h2 q) (ok_R_rmul T) (hr.mono (by decide)) T.b_R_rmul pass0))) (snd_U2 snd_iMul T.g_Ratio) (dv 0) (dv 1)) d_int) (da_cons (d_op (OpR.or op_mulW (OpR.or (op_ownB (op := .Mult) T.own T.M_R_mul T.M_R_rmul.at_ (.inr ⟨_, rfl⟩) T.fi_mul T.ri_mul (ok_R_mul T) (hr.mono (by decide)) T.b_R_mul pass0) (op_ownI (op := .Mult) T.own T.M_R_mul T.M_R_rmul PySem.F.slot_int_mul PySem.F.fills_int_mul (fun Q' h1 h2 q => dec_mul Q' h1 h2 q) (ok_R_rmul T) (hr.mono (by decide)) T.b_R_rmul pass0))) (snd_U2 snd_iMul T.g_Ratio) (d_op (OpR.or op_powW (op_ownB (op := .Pow) T.own T.M_R_pow T.nr_pow (.inl rfl) T.fi_pow T.ri_pow (ok_R_pow T) (hr.mono (by decide)) T.b_R_pow pass0)) (snd_U1 snd_iPow T.g_Ratio) (dv 0) d_int) (d_op (OpR.or op_powW (op_ownB (op := .Pow) T.own T.M_R_pow T.nr_pow (.inl rfl) T.fi_pow T.ri_pow (ok_R_pow T) (hr.mono (by decide)) T.b_R_pow pass0)) (snd_U1 snd_iPow T.g_Ratio) (dv 1) d_int)) da_nil))) (da_cons (d_tup (da_cons (d_op (OpR.or op_mulW (OpR.or (op_ownB (op := .Mult) T.own T.M_R_mul T.M_R_rmul.at_ (.inr ⟨_, rfl⟩) T.fi_mul T.ri_mul (ok_R_mul T) (hr.mono (by decide)) T.b_R_mul pass0) (op_ownI (op := .Mult) T.own T.M_R_mul T.M_R_rmul PySem.F.slot_int_mul PySem.F.fills_int_mul (fun Q' h1 h2 q => dec_mul Q' h1 h2 q) (ok_R_rmul T) (hr.mono (by decide)) T.b_R_rmul pass0))) (snd_U2 snd_iMul T.g_Ratio) (d_callB (DL.CallR.or call_abs (call_absOwn T.M_R_abs (ok_R_abs T) (hr.mono (by decide)) T.b_R_abs)) (snd_abs1 T.g_Ratio) T.z_abs (da_cons (dv 0) da_nil) (hv := bt_abs)) (d_callB (DL.CallR.or call_abs (call_absOwn T.M_R_abs (ok_R_abs T) (hr.mono (by decide)) T.b_R_abs)) (snd_abs1 T.g_Ratio) T.z_abs (da_cons (dv 1) da_nil) (hv := bt_abs))) (da_cons (d_callB (DL.CallR.or call_abs (call_absOwn T.M_R_abs (ok_R_abs T) (hr.mono (by decide)) T.b_R_abs)) (snd_abs1 T.g_Ratio) T.z_abs (da_cons (d_op (OpR.or op_mulW (OpR.or (op_ownB (op := .Mult) T.own T.M_R_mul T.M_R_rmul.at_ (.inr ⟨_, rfl⟩) T.fi_mul T.ri_mul (ok_R_mul T) (hr.mono (by decide)) T.b_R_mul pass0) (op_ownI (op := .Mult) T.own T.M_R_mul T.M_R_rmul PySem.F.slot_int_mul PySem.F.fills_int_mul (fun Q' h1 h2 q => dec_mul Q' h1 h2 q) (ok_R_rmul T) (hr.mono (by decide)) T.b_R_rmul pass0))) (snd_U2 snd_iMul T.g_Ratio) (dv 0) (dv 1)) da_nil) (hv := bt_abs)) da_nil))) (da_cons (d_tup (da_cons (d_op (OpR.or op_powW (op_ownB (op := .Pow) T.own T.M_R_pow T.nr_pow (.inl rfl) T.fi_pow T.ri_pow (ok_R_pow T) (hr.mono (by decide)) T.b_R_pow pass0)) (snd_U1 snd_iPow T.g_Ratio) (dv 0) d_int) (da_cons (d_op (OpR.or op_powW (op_ownB (op := .Pow) T.own T.M_R_pow T.nr_pow (.inl rfl) T.fi_pow T.ri_pow (ok_R_pow T) (hr.mono (by decide)) T.b_R_pow pass0)) (snd_U1 snd_iPow T.g_Ratio) (d_callB (DL.CallR.or call_abs (call_absOwn T.M_R_abs (ok_R_abs T) (hr.mono (by decide)) T.b_R_abs)) (snd_abs1 T.g_Ratio) T.z_abs (da_cons (dv 0) da_nil) (hv := bt_abs)) d_int) da_nil))) da_nil))))))
  (dss_one (ds_ret (d_cmp (op_eqD hr.units) snd_eqD (d_lc (own := [("told", 4), ("due", 5)]) rfl sc__law_ring_right.nd (dv 3) (blkOk_by (own := [("told", 4), ("due", 5)]) (N := ["a", "b", "c", "rows", "told", "due"]) (sc := defScope s__law_ring_right) (by decide +kernel)) (gown_two (by decide) (by decide)) (fun _ _ _ _ _ => (dg_tup (n := 2) rfl (dgs_cons (dg_name (i := 4) sc__law_ring_right.nd) (dgs_cons (dg_name (i := 5) sc__law_ring_right.nd) dgs_nil)))) (fun _ _ _ _ _ => (dts_one (PDW.pt (dw_or (dt_not (dt_cmp (OpR.or op_eq (op_ownCmp (op := .Eq) (fun _ _ => rfl) T.own T.M_R_eq (ok_R_eq T) (hr.mono (by decide)) T.b_R_eq pass0)) (snd_U1 snd_iEq T.g_Ratio) (dv 4) (dv 5) (nomark _))) (dw_or1 (dt_cmp (OpR.or op_ne (op_ownCmp (op := .NotEq) (fun _ _ => rfl) T.own T.M_R_ne (ok_R_ne T) (hr.mono (by decide)) T.b_R_ne pass0)) (snd_U1 snd_iNe T.g_Ratio) (dv 4) (dv 5) (nomark _))))))) (fun _ _ _ _ _ => d_int)) (d_lst da_nil) (nomark _))))))))⟩) (fun ds S Q hl h => ?_)
  match ds, h with
  | [x, y, z], ⟨r, s, t, l, l', ha, hb, hc, h⟩ =>
    simp only [startD, List.map_cons, List.map_nil, List.length_cons, List.length_nil, List.cons_append, List.nil_append, List.replicate, Nat.reduceAdd, Nat.reduceSub]
    unfold sSeq sAsg gwName
    refine (ll_lst (le_cons (ge_pair (ne_add (ne_var (i := 0) rfl ha) (ne_var (i := 1) rfl hb) (by decide) (by decide)) (ne_add (ne_var (i := 1) rfl hb) (ne_var (i := 0) rfl ha) (by decide) (by decide)) (by (try simp only [c0, c1, c2, Int.reduceToNat]); grind))
      (le_cons (ge_pair (ne_mul (ne_var (i := 0) rfl ha) (ne_var (i := 1) rfl hb) (by decide) (by decide)) (ne_mul (ne_var (i := 1) rfl hb) (ne_var (i := 0) rfl ha) (by decide) (by decide)) (by (try simp only [c0, c1, c2, Int.reduceToNat]); grind))
      (le_cons (ge_pair (ne_add (ne_add (ne_var (i := 0) rfl ha) (ne_var (i := 1) rfl hb) (by decide) (by decide)) (ne_var (i := 2) rfl hc) (by decide) (by decide)) (ne_add (ne_var (i := 0) rfl ha) (ne_add (ne_var (i := 1) rfl hb) (ne_var (i := 2) rfl hc) (by decide) (by decide)) (by decide) (by decide)) (by (try simp only [c0, c1, c2, Int.reduceToNat]); grind))
      (le_cons (ge_pair (ne_mul (ne_mul (ne_var (i := 0) rfl ha) (ne_var (i := 1) rfl hb) (by decide) (by decide)) (ne_var (i := 2) rfl hc) (by decide) (by decide)) (ne_mul (ne_var (i := 0) rfl ha) (ne_mul (ne_var (i := 1) rfl hb) (ne_var (i := 2) rfl hc) (by decide) (by decide)) (by decide) (by decide)) (by (try simp only [c0, c1, c2, Int.reduceToNat]); grind))
      le_nil)))) (by decide)) _ fun ds0 g0 n0 => ?_
    try dsimp only [List.set_cons_zero, List.set_cons_succ]
    refine (ll_cat (i := 3) rfl g0 n0 (ll_lst (le_cons (ge_pair (ne_mul (ne_var (i := 0) rfl ha) (ne_add (ne_var (i := 1) rfl hb) (ne_var (i := 2) rfl hc) (by decide) (by decide)) (by decide) (by decide)) (ne_add (ne_mul (ne_var (i := 0) rfl ha) (ne_var (i := 1) rfl hb) (by decide) (by decide)) (ne_mul (ne_var (i := 0) rfl ha) (ne_var (i := 2) rfl hc) (by decide) (by decide)) (by decide) (by decide)) (by (try simp only [c0, c1, c2, Int.reduceToNat]); grind))
      (le_cons (ge_pair (ne_sub (ne_var (i := 0) rfl ha) (ne_var (i := 1) rfl hb) (by decide) (by decide)) (ne_add (ne_var (i := 0) rfl ha) (ne_neg (ne_var (i := 1) rfl hb) (by decide)) (by decide) (by decide)) (by (try simp only [c0, c1, c2, Int.reduceToNat]); grind))
      (le_cons (ge_pair (ne_sub (ne_var (i := 0) rfl ha) (ne_var (i := 1) rfl hb) (by decide) (by decide)) (ne_neg (ne_sub (ne_var (i := 1) rfl hb) (ne_var (i := 0) rfl ha) (by decide) (by decide)) (by decide)) (by (try simp only [c0, c1, c2, Int.reduceToNat]); grind))
      (le_cons (ge_pair (ne_add (ne_var (i := 0) rfl ha) (ne_int (n := 8) (by decide) (by decide)) (by decide) (by decide)) (ne_var (i := 0) rfl ha) (by (try simp only [c0, c1, c2, Int.reduceToNat]); grind))
      (le_cons (ge_pair (ne_mul (ne_int (n := 8) (by decide) (by decide)) (ne_var (i := 0) rfl ha) (by decide) (by decide)) (ne_var (i := 0) rfl ha) (by (try simp only [c0, c1, c2, Int.reduceToNat]); grind))
      le_nil))))) (by decide)) (by decide)) _ fun ds1 g1 n1 => ?_
    try dsimp only [List.set_cons_zero, List.set_cons_succ]
    refine (ll_cat (i := 3) rfl g1 n1 (ll_lst (le_cons (ge_pair (ne_mul (ne_var (i := 0) rfl ha) (ne_int (n := 8) (by decide) (by decide)) (by decide) (by decide)) (ne_int (n := 8) (by decide) (by decide)) (by (try simp only [c0, c1, c2, Int.reduceToNat]); grind))
      (le_cons (ge_pair (ne_pow (ne_add (ne_var (i := 0) rfl ha) (ne_var (i := 1) rfl hb) (by decide) (by decide)) (by decide) (by decide) (by decide) (by decide) (by decide)) (ne_add (ne_add (ne_pow (ne_var (i := 0) rfl ha) (by decide) (by decide) (by decide) (by decide) (by decide)) (ne_mul (ne_mul (ne_int (n := 8) (by decide) (by decide)) (ne_var (i := 0) rfl ha) (by decide) (by decide)) (ne_var (i := 1) rfl hb) (by decide) (by decide)) (by decide) (by decide)) (ne_pow (ne_var (i := 1) rfl hb) (by decide) (by decide) (by decide) (by decide) (by decide)) (by decide) (by decide)) (by (try simp only [c0, c1, c2, Int.reduceToNat]); grind))
      (le_cons (ge_pair (ne_mul (ne_pow (ne_var (i := 0) rfl ha) (by decide) (by decide) (by decide) (by decide) (by decide)) (ne_pow (ne_var (i := 0) rfl ha) (by decide) (by decide) (by decide) (by decide) (by decide)) (by decide) (by decide)) (ne_pow (ne_var (i := 0) rfl ha) (by decide) (by decide) (by decide) (by decide) (by decide)) (by (try simp only [c0, c1, c2, Int.reduceToNat]); grind))
      le_nil))) (by decide)) (by decide)) _ fun ds2 g2 n2 => ?_
    try dsimp only [List.set_cons_zero, List.set_cons_succ]
    refine (ll_cat (i := 3) rfl g2 n2 (ll_lst (le_cons (ge_pair (ne_pow (ne_mul (ne_var (i := 0) rfl ha) (ne_var (i := 1) rfl hb) (by decide) (by decide)) (by decide) (by decide) (by decide) (by decide) (by decide)) (ne_mul (ne_pow (ne_var (i := 0) rfl ha) (by decide) (by decide) (by decide) (by decide) (by decide)) (ne_pow (ne_var (i := 1) rfl hb) (by decide) (by decide) (by decide) (by decide) (by decide)) (by decide) (by decide)) (by (try simp only [c0, c1, c2, Int.reduceToNat]); grind))
      (le_cons (ge_pair (ne_mul (ne_abs (ne_var (i := 0) rfl ha) (by decide)) (ne_abs (ne_var (i := 1) rfl hb) (by decide)) (by decide) (by decide)) (ne_abs (ne_mul (ne_var (i := 0) rfl ha) (ne_var (i := 1) rfl hb) (by decide) (by decide)) (by decide)) (by (try simp only [c0, c1, c2, Int.reduceToNat]); exact rabs_mul _ _))
      (le_cons (ge_pair (ne_pow (ne_var (i := 0) rfl ha) (by decide) (by decide) (by decide) (by decide) (by decide)) (ne_pow (ne_abs (ne_var (i := 0) rfl ha) (by decide)) (by decide) (by decide) (by decide) (by decide) (by decide)) (by (try simp only [c0, c1, c2, Int.reduceToNat]); exact rabs_sq _))
      le_nil))) (by decide)) (by decide)) _ fun ds3 g3 n3 => ?_
    try dsimp only [List.set_cons_zero, List.set_cons_succ]
    simp only [sRet, wOp, wLc, wVar, wLst, wNil, List.length_nil, List.getElem?_cons_zero, List.getElem?_cons_succ]
    refine lcD_skip ⟨by omega, eqNil new_at (h _ pre_new)⟩ ds3 g3 fun d gd kk hk => ?_
    obtain ⟨x', y', r', s', n', m', l2, rfl, hx, hy, rfl⟩ := gd
    simp only [lcStep, gwTup, gwCons, gwNil, wipeD, wOr, wNot, wTest, wOp, wVar, wC, List.length_cons, List.length_nil, Nat.reduceAdd, true_and, List.set_cons_zero, List.set_cons_succ, List.getElem?_cons_zero, List.getElem?_cons_succ]
    refine g_eq hx hy ?_
    simp only [decide_true, Bool.not_true, if_f1]
    refine g_ne hx hy ?_
    simp only [decide_true, Bool.not_true, if_f1]
    exact hk
end
end K1
set_option Elab.async false
set_option linter.all false
set_option maxRecDepth 100000
set_option maxHeartbeats 0
namespace K1
open PySem PySem.Spec PyProof.Rows L2 DL
section
variable {P : Program} {w : World} {K : PySem.W.Frag} {mg : Str → Option Value} {base : Heap}
def wIfT (t : WB) (wa wb : WB) : WB := fun ρ S Q => t ρ S fun c S1 => if c = true then wa ρ S1 Q else wb ρ S1 Q
def tIfT (t ta tb : TT) : TT := fun σ H Q => t σ H fun c H1 => if c = true then ta σ H1 Q else tb σ H1 Q
theorem dt_ifT {X : Cx} {c a b : Expr} {pos : Pos} {tA ta tb : TT} {wA wa wb : WB} (hc : PDT X c tA wA) (ha : PDT X a ta wa) (hb : PDT X b tb wb) : PDT X (.IfExp c a b pos) (tIfT tA ta tb) (wIfT wA wa wb) := by
  refine ⟨⟨fun pins s σ H Q I h => ?_⟩, fun A S σ H ρ Q Q' R E h k => ?_⟩
  · refine isTrue_IfExp (thn (hc.pe.run pins s σ H _ I h) fun d s1 ⟨H1, I1, q1⟩ => ?_)
    cases d with
    | true => exact ha.pe.run pins s1 σ H1 Q I1 q1
    | false => exact hb.pe.run pins s1 σ H1 Q I1 q1
  · refine hc.sd A S σ H ρ _ _ R E h fun c S1 A1 H1 g1 R1 h1 => ?_
    cases c with
    | true => exact iteT (ha.sd A1 S1 σ H1 ρ _ _ R1 (E.mono g1) (by rw [if_pos rfl] at h1; exact h1) (k.mono g1))
    | false => exact iteF (hb.sd A1 S1 σ H1 ρ _ _ R1 (E.mono g1) (by rw [if_neg Bool.false_ne_true] at h1; exact h1) (k.mono g1))
def BE (w : WD) (ρ : DEnv) (S : MS) (b : Bool) : Prop := ∀ Q : D → MS → Prop, Q (.bl b) S → w ρ S Q
def TE (w : WB) (ρ : DEnv) (S : MS) (b : Bool) : Prop := ∀ Q : Bool → MS → Prop, Q b S → w ρ S Q
def IE (w : WD) (ρ : DEnv) (S : MS) (i : Int) : Prop := ∀ Q : D → MS → Prop, Q (.int i) S → w ρ S Q
section
variable {wa wb wc : WD} {ta tb : WB} {wl : WL} {ρ : DEnv} {S : MS} {k l k' : Bool} {r s t : Rat} {n m m' : Nat} {x : D} {a b c : Bool} {i j : Int}
theorem be_eq (ha : NE wa ρ S true r n) (hb : NE wb ρ S l s m) : BE (wOp (oU2 iEq "Ratio" w_eq wNo) wa wb) ρ S (decide (r = s)) := fun Q q => ha _ fun x hx => hb _ fun y hy => g_eq hx hy q
theorem be_ne (ha : NE wa ρ S true r n) (hb : NE wb ρ S l s m) : BE (wOp (oU2 iNe "Ratio" w_ne wNo) wa wb) ρ S (!decide (r = s)) := fun Q q => ha _ fun x hx => hb _ fun y hy => g_ne hx hy q
theorem be_lt (ha : NE wa ρ S k r n) (hb : NE wb ρ S l s m) (hn : n ≤ 2000) (hm : m ≤ 2000) : BE (wOp (oU2 iLt "Ratio" w_lt w_gt) wa wb) ρ S (decide (r < s)) := fun Q q => ha _ fun x hx => hb _ fun y hy => g_lt hx hy hn hm q
theorem be_le (ha : NE wa ρ S k r n) (hb : NE wb ρ S l s m) (hn : n ≤ 2000) (hm : m ≤ 2000) : BE (wOp (oU2 iLe "Ratio" w_le w_ge) wa wb) ρ S (decide (r ≤ s)) := fun Q q => ha _ fun x hx => hb _ fun y hy => g_le hx hy hn hm q
theorem be_gt (ha : NE wa ρ S k r n) (hb : NE wb ρ S l s m) (hn : n ≤ 2000) (hm : m ≤ 2000) : BE (wOp (oU2 iGt "Ratio" w_gt w_lt) wa wb) ρ S (decide (r > s)) := fun Q q => ha _ fun x hx => hb _ fun y hy => g_gt hx hy hn hm q
theorem be_ge (ha : NE wa ρ S k r n) (hb : NE wb ρ S l s m) (hn : n ≤ 2000) (hm : m ≤ 2000) : BE (wOp (oU2 iGe "Ratio" w_ge w_le) wa wb) ρ S (decide (r ≥ s)) := fun Q q => ha _ fun x hx => hb _ fun y hy => g_ge hx hy hn hm q
theorem be_eqI (ha : IE wa ρ S i) (hb : IE wb ρ S j) : BE (wOp (oU2 iEq "Ratio" w_eq wNo) wa wb) ρ S (decide (i = j)) := fun Q q => ha _ (hb _ q)
theorem shB {a : Bool} : SeqAt.shaped (.bool a) = true := by cases a <;> decide +kernel
theorem be_neD (ha : BE wa ρ S a) (hb : BE wb ρ S b) : BE (wOp oNeD wa wb) ρ S (a != b) := fun Q q => ha _ (hb _ ⟨.bool a, .bool b, rfl, rfl, shB, shB, by
  have e : (!PyData.eqv (.bool a) (.bool b)) = (a != b) := by cases a <;> cases b <;> decide +kernel
  rw [e]
  exact q⟩)
theorem be_notV (ha : BE wa ρ S a) : BE (wNotV wa) ρ S (!a) := fun Q q => ha _ q
theorem be_andV (ha : BE wa ρ S true) (hb : BE wb ρ S b) : BE (wAndV wa wb) ρ S b := fun Q q => ha _ (hb Q q)
theorem be_if (ht : TE ta ρ S a) (h1 : a = true → BE wa ρ S b) (h2 : a = false → BE wb ρ S b) : BE (wIf ta wa wb) ρ S b := fun Q q => ht _ (by
  cases a with
  | true => rw [if_pos rfl]; exact h1 rfl Q q
  | false => rw [if_neg Bool.false_ne_true]; exact h2 rfl Q q)
theorem BE.eq (h : BE wa ρ S a) (e : a = b) : BE wa ρ S b := e ▸ h
theorem TE.eq (h : TE ta ρ S a) (e : a = b) : TE ta ρ S b := e ▸ h
theorem te_if {tc : WB} (ht : TE ta ρ S a) (h1 : a = true → TE tb ρ S b) (h2 : a = false → TE tc ρ S b) : TE (wIfT ta tb tc) ρ S b := fun Q q => ht _ (by
  cases a with
  | true => rw [if_pos rfl]; exact h1 rfl Q q
  | false => rw [if_neg Bool.false_ne_true]; exact h2 rfl Q q)
theorem NE.flag (h : NE wa ρ S k r n) (e : k = l) : NE wa ρ S l r n := e ▸ h
theorem te_chain {o o' : OD} (ha : NE wa ρ S k r n) (hb : NE wb ρ S l s m) (hc : NE wc ρ S k' t m') (h1 : ∀ x y S Q, Nb k x r n → Nb l y s m → Q (.bl true) S → o x y S Q) (h2 : ∀ x y S Q, Nb l x s m → Nb k' y t m' → Q (.bl b) S → o' x y S Q) : TE (wTest (wChain o o' wa wb wc)) ρ S b := fun Q q =>
  ha _ fun x hx => hb _ fun y hy => h1 x y _ _ hx hy (hc _ fun z hz => h2 y z _ _ hy hz q)
theorem te_val (h : BE wa ρ S a) : TE (wTest wa) ρ S a := fun Q q => h _ q
theorem te_not (h : TE ta ρ S a) : TE (wNot ta) ρ S (!a) := fun Q q => h _ q
theorem te_or (h1 : TE ta ρ S a) (h2 : a = false → TE tb ρ S b) : TE (wOr ta tb) ρ S (a || b) := fun Q q => h1 _ (by
  cases a with
  | true => rw [if_pos rfl]; exact q
  | false => rw [if_neg Bool.false_ne_true]; exact h2 rfl Q q)
theorem te_and (h1 : TE ta ρ S a) (h2 : a = true → TE tb ρ S b) : TE (wAnd ta tb) ρ S (a && b) := fun Q q => h1 _ (by
  cases a with
  | true => rw [if_pos rfl]; exact h2 rfl Q q
  | false => rw [if_neg Bool.false_ne_true]; exact q)
theorem be_chain {o o' : OD} (ha : NE wa ρ S k r n) (hb : NE wb ρ S l s m) (hc : NE wc ρ S k' t m') (h1 : ∀ x y S Q, Nb k x r n → Nb l y s m → Q (.bl true) S → o x y S Q) (h2 : ∀ x y S Q, Nb l x s m → Nb k' y t m' → Q (.bl b) S → o' x y S Q) : BE (wChain o o' wa wb wc) ρ S b := fun Q q =>
  ha _ fun x hx => hb _ fun y hy => h1 x y _ _ hx hy (hc _ fun z hz => h2 y z _ _ hy hz q)
theorem ie_var {i : Nat} {v : Int} (h : ρ[i]? = some (some (.int v))) : IE (wVar i) ρ S v := fun Q q => by
  unfold wVar
  rw [h]
  exact q
theorem ie_int {v : Int} : IE (wC (.int v)) ρ S v := fun Q q => q
theorem ie_add (ha : IE wa ρ S i) (hb : IE wb ρ S j) : IE (wOp (oU2 iAdd "Ratio" w_add w_radd) wa wb) ρ S (i + j) := fun Q q => ha _ (hb _ q)
theorem ie_fdiv {F : Int} (ha : NE wa ρ S k r n) (hb : NE wb ρ S l s m) (h0 : 0 < n) (hn : n ≤ 2000) (hm : m ≤ 2000) (hs : s ≠ 0) (hF : Flo F (r / s)) : IE (wOp (oU2 iFdiv "Ratio" w_floordiv w_rfloordiv) wa wb) ρ S F := fun Q q =>
  ha _ fun x hx => hb _ fun y hy => g_fdiv hx hy h0 hn hm hs fun G hG _ => by rw [hG.uniq hF]; exact q
theorem ne_mod {F : Int} (ha : NE wa ρ S k r n) (hb : NE wb ρ S l s m) (h0 : 0 < n) (hn : n ≤ 450) (hm : m ≤ 450) (hs : s ≠ 0) (hF : Flo F (r / s)) : NE (wOp (oU2 iMod "Ratio" w_mod w_rmod) wa wb) ρ S (k || l) (r - s * (F : Rat)) (n + (m + (n + m)) + 1) := fun Q q =>
  ha _ fun x hx => hb _ fun y hy => g_mod hx hy h0 hn hm hs fun G z hG hz => by rw [hG.uniq hF] at hz; exact q z hz
theorem cons2 {Q : List D → MS → Prop} (h : wa ρ S fun x S1 => wb ρ S1 fun y S2 => Q [x, y] S2) : wCons wa (wCons wb wNil) ρ S Q := h
theorem nb_val (h : Nb k x r n) : ∃ p, Nrm p ∧ Sz n p ∧ r = val p := by
  obtain ⟨p, _, _, h3, h4, h5⟩ := h.ex
  exact ⟨p, h3, h4, h5.symm⟩
end

theorem neg_of {s : Rat} (hs : s ≠ 0) (h : ¬ s > 0) : s < 0 := by grind
theorem rest_facts {r s : Rat} {F : Int} (hs : s ≠ 0) (hF : Flo F (r / s)) :
    (F : Rat) * s + (r - s * (F : Rat)) = r ∧ r / s * s = r ∧ r * s / s = r ∧ (0 < s → 0 ≤ r - s * (F : Rat) ∧ r - s * (F : Rat) < s) ∧ (s < 0 → s < r - s * (F : Rat) ∧ r - s * (F : Rat) ≤ 0) ∧ Flo (F + 1) ((r + s) / s) ∧ r + s - s * ((F + 1 : Int) : Rat) = r - s * (F : Rat) := by
  have e1 : ((F + 1 : Int) : Rat) = (F : Rat) + 1 := by rw [Rat.intCast_add]; rfl
  obtain ⟨f1, f2⟩ := hF
  have hq : r = (r / s) * s := by grind
  refine ⟨by grind, by grind, by grind, fun p => ?_, fun p => ?_, ⟨?_, ?_⟩, by rw [e1]; grind⟩
  · have g1 : (F : Rat) * s ≤ (r / s) * s := Rat.mul_le_mul_of_nonneg_right f1 (by grind)
    have g2 : (r / s) * s < ((F : Rat) + 1) * s := (Rat.mul_lt_mul_right p).mpr f2
    rw [← hq] at g1 g2
    have g3 : ((F : Rat) + 1) * s = (F : Rat) * s + s := by grind
    rw [g3] at g2
    have g4 : s * (F : Rat) = (F : Rat) * s := by grind
    rw [g4]
    constructor <;> grind
  · have p' : 0 < -s := by grind
    have g1 : (F : Rat) * -s ≤ (r / s) * -s := Rat.mul_le_mul_of_nonneg_right f1 (by grind)
    have g2 : (r / s) * -s < ((F : Rat) + 1) * -s := (Rat.mul_lt_mul_right p').mpr f2
    have k1 : (r / s) * -s = -r := by grind
    rw [k1] at g1 g2
    have g3 : ((F : Rat) + 1) * -s = -((F : Rat) * s) - s := by grind
    have g5 : (F : Rat) * -s = -((F : Rat) * s) := by grind
    rw [g3] at g2
    rw [g5] at g1
    have g4 : s * (F : Rat) = (F : Rat) * s := by grind
    rw [g4]
    constructor <;> grind
  · rw [e1]
    have : (r + s) / s = r / s + 1 := by grind
    rw [this]
    grind
  · rw [e1]
    have : (r + s) / s = r / s + 1 := by grind
    rw [this]
    grind

def w_rest : WF := fun ds S Q => match ds with
  | [x, y] => ∃ r s l, Nb true x r 141 ∧ Nb l y s 141 ∧ s ≠ 0 ∧ Q (.bl true) S
  | _ => False
theorem sc__law_rest_right : FnScope ["a", "b", "whole", "rest"] ["a", "b"] (defScope s__law_rest_right) := ⟨rfl, rfl, rfl, by decide +kernel, rfl, by decide +kernel, by decide +kernel⟩
theorem ok__law_rest_right (T : Tx K mg) : FnOk P w K mg base CX0 13 T.f__law_rest_right T.fd__law_rest_right ["a", "b"] (spW ⟨K, mg⟩ 2 w_rest) := by
  refine fnD (k := 12) T.F__law_rest_right sc__law_rest_right (fun cdv A outer s H E hr => ⟨_, (dss_cons (ds_par (i := 2) (j := 3) rfl sc__law_rest_right.nd (da_cons (d_op (OpR.or op_fdivWN (OpR.or (op_ownB (op := .FloorDiv) T.own T.M_R_floordiv T.M_R_rfloordiv.at_ (.inr ⟨_, rfl⟩) T.fi_floordiv T.ri_floordiv (ok_R_floordiv T) (hr.mono (by decide)) T.b_R_floordiv pass0) (op_ownI (op := .FloorDiv) T.own T.M_R_floordiv T.M_R_rfloordiv PySem.F.slot_int_floordiv PySem.F.fills_int_floordiv (fun Q' h1 h2 q => dec_floordiv Q' h1 h2 q) (ok_R_rfloordiv T) (hr.mono (by decide)) T.b_R_rfloordiv pass0))) (snd_U2 snd_iFdiv T.g_Ratio) (dv 0) (dv 1)) (da_cons (d_op (OpR.or op_modN (OpR.or (op_ownB (op := .Mod) T.own T.M_R_mod T.M_R_rmod.at_ (.inr ⟨_, rfl⟩) T.fi_mod T.ri_mod (ok_R_mod T) (hr.mono (by decide)) T.b_R_mod pass0) (op_ownI (op := .Mod) T.own T.M_R_mod T.M_R_rmod PySem.F.slot_int_mod PySem.F.fills_int_mod (fun Q' h1 h2 q => dec_mod Q' h1 h2 q) (ok_R_rmod T) (hr.mono (by decide)) T.b_R_rmod pass0))) (snd_U2 snd_iMod T.g_Ratio) (dv 0) (dv 1)) da_nil)))
  (dss_cons (ds_if (PDW.pt (dw_or (dt_cmp (OpR.or op_ne (op_ownCmp (op := .NotEq) (fun _ _ => rfl) T.own T.M_R_ne (ok_R_ne T) (hr.mono (by decide)) T.b_R_ne pass0)) (snd_U1 snd_iNe T.g_Ratio) (d_op (OpR.or op_add (OpR.or (op_ownB (op := .Add) T.own T.M_R_add T.M_R_radd.at_ (.inr ⟨_, rfl⟩) T.fi_add T.ri_add (ok_R_add T) (hr.mono (by decide)) T.b_R_add pass0) (op_ownI (op := .Add) T.own T.M_R_add T.M_R_radd PySem.F.slot_int_add PySem.F.fills_int_add (fun Q' h1 h2 q => dec_add Q' h1 h2 q) (ok_R_radd T) (hr.mono (by decide)) T.b_R_radd pass0))) (snd_U2 snd_iAdd T.g_Ratio) (d_op (OpR.or op_mulW (OpR.or (op_ownB (op := .Mult) T.own T.M_R_mul T.M_R_rmul.at_ (.inr ⟨_, rfl⟩) T.fi_mul T.ri_mul (ok_R_mul T) (hr.mono (by decide)) T.b_R_mul pass0) (op_ownI (op := .Mult) T.own T.M_R_mul T.M_R_rmul PySem.F.slot_int_mul PySem.F.fills_int_mul (fun Q' h1 h2 q => dec_mul Q' h1 h2 q) (ok_R_rmul T) (hr.mono (by decide)) T.b_R_rmul pass0))) (snd_U2 snd_iMul T.g_Ratio) (dv 2) (dv 1)) (dv 3)) (dv 0) (nomark _)) (dw_or (dt_cmp (OpR.or op_ne (op_ownCmp (op := .NotEq) (fun _ _ => rfl) T.own T.M_R_ne (ok_R_ne T) (hr.mono (by decide)) T.b_R_ne pass0)) (snd_U1 snd_iNe T.g_Ratio) (d_op (OpR.or op_mulW (OpR.or (op_ownB (op := .Mult) T.own T.M_R_mul T.M_R_rmul.at_ (.inr ⟨_, rfl⟩) T.fi_mul T.ri_mul (ok_R_mul T) (hr.mono (by decide)) T.b_R_mul pass0) (op_ownI (op := .Mult) T.own T.M_R_mul T.M_R_rmul PySem.F.slot_int_mul PySem.F.fills_int_mul (fun Q' h1 h2 q => dec_mul Q' h1 h2 q) (ok_R_rmul T) (hr.mono (by decide)) T.b_R_rmul pass0))) (snd_U2 snd_iMul T.g_Ratio) (d_call (ok_quotient T) (hr.mono (by decide)) T.m_quotient T.F_quotient.kp T.b_quotient (da_cons (dv 0) (da_cons (dv 1) da_nil))) (dv 1)) (dv 0) (nomark _)) (dw_or1 (dt_cmp (OpR.or op_ne (op_ownCmp (op := .NotEq) (fun _ _ => rfl) T.own T.M_R_ne (ok_R_ne T) (hr.mono (by decide)) T.b_R_ne pass0)) (snd_U1 snd_iNe T.g_Ratio) (d_call (ok_quotient T) (hr.mono (by decide)) T.m_quotient T.F_quotient.kp T.b_quotient (da_cons (d_op (OpR.or op_mulW (OpR.or (op_ownB (op := .Mult) T.own T.M_R_mul T.M_R_rmul.at_ (.inr ⟨_, rfl⟩) T.fi_mul T.ri_mul (ok_R_mul T) (hr.mono (by decide)) T.b_R_mul pass0) (op_ownI (op := .Mult) T.own T.M_R_mul T.M_R_rmul PySem.F.slot_int_mul PySem.F.fills_int_mul (fun Q' h1 h2 q => dec_mul Q' h1 h2 q) (ok_R_rmul T) (hr.mono (by decide)) T.b_R_rmul pass0))) (snd_U2 snd_iMul T.g_Ratio) (dv 0) (dv 1)) (da_cons (dv 1) da_nil))) (dv 0) (nomark _)))))) (dss_one (ds_ret d_bl)) dss_nil)
  (dss_cons (ds_if (dt_not (dt_ifT (dt_cmp (OpR.or op_gt (OpR.or (op_ownCmp (op := .Gt) (fun _ _ => rfl) T.own T.M_R_gt (ok_R_gt T) (hr.mono (by decide)) T.b_R_gt pass0) (op_ownCmpI (op := .Gt) (fun _ _ => rfl) T.own T.M_R_lt PySem.F.slot_int_gt (fun Q' h1 h2 q => dec_gt Q' h1 h2 q) (ok_R_lt T) (hr.mono (by decide)) T.b_R_lt pass0))) (snd_U2 snd_iGt T.g_Ratio) (dv 1) d_int (nomark _)) (dt_chain (OpR.or op_le (OpR.or (op_ownCmp (op := .LtE) (fun _ _ => rfl) T.own T.M_R_le (ok_R_le T) (hr.mono (by decide)) T.b_R_le pass0) (op_ownCmpI (op := .LtE) (fun _ _ => rfl) T.own T.M_R_ge PySem.F.slot_int_le (fun Q' h1 h2 q => dec_le Q' h1 h2 q) (ok_R_ge T) (hr.mono (by decide)) T.b_R_ge pass0))) (snd_U2 snd_iLe T.g_Ratio) (OpR.or op_lt (OpR.or (op_ownCmp (op := .Lt) (fun _ _ => rfl) T.own T.M_R_lt (ok_R_lt T) (hr.mono (by decide)) T.b_R_lt pass0) (op_ownCmpI (op := .Lt) (fun _ _ => rfl) T.own T.M_R_gt PySem.F.slot_int_lt (fun Q' h1 h2 q => dec_lt Q' h1 h2 q) (ok_R_gt T) (hr.mono (by decide)) T.b_R_gt pass0))) (snd_U2 snd_iLt T.g_Ratio) d_int (dv 3) (dv 1)) (dt_chain (OpR.or op_lt (OpR.or (op_ownCmp (op := .Lt) (fun _ _ => rfl) T.own T.M_R_lt (ok_R_lt T) (hr.mono (by decide)) T.b_R_lt pass0) (op_ownCmpI (op := .Lt) (fun _ _ => rfl) T.own T.M_R_gt PySem.F.slot_int_lt (fun Q' h1 h2 q => dec_lt Q' h1 h2 q) (ok_R_gt T) (hr.mono (by decide)) T.b_R_gt pass0))) (snd_U2 snd_iLt T.g_Ratio) (OpR.or op_le (OpR.or (op_ownCmp (op := .LtE) (fun _ _ => rfl) T.own T.M_R_le (ok_R_le T) (hr.mono (by decide)) T.b_R_le pass0) (op_ownCmpI (op := .LtE) (fun _ _ => rfl) T.own T.M_R_ge PySem.F.slot_int_le (fun Q' h1 h2 q => dec_le Q' h1 h2 q) (ok_R_ge T) (hr.mono (by decide)) T.b_R_ge pass0))) (snd_U2 snd_iLe T.g_Ratio) (dv 1) (dv 3) d_int))) (dss_one (ds_ret d_bl)) dss_nil)
  (dss_one (ds_ret (d_and (d_chain (OpR.or op_le (OpR.or (op_ownCmp (op := .LtE) (fun _ _ => rfl) T.own T.M_R_le (ok_R_le T) (hr.mono (by decide)) T.b_R_le pass0) (op_ownCmpI (op := .LtE) (fun _ _ => rfl) T.own T.M_R_ge PySem.F.slot_int_le (fun Q' h1 h2 q => dec_le Q' h1 h2 q) (ok_R_ge T) (hr.mono (by decide)) T.b_R_ge pass0))) (snd_U2 snd_iLe T.g_Ratio) (OpR.or op_lt (OpR.or (op_ownCmp (op := .Lt) (fun _ _ => rfl) T.own T.M_R_lt (ok_R_lt T) (hr.mono (by decide)) T.b_R_lt pass0) (op_ownCmpI (op := .Lt) (fun _ _ => rfl) T.own T.M_R_gt PySem.F.slot_int_lt (fun Q' h1 h2 q => dec_lt Q' h1 h2 q) (ok_R_gt T) (hr.mono (by decide)) T.b_R_gt pass0))) (snd_U2 snd_iLt T.g_Ratio) (dv 2) (d_call (ok_quotient T) (hr.mono (by decide)) T.m_quotient T.F_quotient.kp T.b_quotient (da_cons (dv 0) (da_cons (dv 1) da_nil))) (d_op (OpR.or op_add (OpR.or (op_ownB (op := .Add) T.own T.M_R_add T.M_R_radd.at_ (.inr ⟨_, rfl⟩) T.fi_add T.ri_add (ok_R_add T) (hr.mono (by decide)) T.b_R_add pass0) (op_ownI (op := .Add) T.own T.M_R_add T.M_R_radd PySem.F.slot_int_add PySem.F.fills_int_add (fun Q' h1 h2 q => dec_add Q' h1 h2 q) (ok_R_radd T) (hr.mono (by decide)) T.b_R_radd pass0))) (snd_U2 snd_iAdd T.g_Ratio) (dv 2) d_int)) (d_and (d_cmp (OpR.or op_eq (op_ownCmp (op := .Eq) (fun _ _ => rfl) T.own T.M_R_eq (ok_R_eq T) (hr.mono (by decide)) T.b_R_eq pass0)) (snd_U1 snd_iEq T.g_Ratio) (d_op (OpR.or op_fdivWN (OpR.or (op_ownB (op := .FloorDiv) T.own T.M_R_floordiv T.M_R_rfloordiv.at_ (.inr ⟨_, rfl⟩) T.fi_floordiv T.ri_floordiv (ok_R_floordiv T) (hr.mono (by decide)) T.b_R_floordiv pass0) (op_ownI (op := .FloorDiv) T.own T.M_R_floordiv T.M_R_rfloordiv PySem.F.slot_int_floordiv PySem.F.fills_int_floordiv (fun Q' h1 h2 q => dec_floordiv Q' h1 h2 q) (ok_R_rfloordiv T) (hr.mono (by decide)) T.b_R_rfloordiv pass0))) (snd_U2 snd_iFdiv T.g_Ratio) (d_op (OpR.or op_add (OpR.or (op_ownB (op := .Add) T.own T.M_R_add T.M_R_radd.at_ (.inr ⟨_, rfl⟩) T.fi_add T.ri_add (ok_R_add T) (hr.mono (by decide)) T.b_R_add pass0) (op_ownI (op := .Add) T.own T.M_R_add T.M_R_radd PySem.F.slot_int_add PySem.F.fills_int_add (fun Q' h1 h2 q => dec_add Q' h1 h2 q) (ok_R_radd T) (hr.mono (by decide)) T.b_R_radd pass0))) (snd_U2 snd_iAdd T.g_Ratio) (dv 0) (dv 1)) (dv 1)) (d_op (OpR.or op_add (OpR.or (op_ownB (op := .Add) T.own T.M_R_add T.M_R_radd.at_ (.inr ⟨_, rfl⟩) T.fi_add T.ri_add (ok_R_add T) (hr.mono (by decide)) T.b_R_add pass0) (op_ownI (op := .Add) T.own T.M_R_add T.M_R_radd PySem.F.slot_int_add PySem.F.fills_int_add (fun Q' h1 h2 q => dec_add Q' h1 h2 q) (ok_R_radd T) (hr.mono (by decide)) T.b_R_radd pass0))) (snd_U2 snd_iAdd T.g_Ratio) (dv 2) d_int) (nomark _)) (d_one (d_cmp (OpR.or op_eq (op_ownCmp (op := .Eq) (fun _ _ => rfl) T.own T.M_R_eq (ok_R_eq T) (hr.mono (by decide)) T.b_R_eq pass0)) (snd_U1 snd_iEq T.g_Ratio) (d_op (OpR.or op_modN (OpR.or (op_ownB (op := .Mod) T.own T.M_R_mod T.M_R_rmod.at_ (.inr ⟨_, rfl⟩) T.fi_mod T.ri_mod (ok_R_mod T) (hr.mono (by decide)) T.b_R_mod pass0) (op_ownI (op := .Mod) T.own T.M_R_mod T.M_R_rmod PySem.F.slot_int_mod PySem.F.fills_int_mod (fun Q' h1 h2 q => dec_mod Q' h1 h2 q) (ok_R_rmod T) (hr.mono (by decide)) T.b_R_rmod pass0))) (snd_U2 snd_iMod T.g_Ratio) (d_op (OpR.or op_add (OpR.or (op_ownB (op := .Add) T.own T.M_R_add T.M_R_radd.at_ (.inr ⟨_, rfl⟩) T.fi_add T.ri_add (ok_R_add T) (hr.mono (by decide)) T.b_R_add pass0) (op_ownI (op := .Add) T.own T.M_R_add T.M_R_radd PySem.F.slot_int_add PySem.F.fills_int_add (fun Q' h1 h2 q => dec_add Q' h1 h2 q) (ok_R_radd T) (hr.mono (by decide)) T.b_R_radd pass0))) (snd_U2 snd_iAdd T.g_Ratio) (dv 0) (dv 1)) (dv 1)) (dv 3) (nomark _))))))))))⟩) (fun ds S Q hl h => ?_)
  match ds, h with
  | [x, y], ⟨r, s, l, ha, hb, hs, h⟩ =>
    obtain ⟨p, np, sp, ep⟩ := nb_val ha
    obtain ⟨q, nq, sq, eq⟩ := nb_val hb
    obtain ⟨F, hF⟩ : ∃ F, Flo F (r / s) := ⟨_, by rw [ep, eq]; exact flo_fd np nq (by rw [← eq]; exact hs)⟩
    obtain ⟨k1, k2, k3, k4, k5, k6, k7⟩ := rest_facts hs hF
    have sF : F.natAbs < 2 ^ 282 := by
      have e := (flo_fd np nq (by rw [← eq]; exact hs)).uniq (v := val p / val q) (G := F) (by rw [← ep, ← eq]; exact hF)
      rw [← e]
      exact fd_sz2 sp sq
    have hw : Nb false (.int F) (F : Rat) 282 := .int (by decide) sF
    have big : IE (wOp (oU2 iFdiv "Ratio" w_floordiv w_rfloordiv) (wVar 0) (wVar 1)) [some x, some y, none, none] S F := ie_fdiv (ne_var (i := 0) rfl ha) (ne_var (i := 1) rfl hb) (by decide) (by decide) (by decide) hs hF
    have big2 := ne_mod (wa := wVar 0) (wb := wVar 1) (ρ := [some x, some y, none, none]) (S := S) (ne_var (i := 0) rfl ha) (ne_var (i := 1) rfl hb) (by decide) (by decide) (by decide) hs hF
    simp only [startD, List.map_cons, List.map_nil, List.length_cons, List.length_nil, List.cons_append, List.nil_append, List.replicate, Nat.reduceAdd, Nat.reduceSub]
    unfold sSeq sPar
    refine cons2 (big _ (big2 _ fun z hz => ?_))
    dsimp only [List.set_cons_zero, List.set_cons_succ]
    have no : TE _ [some x, some y, some (.int F), some z] S false := TE.eq (te_or (te_val (be_ne (NE.flag (ne_add (ne_mul (ne_var (i := 2) rfl hw) (ne_var (i := 1) rfl hb) (by decide) (by decide)) (ne_var (i := 3) rfl hz) (by decide) (by decide)) (by cases l <;> rfl)) (ne_var (i := 0) rfl ha))) fun _ => te_or (te_val (be_ne (ne_mul (ne_quo (ne_var (i := 0) rfl ha) (ne_var (i := 1) rfl hb) (by decide) (by decide) hs) (ne_var (i := 1) rfl hb) (by decide) (by decide)) (ne_var (i := 0) rfl ha))) fun _ => te_val (be_ne (ne_quo (ne_mul (ne_var (i := 0) rfl ha) (ne_var (i := 1) rfl hb) (by decide) (by decide)) (ne_var (i := 1) rfl hb) (by decide) (by decide) hs) (ne_var (i := 0) rfl ha))) (by rw [k1, k2, k3]; simp)
    have z0 : ((0 : Int) : Rat) = 0 := rfl
    unfold sIf
    refine no _ ?_
    rw [if_neg Bool.false_ne_true]
    have no2 : TE _ [some x, some y, some (.int F), some z] S false := TE.eq (te_not (te_if (b := true) (te_val (be_gt (ne_var (i := 1) rfl hb) (ne_int (i := 0) (n := 8) (by decide) (by decide)) (by decide) (by decide)))
      (fun e => te_chain (ne_int (i := 0) (n := 8) (by decide) (by decide)) (ne_var (i := 3) rfl hz) (ne_var (i := 1) rfl hb) (fun x y S Q hx hy q => g_le hx hy (by decide) (by decide) (by rw [z0, decide_eq_true (k4 (by have := of_decide_eq_true e; rw [z0] at this; exact this)).1]; exact q)) (fun x y S Q hx hy q => g_lt hx hy (by decide) (by decide) (by rw [decide_eq_true (k4 (by have := of_decide_eq_true e; rw [z0] at this; exact this)).2]; exact q)))
      (fun e => te_chain (ne_var (i := 1) rfl hb) (ne_var (i := 3) rfl hz) (ne_int (i := 0) (n := 8) (by decide) (by decide)) (fun x y S Q hx hy q => g_lt hx hy (by decide) (by decide) (by rw [decide_eq_true (k5 (neg_of hs (by rw [← z0]; exact of_decide_eq_false e))).1]; exact q)) (fun x y S Q hx hy q => g_le hx hy (by decide) (by decide) (by rw [z0, decide_eq_true (k5 (neg_of hs (by rw [← z0]; exact of_decide_eq_false e))).2]; exact q))))) rfl
    unfold sNext
    dsimp only
    refine no2 _ ?_
    rw [if_neg Bool.false_ne_true]
    unfold sRet
    try dsimp only
    have z1 : ((1 : Int) : Rat) = 1 := rfl
    have last : BE _ [some x, some y, some (.int F), some z] S true := be_andV (be_chain (b := true) (ne_var (i := 2) rfl hw) (ne_quo (ne_var (i := 0) rfl ha) (ne_var (i := 1) rfl hb) (by decide) (by decide) hs) (ne_add (ne_var (i := 2) rfl hw) (ne_int (i := 1) (n := 8) (by decide) (by decide)) (by decide) (by decide)) (fun x y S Q hx hy q => g_le hx hy (by decide) (by decide) (by rw [decide_eq_true hF.1]; exact q)) (fun x y S Q hx hy q => g_lt hx hy (by decide) (by decide) (by rw [z1, decide_eq_true hF.2]; exact q)))
      (be_andV (BE.eq (be_eqI (ie_fdiv (ne_add (ne_var (i := 0) rfl ha) (ne_var (i := 1) rfl hb) (by decide) (by decide)) (ne_var (i := 1) rfl hb) (by decide) (by decide) (by decide) hs k6) (ie_add (ie_var (i := 2) rfl) (ie_int (v := 1)))) (decide_eq_true rfl))
        (BE.eq (be_eq (NE.flag (ne_mod (ne_add (ne_var (i := 0) rfl ha) (ne_var (i := 1) rfl hb) (by decide) (by decide)) (ne_var (i := 1) rfl hb) (by decide) (by decide) (by decide) hs k6) (by cases l <;> rfl)) (ne_var (i := 3) rfl hz)) (decide_eq_true k7)))
    exact last _ h
end
end K1
set_option Elab.async false
set_option linter.all false
set_option maxRecDepth 100000
set_option maxHeartbeats 0
namespace K1
open PySem PySem.Spec PyProof.Rows L2 DL
section
variable {P : Program} {w : World} {K : PySem.W.Frag} {mg : Str → Option Value} {base : Heap}
section
variable {wa wb wc : WD} {ρ : DEnv} {S : MS} {a b c : Bool}
theorem be_count (h1 : BE wa ρ S a) (h2 : BE wb ρ S b) (h3 : BE wc ρ S c) : BE (wOp (oJust iNe) (wCountB (wLst (wCons wa (wCons wb (wCons wc wNil)))) (wC (.bl true))) (wC (.int 1))) ρ S (!decide (([a, b, c].count true : Nat) = (1 : Int))) := fun Q q =>
  h1 _ (h2 _ (h3 _ ⟨line5 (by simp), [a, b, c], rfl, q⟩))
theorem be_orV (h1 : BE wa ρ S a) (h2 : BE wb ρ S b) : BE (wOrV wa wb) ρ S (a || b) := fun Q q => h1 _ (by
  cases a with
  | true => exact q
  | false => exact h2 Q q)
theorem be_andB (h1 : BE wa ρ S a) (h2 : BE wb ρ S b) : BE (wAndV wa wb) ρ S (a && b) := fun Q q => h1 _ (by
  cases a with
  | true => exact h2 Q q
  | false => exact q)
theorem nbe {a b : Bool} (h : a = b) : (a != b) = false := by
  subst h
  simp
theorem or_no {a b : Bool} (h1 : a = false) (h2 : b = false) : (a || b) = false := by
  rw [h1, h2]
  rfl
end
theorem dd {p q : Prop} [Decidable p] [Decidable q] (h : p ↔ q) : decide p = decide q := decide_eq_decide.mpr h
theorem dn {p q : Prop} [Decidable p] [Decidable q] (h : p ↔ ¬ q) : decide p = !decide q := by
  rw [← decide_not]
  exact decide_eq_decide.mpr h
theorem o_le (r s : Rat) : decide (r ≤ s) = !decide (r > s) := dn ⟨fun h => by grind, fun h => by grind⟩
theorem o_ge (r s : Rat) : decide (r ≥ s) = !decide (r < s) := dn ⟨fun h => by grind, fun h => by grind⟩
theorem o_add (r s t : Rat) : decide (r < s) = decide (r + t < s + t) := dd ⟨fun h => by grind, fun h => by grind⟩
theorem o_neg (r s : Rat) : decide (r < s) = decide (-s < -r) := dd ⟨fun h => by grind, fun h => by grind⟩
theorem o_zero (r s : Rat) : decide (r < s) = decide (((0 : Int) : Rat) < s - r) := dd (by rw [c0]; exact ⟨fun h => by grind, fun h => by grind⟩)
theorem o_mul {r s t : Rat} (h : 0 < t) : decide (r < s) = decide (r * t < s * t) := dd (Rat.mul_lt_mul_right h).symm
theorem o_mulN {r s t : Rat} (h : t < 0) : decide (r < s) = decide (s * t < r * t) := dd (by
  have := Rat.mul_lt_mul_right (a := r) (b := s) (show 0 < -t by grind)
  rw [← this]
  exact ⟨fun h => by grind, fun h => by grind⟩)
theorem o_trans (r s t : Rat) : (!(decide (r < s) && decide (s < t)) || decide (r < t)) = true := by
  by_cases h1 : r < s <;> by_cases h2 : s < t
  · rw [decide_eq_true (show r < t by grind)]
    simp
  all_goals simp [h1, h2]
theorem o_count (r s : Rat) : ([decide (r < s), decide (r = s), decide (r > s)].count true : Nat) = (1 : Int) := by
  by_cases h1 : r < s
  · rw [decide_eq_true h1, decide_eq_false (show ¬ r = s by grind), decide_eq_false (show ¬ r > s by grind)]
    rfl
  · by_cases h2 : r = s
    · rw [decide_eq_false h1, decide_eq_true h2, decide_eq_false (show ¬ r > s by grind)]
      rfl
    · rw [decide_eq_false h1, decide_eq_false h2, decide_eq_true (show r > s by grind)]
      rfl

def w_order : WF := fun ds S Q => match ds with
  | [x, y, z] => ∃ r s t l l', Nb true x r 141 ∧ Nb l y s 141 ∧ Nb l' z t 141 ∧ Q (.bl true) S
  | _ => False
theorem sc__law_order_right : FnScope ["a", "b", "c"] ["a", "b", "c"] (defScope s__law_order_right) := ⟨rfl, rfl, rfl, by decide +kernel, rfl, by decide +kernel, by decide +kernel⟩
theorem ok__law_order_right (T : Tx K mg) : FnOk P w K mg base CX0 13 T.f__law_order_right T.fd__law_order_right ["a", "b", "c"] (spW ⟨K, mg⟩ 3 w_order) := by
  refine fnD (k := 12) T.F__law_order_right sc__law_order_right (fun cdv A outer s H E hr => ⟨_, (dss_cons (ds_if (PDW.pt (dw_or (dt_cmp op_ne snd_iNe (d_countB (d_lst (da_cons (d_cmp (OpR.or op_lt (OpR.or (op_ownCmp (op := .Lt) (fun _ _ => rfl) T.own T.M_R_lt (ok_R_lt T) (hr.mono (by decide)) T.b_R_lt pass0) (op_ownCmpI (op := .Lt) (fun _ _ => rfl) T.own T.M_R_gt PySem.F.slot_int_lt (fun Q' h1 h2 q => dec_lt Q' h1 h2 q) (ok_R_gt T) (hr.mono (by decide)) T.b_R_gt pass0))) (snd_U2 snd_iLt T.g_Ratio) (dv 0) (dv 1) (nomark _)) (da_cons (d_cmp (OpR.or op_eq (op_ownCmp (op := .Eq) (fun _ _ => rfl) T.own T.M_R_eq (ok_R_eq T) (hr.mono (by decide)) T.b_R_eq pass0)) (snd_U1 snd_iEq T.g_Ratio) (dv 0) (dv 1) (nomark _)) (da_cons (d_cmp (OpR.or op_gt (OpR.or (op_ownCmp (op := .Gt) (fun _ _ => rfl) T.own T.M_R_gt (ok_R_gt T) (hr.mono (by decide)) T.b_R_gt pass0) (op_ownCmpI (op := .Gt) (fun _ _ => rfl) T.own T.M_R_lt PySem.F.slot_int_gt (fun Q' h1 h2 q => dec_gt Q' h1 h2 q) (ok_R_lt T) (hr.mono (by decide)) T.b_R_lt pass0))) (snd_U2 snd_iGt T.g_Ratio) (dv 0) (dv 1) (nomark _)) da_nil)))) d_bl) d_int (nomark _)) (dw_or (dt_cmp (op_neD hr.units) snd_neD (d_cmp (OpR.or op_le (OpR.or (op_ownCmp (op := .LtE) (fun _ _ => rfl) T.own T.M_R_le (ok_R_le T) (hr.mono (by decide)) T.b_R_le pass0) (op_ownCmpI (op := .LtE) (fun _ _ => rfl) T.own T.M_R_ge PySem.F.slot_int_le (fun Q' h1 h2 q => dec_le Q' h1 h2 q) (ok_R_ge T) (hr.mono (by decide)) T.b_R_ge pass0))) (snd_U2 snd_iLe T.g_Ratio) (dv 0) (dv 1) (nomark _)) (d_not (d_cmp (OpR.or op_gt (OpR.or (op_ownCmp (op := .Gt) (fun _ _ => rfl) T.own T.M_R_gt (ok_R_gt T) (hr.mono (by decide)) T.b_R_gt pass0) (op_ownCmpI (op := .Gt) (fun _ _ => rfl) T.own T.M_R_lt PySem.F.slot_int_gt (fun Q' h1 h2 q => dec_gt Q' h1 h2 q) (ok_R_lt T) (hr.mono (by decide)) T.b_R_lt pass0))) (snd_U2 snd_iGt T.g_Ratio) (dv 0) (dv 1) (nomark _))) (nomark _)) (dw_or1 (dt_cmp (op_neD hr.units) snd_neD (d_cmp (OpR.or op_ge (OpR.or (op_ownCmp (op := .GtE) (fun _ _ => rfl) T.own T.M_R_ge (ok_R_ge T) (hr.mono (by decide)) T.b_R_ge pass0) (op_ownCmpI (op := .GtE) (fun _ _ => rfl) T.own T.M_R_le PySem.F.slot_int_ge (fun Q' h1 h2 q => dec_ge Q' h1 h2 q) (ok_R_le T) (hr.mono (by decide)) T.b_R_le pass0))) (snd_U2 snd_iGe T.g_Ratio) (dv 0) (dv 1) (nomark _)) (d_not (d_cmp (OpR.or op_lt (OpR.or (op_ownCmp (op := .Lt) (fun _ _ => rfl) T.own T.M_R_lt (ok_R_lt T) (hr.mono (by decide)) T.b_R_lt pass0) (op_ownCmpI (op := .Lt) (fun _ _ => rfl) T.own T.M_R_gt PySem.F.slot_int_lt (fun Q' h1 h2 q => dec_lt Q' h1 h2 q) (ok_R_gt T) (hr.mono (by decide)) T.b_R_gt pass0))) (snd_U2 snd_iLt T.g_Ratio) (dv 0) (dv 1) (nomark _))) (nomark _)))))) (dss_one (ds_ret d_bl)) dss_nil)
  (dss_cons (ds_if (PDW.pt (dw_or (dt_cmp (op_neD hr.units) snd_neD (d_cmp (OpR.or op_lt (OpR.or (op_ownCmp (op := .Lt) (fun _ _ => rfl) T.own T.M_R_lt (ok_R_lt T) (hr.mono (by decide)) T.b_R_lt pass0) (op_ownCmpI (op := .Lt) (fun _ _ => rfl) T.own T.M_R_gt PySem.F.slot_int_lt (fun Q' h1 h2 q => dec_lt Q' h1 h2 q) (ok_R_gt T) (hr.mono (by decide)) T.b_R_gt pass0))) (snd_U2 snd_iLt T.g_Ratio) (dv 0) (dv 1) (nomark _)) (d_cmp (OpR.or op_lt (OpR.or (op_ownCmp (op := .Lt) (fun _ _ => rfl) T.own T.M_R_lt (ok_R_lt T) (hr.mono (by decide)) T.b_R_lt pass0) (op_ownCmpI (op := .Lt) (fun _ _ => rfl) T.own T.M_R_gt PySem.F.slot_int_lt (fun Q' h1 h2 q => dec_lt Q' h1 h2 q) (ok_R_gt T) (hr.mono (by decide)) T.b_R_gt pass0))) (snd_U2 snd_iLt T.g_Ratio) (d_op (OpR.or op_add (OpR.or (op_ownB (op := .Add) T.own T.M_R_add T.M_R_radd.at_ (.inr ⟨_, rfl⟩) T.fi_add T.ri_add (ok_R_add T) (hr.mono (by decide)) T.b_R_add pass0) (op_ownI (op := .Add) T.own T.M_R_add T.M_R_radd PySem.F.slot_int_add PySem.F.fills_int_add (fun Q' h1 h2 q => dec_add Q' h1 h2 q) (ok_R_radd T) (hr.mono (by decide)) T.b_R_radd pass0))) (snd_U2 snd_iAdd T.g_Ratio) (dv 0) (dv 2)) (d_op (OpR.or op_add (OpR.or (op_ownB (op := .Add) T.own T.M_R_add T.M_R_radd.at_ (.inr ⟨_, rfl⟩) T.fi_add T.ri_add (ok_R_add T) (hr.mono (by decide)) T.b_R_add pass0) (op_ownI (op := .Add) T.own T.M_R_add T.M_R_radd PySem.F.slot_int_add PySem.F.fills_int_add (fun Q' h1 h2 q => dec_add Q' h1 h2 q) (ok_R_radd T) (hr.mono (by decide)) T.b_R_radd pass0))) (snd_U2 snd_iAdd T.g_Ratio) (dv 1) (dv 2)) (nomark _)) (nomark _)) (dw_or (dt_cmp (op_neD hr.units) snd_neD (d_cmp (OpR.or op_lt (OpR.or (op_ownCmp (op := .Lt) (fun _ _ => rfl) T.own T.M_R_lt (ok_R_lt T) (hr.mono (by decide)) T.b_R_lt pass0) (op_ownCmpI (op := .Lt) (fun _ _ => rfl) T.own T.M_R_gt PySem.F.slot_int_lt (fun Q' h1 h2 q => dec_lt Q' h1 h2 q) (ok_R_gt T) (hr.mono (by decide)) T.b_R_gt pass0))) (snd_U2 snd_iLt T.g_Ratio) (dv 0) (dv 1) (nomark _)) (d_cmp (OpR.or op_lt (OpR.or (op_ownCmp (op := .Lt) (fun _ _ => rfl) T.own T.M_R_lt (ok_R_lt T) (hr.mono (by decide)) T.b_R_lt pass0) (op_ownCmpI (op := .Lt) (fun _ _ => rfl) T.own T.M_R_gt PySem.F.slot_int_lt (fun Q' h1 h2 q => dec_lt Q' h1 h2 q) (ok_R_gt T) (hr.mono (by decide)) T.b_R_gt pass0))) (snd_U2 snd_iLt T.g_Ratio) (d_un (DL.UnR.or un_neg (un_ownNeg T.M_R_neg (ok_R_neg T) (hr.mono (by decide)) T.b_R_neg pass0)) (snd_neg1 T.g_Ratio) (dv 1)) (d_un (DL.UnR.or un_neg (un_ownNeg T.M_R_neg (ok_R_neg T) (hr.mono (by decide)) T.b_R_neg pass0)) (snd_neg1 T.g_Ratio) (dv 0)) (nomark _)) (nomark _)) (dw_or1 (dt_cmp (op_neD hr.units) snd_neD (d_cmp (OpR.or op_lt (OpR.or (op_ownCmp (op := .Lt) (fun _ _ => rfl) T.own T.M_R_lt (ok_R_lt T) (hr.mono (by decide)) T.b_R_lt pass0) (op_ownCmpI (op := .Lt) (fun _ _ => rfl) T.own T.M_R_gt PySem.F.slot_int_lt (fun Q' h1 h2 q => dec_lt Q' h1 h2 q) (ok_R_gt T) (hr.mono (by decide)) T.b_R_gt pass0))) (snd_U2 snd_iLt T.g_Ratio) (dv 0) (dv 1) (nomark _)) (d_cmp (OpR.or op_lt (OpR.or (op_ownCmp (op := .Lt) (fun _ _ => rfl) T.own T.M_R_lt (ok_R_lt T) (hr.mono (by decide)) T.b_R_lt pass0) (op_ownCmpI (op := .Lt) (fun _ _ => rfl) T.own T.M_R_gt PySem.F.slot_int_lt (fun Q' h1 h2 q => dec_lt Q' h1 h2 q) (ok_R_gt T) (hr.mono (by decide)) T.b_R_gt pass0))) (snd_U2 snd_iLt T.g_Ratio) d_int (d_op (OpR.or op_sub (OpR.or (op_ownB (op := .Sub) T.own T.M_R_sub T.M_R_rsub.at_ (.inr ⟨_, rfl⟩) T.fi_sub T.ri_sub (ok_R_sub T) (hr.mono (by decide)) T.b_R_sub pass0) (op_ownI (op := .Sub) T.own T.M_R_sub T.M_R_rsub PySem.F.slot_int_sub PySem.F.fills_int_sub (fun Q' h1 h2 q => dec_sub Q' h1 h2 q) (ok_R_rsub T) (hr.mono (by decide)) T.b_R_rsub pass0))) (snd_U2 snd_iSub T.g_Ratio) (dv 1) (dv 0)) (nomark _)) (nomark _)))))) (dss_one (ds_ret d_bl)) dss_nil)
  (dss_cons (ds_if (PDW.pt (dw_or (PDW.pt (dw_and (dt_cmp (OpR.or op_gt (OpR.or (op_ownCmp (op := .Gt) (fun _ _ => rfl) T.own T.M_R_gt (ok_R_gt T) (hr.mono (by decide)) T.b_R_gt pass0) (op_ownCmpI (op := .Gt) (fun _ _ => rfl) T.own T.M_R_lt PySem.F.slot_int_gt (fun Q' h1 h2 q => dec_gt Q' h1 h2 q) (ok_R_lt T) (hr.mono (by decide)) T.b_R_lt pass0))) (snd_U2 snd_iGt T.g_Ratio) (dv 2) d_int (nomark _)) (dw_and1 (dt_cmp (op_neD hr.units) snd_neD (d_cmp (OpR.or op_lt (OpR.or (op_ownCmp (op := .Lt) (fun _ _ => rfl) T.own T.M_R_lt (ok_R_lt T) (hr.mono (by decide)) T.b_R_lt pass0) (op_ownCmpI (op := .Lt) (fun _ _ => rfl) T.own T.M_R_gt PySem.F.slot_int_lt (fun Q' h1 h2 q => dec_lt Q' h1 h2 q) (ok_R_gt T) (hr.mono (by decide)) T.b_R_gt pass0))) (snd_U2 snd_iLt T.g_Ratio) (dv 0) (dv 1) (nomark _)) (d_cmp (OpR.or op_lt (OpR.or (op_ownCmp (op := .Lt) (fun _ _ => rfl) T.own T.M_R_lt (ok_R_lt T) (hr.mono (by decide)) T.b_R_lt pass0) (op_ownCmpI (op := .Lt) (fun _ _ => rfl) T.own T.M_R_gt PySem.F.slot_int_lt (fun Q' h1 h2 q => dec_lt Q' h1 h2 q) (ok_R_gt T) (hr.mono (by decide)) T.b_R_gt pass0))) (snd_U2 snd_iLt T.g_Ratio) (d_op (OpR.or op_mulW (OpR.or (op_ownB (op := .Mult) T.own T.M_R_mul T.M_R_rmul.at_ (.inr ⟨_, rfl⟩) T.fi_mul T.ri_mul (ok_R_mul T) (hr.mono (by decide)) T.b_R_mul pass0) (op_ownI (op := .Mult) T.own T.M_R_mul T.M_R_rmul PySem.F.slot_int_mul PySem.F.fills_int_mul (fun Q' h1 h2 q => dec_mul Q' h1 h2 q) (ok_R_rmul T) (hr.mono (by decide)) T.b_R_rmul pass0))) (snd_U2 snd_iMul T.g_Ratio) (dv 0) (dv 2)) (d_op (OpR.or op_mulW (OpR.or (op_ownB (op := .Mult) T.own T.M_R_mul T.M_R_rmul.at_ (.inr ⟨_, rfl⟩) T.fi_mul T.ri_mul (ok_R_mul T) (hr.mono (by decide)) T.b_R_mul pass0) (op_ownI (op := .Mult) T.own T.M_R_mul T.M_R_rmul PySem.F.slot_int_mul PySem.F.fills_int_mul (fun Q' h1 h2 q => dec_mul Q' h1 h2 q) (ok_R_rmul T) (hr.mono (by decide)) T.b_R_rmul pass0))) (snd_U2 snd_iMul T.g_Ratio) (dv 1) (dv 2)) (nomark _)) (nomark _))))) (dw_or1 (PDW.pt (dw_and (dt_cmp (OpR.or op_lt (OpR.or (op_ownCmp (op := .Lt) (fun _ _ => rfl) T.own T.M_R_lt (ok_R_lt T) (hr.mono (by decide)) T.b_R_lt pass0) (op_ownCmpI (op := .Lt) (fun _ _ => rfl) T.own T.M_R_gt PySem.F.slot_int_lt (fun Q' h1 h2 q => dec_lt Q' h1 h2 q) (ok_R_gt T) (hr.mono (by decide)) T.b_R_gt pass0))) (snd_U2 snd_iLt T.g_Ratio) (dv 2) d_int (nomark _)) (dw_and1 (dt_cmp (op_neD hr.units) snd_neD (d_cmp (OpR.or op_lt (OpR.or (op_ownCmp (op := .Lt) (fun _ _ => rfl) T.own T.M_R_lt (ok_R_lt T) (hr.mono (by decide)) T.b_R_lt pass0) (op_ownCmpI (op := .Lt) (fun _ _ => rfl) T.own T.M_R_gt PySem.F.slot_int_lt (fun Q' h1 h2 q => dec_lt Q' h1 h2 q) (ok_R_gt T) (hr.mono (by decide)) T.b_R_gt pass0))) (snd_U2 snd_iLt T.g_Ratio) (dv 0) (dv 1) (nomark _)) (d_cmp (OpR.or op_lt (OpR.or (op_ownCmp (op := .Lt) (fun _ _ => rfl) T.own T.M_R_lt (ok_R_lt T) (hr.mono (by decide)) T.b_R_lt pass0) (op_ownCmpI (op := .Lt) (fun _ _ => rfl) T.own T.M_R_gt PySem.F.slot_int_lt (fun Q' h1 h2 q => dec_lt Q' h1 h2 q) (ok_R_gt T) (hr.mono (by decide)) T.b_R_gt pass0))) (snd_U2 snd_iLt T.g_Ratio) (d_op (OpR.or op_mulW (OpR.or (op_ownB (op := .Mult) T.own T.M_R_mul T.M_R_rmul.at_ (.inr ⟨_, rfl⟩) T.fi_mul T.ri_mul (ok_R_mul T) (hr.mono (by decide)) T.b_R_mul pass0) (op_ownI (op := .Mult) T.own T.M_R_mul T.M_R_rmul PySem.F.slot_int_mul PySem.F.fills_int_mul (fun Q' h1 h2 q => dec_mul Q' h1 h2 q) (ok_R_rmul T) (hr.mono (by decide)) T.b_R_rmul pass0))) (snd_U2 snd_iMul T.g_Ratio) (dv 1) (dv 2)) (d_op (OpR.or op_mulW (OpR.or (op_ownB (op := .Mult) T.own T.M_R_mul T.M_R_rmul.at_ (.inr ⟨_, rfl⟩) T.fi_mul T.ri_mul (ok_R_mul T) (hr.mono (by decide)) T.b_R_mul pass0) (op_ownI (op := .Mult) T.own T.M_R_mul T.M_R_rmul PySem.F.slot_int_mul PySem.F.fills_int_mul (fun Q' h1 h2 q => dec_mul Q' h1 h2 q) (ok_R_rmul T) (hr.mono (by decide)) T.b_R_rmul pass0))) (snd_U2 snd_iMul T.g_Ratio) (dv 0) (dv 2)) (nomark _)) (nomark _)))))))) (dss_one (ds_ret d_bl)) dss_nil)
  (dss_one (ds_ret (d_or (d_not (d_and (d_cmp (OpR.or op_lt (OpR.or (op_ownCmp (op := .Lt) (fun _ _ => rfl) T.own T.M_R_lt (ok_R_lt T) (hr.mono (by decide)) T.b_R_lt pass0) (op_ownCmpI (op := .Lt) (fun _ _ => rfl) T.own T.M_R_gt PySem.F.slot_int_lt (fun Q' h1 h2 q => dec_lt Q' h1 h2 q) (ok_R_gt T) (hr.mono (by decide)) T.b_R_gt pass0))) (snd_U2 snd_iLt T.g_Ratio) (dv 0) (dv 1) (nomark _)) (d_one (d_cmp (OpR.or op_lt (OpR.or (op_ownCmp (op := .Lt) (fun _ _ => rfl) T.own T.M_R_lt (ok_R_lt T) (hr.mono (by decide)) T.b_R_lt pass0) (op_ownCmpI (op := .Lt) (fun _ _ => rfl) T.own T.M_R_gt PySem.F.slot_int_lt (fun Q' h1 h2 q => dec_lt Q' h1 h2 q) (ok_R_gt T) (hr.mono (by decide)) T.b_R_gt pass0))) (snd_U2 snd_iLt T.g_Ratio) (dv 1) (dv 2) (nomark _))))) (d_one (d_cmp (OpR.or op_lt (OpR.or (op_ownCmp (op := .Lt) (fun _ _ => rfl) T.own T.M_R_lt (ok_R_lt T) (hr.mono (by decide)) T.b_R_lt pass0) (op_ownCmpI (op := .Lt) (fun _ _ => rfl) T.own T.M_R_gt PySem.F.slot_int_lt (fun Q' h1 h2 q => dec_lt Q' h1 h2 q) (ok_R_gt T) (hr.mono (by decide)) T.b_R_gt pass0))) (snd_U2 snd_iLt T.g_Ratio) (dv 0) (dv 2) (nomark _)))))))))⟩) (fun ds S Q hl h => ?_)
  match ds, h with
  | [x, y, z], ⟨r, s, t, l, l', ha, hb, hc, h⟩ =>
    simp only [startD, List.map_cons, List.map_nil, List.length_cons, List.length_nil, List.cons_append, List.nil_append, List.replicate, Nat.reduceAdd, Nat.reduceSub]
    have lab : BE _ [some x, some y, some z] S (decide (r < s)) := be_lt (ne_var (i := 0) rfl ha) (ne_var (i := 1) rfl hb) (by decide) (by decide)
    have n1 : TE _ [some x, some y, some z] S false := TE.eq (te_or (te_val (be_count lab (be_eq (ne_var (i := 0) rfl ha) (ne_var (i := 1) rfl hb)) (be_gt (ne_var (i := 0) rfl ha) (ne_var (i := 1) rfl hb) (by decide) (by decide)))) fun _ => te_or (te_val (be_neD (be_le (ne_var (i := 0) rfl ha) (ne_var (i := 1) rfl hb) (by decide) (by decide)) (be_notV (be_gt (ne_var (i := 0) rfl ha) (ne_var (i := 1) rfl hb) (by decide) (by decide))))) fun _ => te_val (be_neD (be_ge (ne_var (i := 0) rfl ha) (ne_var (i := 1) rfl hb) (by decide) (by decide)) (be_notV lab))) (or_no (by rw [decide_eq_true (o_count r s)]; rfl) (or_no (nbe (o_le r s)) (nbe (o_ge r s))))
    have n2 : TE _ [some x, some y, some z] S false := TE.eq (te_or (te_val (be_neD lab (be_lt (ne_add (ne_var (i := 0) rfl ha) (ne_var (i := 2) rfl hc) (by decide) (by decide)) (ne_add (ne_var (i := 1) rfl hb) (ne_var (i := 2) rfl hc) (by decide) (by decide)) (by decide) (by decide)))) fun _ => te_or (te_val (be_neD lab (be_lt (ne_neg (ne_var (i := 1) rfl hb) (by decide)) (ne_neg (ne_var (i := 0) rfl ha) (by decide)) (by decide) (by decide)))) fun _ => te_val (be_neD lab (be_lt (ne_int (i := 0) (n := 8) (by decide) (by decide)) (ne_sub (ne_var (i := 1) rfl hb) (ne_var (i := 0) rfl ha) (by decide) (by decide)) (by decide) (by decide)))) (or_no (nbe (o_add r s t)) (or_no (nbe (o_neg r s)) (nbe (o_zero r s))))
    have n3 : TE _ [some x, some y, some z] S false := TE.eq (te_or (TE.eq (te_and (te_val (be_gt (ne_var (i := 2) rfl hc) (ne_int (i := 0) (n := 8) (by decide) (by decide)) (by decide) (by decide))) fun e => te_val (BE.eq (be_neD lab (be_lt (ne_mul (ne_var (i := 0) rfl ha) (ne_var (i := 2) rfl hc) (by decide) (by decide)) (ne_mul (ne_var (i := 1) rfl hb) (ne_var (i := 2) rfl hc) (by decide) (by decide)) (by decide) (by decide))) (nbe (o_mul (by have := of_decide_eq_true e; rw [c0] at this; exact this))))) (Bool.and_false _)) fun _ => TE.eq (te_and (te_val (be_lt (ne_var (i := 2) rfl hc) (ne_int (i := 0) (n := 8) (by decide) (by decide)) (by decide) (by decide))) fun e => te_val (BE.eq (be_neD lab (be_lt (ne_mul (ne_var (i := 1) rfl hb) (ne_var (i := 2) rfl hc) (by decide) (by decide)) (ne_mul (ne_var (i := 0) rfl ha) (ne_var (i := 2) rfl hc) (by decide) (by decide)) (by decide) (by decide))) (nbe (o_mulN (by have := of_decide_eq_true e; rw [c0] at this; exact this))))) (Bool.and_false _)) rfl
    have last : BE _ [some x, some y, some z] S true := BE.eq (be_orV (be_notV (be_andB lab (be_lt (ne_var (i := 1) rfl hb) (ne_var (i := 2) rfl hc) (by decide) (by decide)))) (be_lt (ne_var (i := 0) rfl ha) (ne_var (i := 2) rfl hc) (by decide) (by decide))) (o_trans r s t)
    unfold sSeq sIf sNext
    dsimp only
    refine n1 _ ?_
    rw [if_neg Bool.false_ne_true]
    refine n2 _ ?_
    rw [if_neg Bool.false_ne_true]
    refine n3 _ ?_
    rw [if_neg Bool.false_ne_true]
    unfold sRet
    try dsimp only
    exact last _ h
end
end K1
set_option Elab.async false
set_option linter.all false
set_option maxRecDepth 100000
set_option maxHeartbeats 0
namespace K1
open PySem PySem.Spec PyProof.Rows L2 DL
section
variable {P : Program} {w : World} {K : PySem.W.Frag} {mg : Str → Option Value} {base : Heap}
def oNeS : OD := fun x y S Q => match x, y with
  | .str a, .str b => Q (.bl (!decide (a = b))) S
  | _, _ => False
theorem snd_sNe {mg : MG} : SndR mg rNe oNeS := by
  intro A S H x y dx dy Q Q' R hx hy q k
  cases dx <;> cases dy <;> first | exact q.elim | skip
  cases hx; cases hy
  refine ⟨rfl, ?_⟩
  rename_i i j
  have e : decide (V.str i = V.str j) = decide (i = j) := by simp
  rw [e]
  exact k _ S A _ H .refl R (.bl _) q
def oIntS : LD := fun ds S Q => match ds with
  | [.str a] => ∃ n, intText? a = some n ∧ a.length ≤ 640 ∧ Q (.int n) S
  | _ => False
theorem snd_intS {mg : MG} : SndC mg (fun xs H Q => ∃ a n, xs = [.str a] ∧ PySem.intText? a = some n ∧ a.length ≤ 640 ∧ Q (.int n) H) oIntS := by
  intro A S H xs ds Q Q' R l q k
  cases l with
  | nil => exact q.elim
  | cons h t =>
    cases t with
    | cons _ _ => cases h <;> exact q.elim
    | nil =>
      cases h <;> first | exact q.elim | skip
      obtain ⟨n, h1, h2, q⟩ := q
      exact ⟨_, n, rfl, h1, h2, k _ S A _ H .refl R (.int _) q⟩
theorem kt_ss : kt (.ty "str") (.ty "str") = some true := by decide +kernel
theorem tx0 {i : Int} (h : i.natAbs = 0) : txt i = "0" := by
  have e : i = 0 := by omega
  subst e
  decide +kernel
theorem tx_le {i : Int} (h : i.natAbs < 10 ^ 600) : (txt i).length ≤ 640 := by
  show (Str.ofString (toString i)).length ≤ 640
  rw [tx]
  exact (len_tx i h).1

def w_itold : WF := fun ds S Q => match ds with
  | [.str z] => ∃ i : Int, z = txt i ∧ i.natAbs < 10 ^ 600 ∧ Q (.int i) S
  | _ => False
theorem sc_integer_told : FnScope ["text", "digits"] ["text"] (defScope s_integer_told) := ⟨rfl, rfl, rfl, by decide +kernel, rfl, by decide +kernel, by decide +kernel⟩
theorem ok_integer_told (T : Tx K mg) : FnOk P w K mg base CX0 2 T.f_integer_told T.fd_integer_told ["text"] (spW ⟨K, mg⟩ 1 w_itold) := by
  refine fnD (k := 1) T.F_integer_told sc_integer_told (fun cdv A outer s H E hr => ⟨_, (dss_cons (ds_set (i := 1) sc_integer_told.nd (d_m1 (c := fun a _ => a.length ≤ sizeLine) (g := fun a b => .str (Txt.removeprefix a b)) (g' := fun a b => .str (Txt.removeprefix a b)) PySem.F.slot_str_removeprefix PySem.F.type_str_removeprefix mt_removeprefix (fun a b H Q h q => ⟨a, b, rfl, rfl, h, q⟩) (fun _ _ _ _ => .str _) (dv 0) d_str))
  (dss_cons (ds_if (PDW.pt (dw_or (dt_not (dt_truth (d_m0 (g := fun a => .bl (Txt.isascii a)) (g' := fun a => .bl (Txt.isascii a)) PySem.F.slot_str_isascii PySem.F.type_str_isascii mt_isascii (fun _ _ _ => .bl _) (dv 1)))) (dw_or1 (dt_not (dt_truth (d_m0 (g := fun a => .bl (Txt.isdigit a)) (g' := fun a => .bl (Txt.isdigit a)) PySem.F.slot_str_isdigit PySem.F.type_str_isdigit mt_isdigit (fun _ _ _ => .bl _) (dv 1))))))) (dss_one (ds_ret d_non)) dss_nil)
  (dss_cons (ds_if (PDW.pt (dw_and (dt_truth (d_m1 (c := fun _ _ => True) (g := fun a b => .bl (Txt.startswith a b)) (g' := fun a b => .bl (Txt.startswith a b)) PySem.F.slot_str_startswith PySem.F.type_str_startswith mt_startswith (fun a b H Q _ q => ⟨a, b, rfl, rfl, q⟩) (fun _ _ _ _ => .bl _) (dv 1) d_str)) (dw_and1 (dt_cmp op_ne snd_sNe (dv 0) d_str (nomark _))))) (dss_one (ds_ret d_non)) dss_nil)
  (dss_one (ds_ret (d_callTy call_int_str snd_intS T.z_int (da_cons (dv 0) da_nil) (hv := bt_int)))))))⟩) (fun ds S Q hl h => ?_)
  match ds, h with
  | [.str z], ⟨i, e, hi, h⟩ =>
    subst e
    have l1 := tx_le hi
    have e1 : txt i = SX.S (txL i) := tx i
    have e2 : Txt.removeprefix (txt i) "-" = SX.S (TL.numL i.natAbs) := by rw [e1]; exact noprefix i
    have e3 : intText? (txt i) = some i := by rw [e1]; exact int_tx i (Nat.le_trans (len_tx i hi).2 (by decide))
    simp only [true_and, and_true, oU2, oUn1, oL1, oS1, oR1, oJust, iAdd, iSub, iMul, iFdiv, iMod, iEq, iNe, iLt, iLe, iGt, iGe, iNeg, iAbs, DL.iStr, wFmt, wJs, wJoined, sNext, sSeq, sDrop, sRet, sRetN, sIf, sAsg, sPar, wOp, wVar, wC, wUn, wCons, wNil, wCB, wCall, wMake, wMakeSw, wCallSw, wProp, wFld, oI, oI0, oU, wTest, wAnd, wOr, wNot, wAndV, wOrV, wNotV, wIf, wTup, wLst, wLstM, gwName, gwNil, gwCons, gwTup, gwSub, oIx, oInt1, oAbsI, oLen, oGcd, oDivmod, oMax2, oMin2, oIsi, tyOf, clOf, kt_ii, kt_ib, kt_rr, kt_ir, kt_ri, kt_rb, kt_ni, kt_bi, kt_bb, kt_si, kt_ti, kt_li, kt_di, kt_nr, kt_br, kt_sr, kt_tr, kt_lr, kt_dr, oStrI, if_t1, if_f1, Bool.not_true, Bool.not_false, rt, startD, List.map_cons, List.map_nil, List.length_cons, List.length_nil, List.cons_append, List.nil_append, List.getElem?_cons_zero, List.getElem?_cons_succ, List.set_cons_zero, List.set_cons_succ, List.replicate, Nat.reduceAdd, Nat.reduceSub, Nat.zero_add, Nat.sub_self, Nat.add_sub_cancel, lk_top, lk_bot, w1, w2, numD_int, numD_ins, w_is_int, w_is_number, wi_Ratio, w_as_ratio, w_top, w_bottom, w1r, w2r, w_add, w_neg, w_abs, w_sub, w_mul, w_radd, w_rsub, w_rmul, w_floordiv, w_rfloordiv, w_mod, w_rmod, w_str, w_repr, w_eq, w_quotient, wCutTo, wTruth, oPow, sFor, sForR, at0', at1, at2, forStep, w_low, w_whole, w_fraction, wi_Ratio, w_made, wMeth, oBool1, lk_ex, oOwnA, w_excess, w_lt, w_le, w_gt, w_ge, w_ne, w_bool, w_raised, wLc, wipeD, lcStep, wM0, wM1, oNeS, oIntS, kt_ss, oIsN, wPart, wTruth]
    refine ⟨line5 (by omega), ?_⟩
    rw [e2, isascii_num, isdigit_num, starts0]
    simp only [true_and, and_true, oU2, oUn1, oL1, oS1, oR1, oJust, iAdd, iSub, iMul, iFdiv, iMod, iEq, iNe, iLt, iLe, iGt, iGe, iNeg, iAbs, DL.iStr, wFmt, wJs, wJoined, sNext, sSeq, sDrop, sRet, sRetN, sIf, sAsg, sPar, wOp, wVar, wC, wUn, wCons, wNil, wCB, wCall, wMake, wMakeSw, wCallSw, wProp, wFld, oI, oI0, oU, wTest, wAnd, wOr, wNot, wAndV, wOrV, wNotV, wIf, wTup, wLst, wLstM, gwName, gwNil, gwCons, gwTup, gwSub, oIx, oInt1, oAbsI, oLen, oGcd, oDivmod, oMax2, oMin2, oIsi, tyOf, clOf, kt_ii, kt_ib, kt_rr, kt_ir, kt_ri, kt_rb, kt_ni, kt_bi, kt_bb, kt_si, kt_ti, kt_li, kt_di, kt_nr, kt_br, kt_sr, kt_tr, kt_lr, kt_dr, oStrI, if_t1, if_f1, Bool.not_true, Bool.not_false, rt, startD, List.map_cons, List.map_nil, List.length_cons, List.length_nil, List.cons_append, List.nil_append, List.getElem?_cons_zero, List.getElem?_cons_succ, List.set_cons_zero, List.set_cons_succ, List.replicate, Nat.reduceAdd, Nat.reduceSub, Nat.zero_add, Nat.sub_self, Nat.add_sub_cancel, lk_top, lk_bot, w1, w2, numD_int, numD_ins, w_is_int, w_is_number, wi_Ratio, w_as_ratio, w_top, w_bottom, w1r, w2r, w_add, w_neg, w_abs, w_sub, w_mul, w_radd, w_rsub, w_rmul, w_floordiv, w_rfloordiv, w_mod, w_rmod, w_str, w_repr, w_eq, w_quotient, wCutTo, wTruth, oPow, sFor, sForR, at0', at1, at2, forStep, w_low, w_whole, w_fraction, wi_Ratio, w_made, wMeth, oBool1, lk_ex, oOwnA, w_excess, w_lt, w_le, w_gt, w_ge, w_ne, w_bool, w_raised, wLc, wipeD, lcStep, wM0, wM1, oNeS, oIntS, kt_ss, oIsN, wPart, wTruth]
    by_cases h0 : i.natAbs = 0
    · rw [decide_eq_true h0]
      simp only [true_and, and_true, oU2, oUn1, oL1, oS1, oR1, oJust, iAdd, iSub, iMul, iFdiv, iMod, iEq, iNe, iLt, iLe, iGt, iGe, iNeg, iAbs, DL.iStr, wFmt, wJs, wJoined, sNext, sSeq, sDrop, sRet, sRetN, sIf, sAsg, sPar, wOp, wVar, wC, wUn, wCons, wNil, wCB, wCall, wMake, wMakeSw, wCallSw, wProp, wFld, oI, oI0, oU, wTest, wAnd, wOr, wNot, wAndV, wOrV, wNotV, wIf, wTup, wLst, wLstM, gwName, gwNil, gwCons, gwTup, gwSub, oIx, oInt1, oAbsI, oLen, oGcd, oDivmod, oMax2, oMin2, oIsi, tyOf, clOf, kt_ii, kt_ib, kt_rr, kt_ir, kt_ri, kt_rb, kt_ni, kt_bi, kt_bb, kt_si, kt_ti, kt_li, kt_di, kt_nr, kt_br, kt_sr, kt_tr, kt_lr, kt_dr, oStrI, if_t1, if_f1, Bool.not_true, Bool.not_false, rt, startD, List.map_cons, List.map_nil, List.length_cons, List.length_nil, List.cons_append, List.nil_append, List.getElem?_cons_zero, List.getElem?_cons_succ, List.set_cons_zero, List.set_cons_succ, List.replicate, Nat.reduceAdd, Nat.reduceSub, Nat.zero_add, Nat.sub_self, Nat.add_sub_cancel, lk_top, lk_bot, w1, w2, numD_int, numD_ins, w_is_int, w_is_number, wi_Ratio, w_as_ratio, w_top, w_bottom, w1r, w2r, w_add, w_neg, w_abs, w_sub, w_mul, w_radd, w_rsub, w_rmul, w_floordiv, w_rfloordiv, w_mod, w_rmod, w_str, w_repr, w_eq, w_quotient, wCutTo, wTruth, oPow, sFor, sForR, at0', at1, at2, forStep, w_low, w_whole, w_fraction, wi_Ratio, w_made, wMeth, oBool1, lk_ex, oOwnA, w_excess, w_lt, w_le, w_gt, w_ge, w_ne, w_bool, w_raised, wLc, wipeD, lcStep, wM0, wM1, oNeS, oIntS, kt_ss, oIsN, wPart, wTruth]
      rw [decide_eq_true (tx0 h0)]
      simp only [true_and, and_true, oU2, oUn1, oL1, oS1, oR1, oJust, iAdd, iSub, iMul, iFdiv, iMod, iEq, iNe, iLt, iLe, iGt, iGe, iNeg, iAbs, DL.iStr, wFmt, wJs, wJoined, sNext, sSeq, sDrop, sRet, sRetN, sIf, sAsg, sPar, wOp, wVar, wC, wUn, wCons, wNil, wCB, wCall, wMake, wMakeSw, wCallSw, wProp, wFld, oI, oI0, oU, wTest, wAnd, wOr, wNot, wAndV, wOrV, wNotV, wIf, wTup, wLst, wLstM, gwName, gwNil, gwCons, gwTup, gwSub, oIx, oInt1, oAbsI, oLen, oGcd, oDivmod, oMax2, oMin2, oIsi, tyOf, clOf, kt_ii, kt_ib, kt_rr, kt_ir, kt_ri, kt_rb, kt_ni, kt_bi, kt_bb, kt_si, kt_ti, kt_li, kt_di, kt_nr, kt_br, kt_sr, kt_tr, kt_lr, kt_dr, oStrI, if_t1, if_f1, Bool.not_true, Bool.not_false, rt, startD, List.map_cons, List.map_nil, List.length_cons, List.length_nil, List.cons_append, List.nil_append, List.getElem?_cons_zero, List.getElem?_cons_succ, List.set_cons_zero, List.set_cons_succ, List.replicate, Nat.reduceAdd, Nat.reduceSub, Nat.zero_add, Nat.sub_self, Nat.add_sub_cancel, lk_top, lk_bot, w1, w2, numD_int, numD_ins, w_is_int, w_is_number, wi_Ratio, w_as_ratio, w_top, w_bottom, w1r, w2r, w_add, w_neg, w_abs, w_sub, w_mul, w_radd, w_rsub, w_rmul, w_floordiv, w_rfloordiv, w_mod, w_rmod, w_str, w_repr, w_eq, w_quotient, wCutTo, wTruth, oPow, sFor, sForR, at0', at1, at2, forStep, w_low, w_whole, w_fraction, wi_Ratio, w_made, wMeth, oBool1, lk_ex, oOwnA, w_excess, w_lt, w_le, w_gt, w_ge, w_ne, w_bool, w_raised, wLc, wipeD, lcStep, wM0, wM1, oNeS, oIntS, kt_ss, oIsN, wPart, wTruth]
      exact ⟨i, e3, l1, h⟩
    · rw [decide_eq_false h0]
      simp only [true_and, and_true, oU2, oUn1, oL1, oS1, oR1, oJust, iAdd, iSub, iMul, iFdiv, iMod, iEq, iNe, iLt, iLe, iGt, iGe, iNeg, iAbs, DL.iStr, wFmt, wJs, wJoined, sNext, sSeq, sDrop, sRet, sRetN, sIf, sAsg, sPar, wOp, wVar, wC, wUn, wCons, wNil, wCB, wCall, wMake, wMakeSw, wCallSw, wProp, wFld, oI, oI0, oU, wTest, wAnd, wOr, wNot, wAndV, wOrV, wNotV, wIf, wTup, wLst, wLstM, gwName, gwNil, gwCons, gwTup, gwSub, oIx, oInt1, oAbsI, oLen, oGcd, oDivmod, oMax2, oMin2, oIsi, tyOf, clOf, kt_ii, kt_ib, kt_rr, kt_ir, kt_ri, kt_rb, kt_ni, kt_bi, kt_bb, kt_si, kt_ti, kt_li, kt_di, kt_nr, kt_br, kt_sr, kt_tr, kt_lr, kt_dr, oStrI, if_t1, if_f1, Bool.not_true, Bool.not_false, rt, startD, List.map_cons, List.map_nil, List.length_cons, List.length_nil, List.cons_append, List.nil_append, List.getElem?_cons_zero, List.getElem?_cons_succ, List.set_cons_zero, List.set_cons_succ, List.replicate, Nat.reduceAdd, Nat.reduceSub, Nat.zero_add, Nat.sub_self, Nat.add_sub_cancel, lk_top, lk_bot, w1, w2, numD_int, numD_ins, w_is_int, w_is_number, wi_Ratio, w_as_ratio, w_top, w_bottom, w1r, w2r, w_add, w_neg, w_abs, w_sub, w_mul, w_radd, w_rsub, w_rmul, w_floordiv, w_rfloordiv, w_mod, w_rmod, w_str, w_repr, w_eq, w_quotient, wCutTo, wTruth, oPow, sFor, sForR, at0', at1, at2, forStep, w_low, w_whole, w_fraction, wi_Ratio, w_made, wMeth, oBool1, lk_ex, oOwnA, w_excess, w_lt, w_le, w_gt, w_ge, w_ne, w_bool, w_raised, wLc, wipeD, lcStep, wM0, wM1, oNeS, oIntS, kt_ss, oIsN, wPart, wTruth]
      exact ⟨i, e3, l1, h⟩
theorem part_two (t b : Int) : Txt.partition (txt t ++ "/" ++ txt b) "/" = (txt t, ("/" : Str), txt b) := by
  have e : txt t ++ "/" ++ txt b = SX.S (txL t ++ 47 :: txL b) := by
    rw [show txt t = SX.S (txL t) from tx t, show txt b = SX.S (txL b) from tx b, slash_S]
    refine TL.ext_tl ?_
    rw [TL.tl_append, TL.tl_append]
    show txL t ++ [47] ++ txL b = txL t ++ 47 :: txL b
    simp
  rw [e, slash_S, SX.partition_some (p := txL t) (q := txL b) (by decide) (by rw [par_hit _ _ _ (no_slash t)]; rfl), ← tx t, ← tx b]
  rfl
theorem part_one (t : Int) : Txt.partition (txt t) "/" = (txt t, Str.empty, Str.empty) := by
  rw [show txt t = SX.S (txL t) from tx t, slash_S, SX.partition_none (by decide) (par_miss _ _ (no_slash t))]
  rfl
theorem slash_l : (("/" : Str).length == 0) = false := by decide +kernel
theorem slash_t : ((("/" : Str).length : Int) != 0) = true := by decide +kernel
theorem empty_t : ((Str.empty.length : Int) != 0) = false := by decide +kernel
theorem gc_nat (t b : Int) : ((Nat.gcd t.natAbs b.natAbs : Nat) : Int) = gc t b := rfl

def w_rtold : WF := fun ds S Q => match ds with
  | [.str z] => ∃ t b : Int, Nrm (t, b) ∧ t.natAbs < 10 ^ 600 ∧ b.natAbs < 10 ^ 600 ∧ z = strR (t, b) ∧ Q (rt (t, b)) S
  | _ => False
theorem sc_ratio_told : FnScope ["text", "upper", "slash", "lower", "top", "bottom"] ["text"] (defScope s_ratio_told) := ⟨rfl, rfl, rfl, by decide +kernel, rfl, by decide +kernel, by decide +kernel⟩
theorem ok_ratio_told (T : Tx K mg) : FnOk P w K mg base CX0 7 T.f_ratio_told T.fd_ratio_told ["text"] (spW ⟨K, mg⟩ 1 w_rtold) := by
  refine fnD (k := 6) T.F_ratio_told sc_ratio_told (fun cdv A outer s H E hr => ⟨_, (dss_cons (ds_if (dt_not (dt_truth (d_callB call_isi (snd_isi T.isi) T.z_isinstance (da_cons (dv 0) (da_cons (d_ty (n := "str") T.z_str (hv := bt_str)) da_nil)) (hv := bt_isinstance)))) (dss_one (ds_ret d_non)) dss_nil)
  (dss_cons (ds_asg (d_partition (dv 0) d_str) (dg_tup (n := 3) rfl (dgs_cons (dg_name (i := 1) sc_ratio_told.nd) (dgs_cons (dg_name (i := 2) sc_ratio_told.nd) (dgs_cons (dg_name (i := 3) sc_ratio_told.nd) dgs_nil)))))
  (dss_cons (ds_set (i := 4) sc_ratio_told.nd (d_call (ok_integer_told T) (hr.mono (by decide)) T.m_integer_told T.F_integer_told.kp T.b_integer_told (da_cons (dv 1) da_nil)))
  (dss_cons (ds_set (i := 5) sc_ratio_told.nd (d_if (dt_truth (dv 2)) (d_call (ok_integer_told T) (hr.mono (by decide)) T.m_integer_told T.F_integer_told.kp T.b_integer_told (da_cons (dv 3) da_nil)) d_int))
  (dss_cons (ds_if (PDW.pt (dw_or (dt_cmp op_isN snd_isN (dv 4) d_non (nomark _)) (dw_or1 (dt_cmp op_isN snd_isN (dv 5) d_non (nomark _))))) (dss_one (ds_ret d_non)) dss_nil)
  (dss_cons (ds_if (PDW.pt (dw_and (dt_truth (dv 2)) (dw_and1 (PDW.pt (dw_or (dt_cmp op_lt snd_iLt (dv 5) d_int (nomark _)) (dw_or1 (dt_cmp op_gt snd_iGt (d_callF cr_gcd snd_gcd T.g_gcd (da_cons (dv 4) (da_cons (dv 5) da_nil))) d_int (nomark _)))))))) (dss_one (ds_ret d_non)) dss_nil)
  (dss_one (ds_ret (d_make T.mkk (ok_R_init T) (hr.mono (by decide)) T.g_Ratio T.b_R_init2 T.v_R_init2 (fun _ _ => .nil) (da_cons (dv 4) (da_cons (dv 5) da_nil)))))))))))⟩) (fun ds S Q hl h => ?_)
  match ds, h with
  | [.str z], ⟨t, b, np, ht, hb, e, h⟩ =>
    subst e
    have b0 : 0 < b := np.pos
    have bz : b.natAbs < 2 ^ 9000 := Nat.lt_of_lt_of_le hb (by decide +kernel)
    have lt1 := tx_le ht
    have lt2 := tx_le hb
    have hmk : mkR t b = (t, b) := np.mk'
    have one : gc t b = 1 := np.one
    simp only [true_and, and_true, oU2, oUn1, oL1, oS1, oR1, oJust, iAdd, iSub, iMul, iFdiv, iMod, iEq, iNe, iLt, iLe, iGt, iGe, iNeg, iAbs, DL.iStr, wFmt, wJs, wJoined, sNext, sSeq, sDrop, sRet, sRetN, sIf, sAsg, sPar, wOp, wVar, wC, wUn, wCons, wNil, wCB, wCall, wMake, wMakeSw, wCallSw, wProp, wFld, oI, oI0, oU, wTest, wAnd, wOr, wNot, wAndV, wOrV, wNotV, wIf, wTup, wLst, wLstM, gwName, gwNil, gwCons, gwTup, gwSub, oIx, oInt1, oAbsI, oLen, oGcd, oDivmod, oMax2, oMin2, oIsi, tyOf, clOf, kt_ii, kt_ib, kt_rr, kt_ir, kt_ri, kt_rb, kt_ni, kt_bi, kt_bb, kt_si, kt_ti, kt_li, kt_di, kt_nr, kt_br, kt_sr, kt_tr, kt_lr, kt_dr, oStrI, if_t1, if_f1, Bool.not_true, Bool.not_false, rt, startD, List.map_cons, List.map_nil, List.length_cons, List.length_nil, List.cons_append, List.nil_append, List.getElem?_cons_zero, List.getElem?_cons_succ, List.set_cons_zero, List.set_cons_succ, List.replicate, Nat.reduceAdd, Nat.reduceSub, Nat.zero_add, Nat.sub_self, Nat.add_sub_cancel, lk_top, lk_bot, w1, w2, numD_int, numD_ins, w_is_int, w_is_number, wi_Ratio, w_as_ratio, w_top, w_bottom, w1r, w2r, w_add, w_neg, w_abs, w_sub, w_mul, w_radd, w_rsub, w_rmul, w_floordiv, w_rfloordiv, w_mod, w_rmod, w_str, w_repr, w_eq, w_quotient, wCutTo, wTruth, oPow, sFor, sForR, at0', at1, at2, forStep, w_low, w_whole, w_fraction, wi_Ratio, w_made, wMeth, oBool1, lk_ex, oOwnA, w_excess, w_lt, w_le, w_gt, w_ge, w_ne, w_bool, w_raised, wLc, wipeD, lcStep, wM0, wM1, oNeS, oIntS, kt_ss, oIsN, wPart, wTruth, w_itold]
    by_cases b1 : b = 1
    · subst b1
      have hs : strR (t, 1) = txt t := by rw [strR_eq, if_pos rfl]
      rw [hs, part_one]
      refine ⟨⟨slash_l, line5 (by omega)⟩, t, rfl, ht, line5 (by rw [len_empty]; decide), ?_⟩
      dsimp only
      rw [empty_t, if_f1]
      refine ⟨line5 (by rw [len_empty]; decide), ?_⟩
      rw [if_f1]
      rw [hmk]
      exact ⟨⟨by decide, bz⟩, h⟩
    · have hs : strR (t, b) = txt t ++ "/" ++ txt b := by rw [strR_eq, if_neg b1]
      have ll : (txt t ++ "/" ++ txt b).length ≤ 16000000 := by rw [len_app, len_app, len_slash]; omega
      rw [hs, part_two]
      refine ⟨⟨slash_l, line5 ll⟩, t, rfl, ht, line5 (by rw [len_slash]; decide), ?_⟩
      dsimp only
      rw [slash_t, if_t1]
      refine ⟨b, rfl, hb, line5 (by rw [len_slash]; decide), ?_⟩
      rw [if_t1, decide_eq_false (show ¬ b < 2 by omega), if_f1]
      rw [decide_eq_false (show ¬ (1 : Int) < ((Nat.gcd t.natAbs b.natAbs : Nat) : Int) by rw [gc_nat, one]; decide), if_f1, hmk]
      exact ⟨⟨b0, bz⟩, h⟩
def w_read : WF := fun ds S Q => match ds with
  | [.cls c, .str z] => ∃ t b : Int, Nrm (t, b) ∧ t.natAbs < 10 ^ 600 ∧ b.natAbs < 10 ^ 600 ∧ z = strR (t, b) ∧ Q (rt (t, b)) S
  | _ => False
theorem sc_R_read : FnScope ["cls", "text", "ratio"] ["cls", "text"] (defScope s_R_read) := ⟨rfl, rfl, rfl, by decide +kernel, rfl, by decide +kernel, by decide +kernel⟩
theorem ok_R_read (T : Tx K mg) : FnOk P w K mg base CX0 8 T.f_R_read T.fd_R_read ["cls", "text"] (spW ⟨K, mg⟩ 2 w_read) := by
  refine fnD (k := 7) T.F_R_read sc_R_read (fun cdv A outer s H E hr => ⟨_, (dss_cons (ds_set (i := 2) sc_R_read.nd (d_call (ok_ratio_told T) (hr.mono (by decide)) T.m_ratio_told T.F_ratio_told.kp T.b_ratio_told (da_cons (dv 1) da_nil)))
  (dss_cons (ds_if (dt_cmp op_isN snd_isN (dv 2) d_non (nomark _)) (dss_one ds_never) dss_nil)
  (dss_one (ds_ret (dv 2)))))⟩) (fun ds S Q hl h => ?_)
  match ds, h with
  | [.cls c, .str z], ⟨t, b, np, ht, hb, e, h⟩ =>
    simp only [true_and, and_true, oU2, oUn1, oL1, oS1, oR1, oJust, iAdd, iSub, iMul, iFdiv, iMod, iEq, iNe, iLt, iLe, iGt, iGe, iNeg, iAbs, DL.iStr, wFmt, wJs, wJoined, sNext, sSeq, sDrop, sRet, sRetN, sIf, sAsg, sPar, wOp, wVar, wC, wUn, wCons, wNil, wCB, wCall, wMake, wMakeSw, wCallSw, wProp, wFld, oI, oI0, oU, wTest, wAnd, wOr, wNot, wAndV, wOrV, wNotV, wIf, wTup, wLst, wLstM, gwName, gwNil, gwCons, gwTup, gwSub, oIx, oInt1, oAbsI, oLen, oGcd, oDivmod, oMax2, oMin2, oIsi, tyOf, clOf, kt_ii, kt_ib, kt_rr, kt_ir, kt_ri, kt_rb, kt_ni, kt_bi, kt_bb, kt_si, kt_ti, kt_li, kt_di, kt_nr, kt_br, kt_sr, kt_tr, kt_lr, kt_dr, oStrI, if_t1, if_f1, Bool.not_true, Bool.not_false, rt, startD, List.map_cons, List.map_nil, List.length_cons, List.length_nil, List.cons_append, List.nil_append, List.getElem?_cons_zero, List.getElem?_cons_succ, List.set_cons_zero, List.set_cons_succ, List.replicate, Nat.reduceAdd, Nat.reduceSub, Nat.zero_add, Nat.sub_self, Nat.add_sub_cancel, lk_top, lk_bot, w1, w2, numD_int, numD_ins, w_is_int, w_is_number, wi_Ratio, w_as_ratio, w_top, w_bottom, w1r, w2r, w_add, w_neg, w_abs, w_sub, w_mul, w_radd, w_rsub, w_rmul, w_floordiv, w_rfloordiv, w_mod, w_rmod, w_str, w_repr, w_eq, w_quotient, wCutTo, wTruth, oPow, sFor, sForR, at0', at1, at2, forStep, w_low, w_whole, w_fraction, wi_Ratio, w_made, wMeth, oBool1, lk_ex, oOwnA, w_excess, w_lt, w_le, w_gt, w_ge, w_ne, w_bool, w_raised, wLc, wipeD, lcStep, wM0, wM1, oNeS, oIntS, kt_ss, oIsN, wPart, wTruth, w_itold, w_rtold]
    exact ⟨t, b, np, ht, hb, e, h⟩
end
end K1
set_option Elab.async false
set_option linter.all false
set_option maxRecDepth 100000
set_option maxHeartbeats 0
namespace K1
open PySem PySem.Spec PyProof.Rows L2 DL
section
variable {X : Cx} {pos : Pos}
def sPar3 (i j l : Nat) (wl : WL) : WS := fun DD ρ S => wl ρ S fun ds S1 => match ds with
  | [d, e, f] => DD.nx (((ρ.set i (some d)).set j (some e)).set l (some f)) S1
  | _ => False
theorem ds_par3 {i j l : Nat} {x y z : Str} {a b c : Expr} {ta : TA} {wa : WL} {px py pz pt : Pos} {kt k2 pt2} (hc : X.calm = true) (hN : X.N.Nodup) (ha : PDA X [a, b, c] ta wa) (hi : X.N[i]? = some x := by rfl) (hj : X.N[j]? = some y := by rfl) (hl : X.N[l]? = some z := by rfl) (hij : i ≠ j := by decide) (hil : i ≠ l := by decide) (hjl : j ≠ l := by decide)
    (hx : X.env.scope.names.lookup x = some .local := by rfl) (hy : X.env.scope.names.lookup y = some .local := by rfl) (hz : X.env.scope.names.lookup z = some .local := by rfl)
    (hw : swappedStores [.Tuple [.Name x px, .Name y py, .Name z pz] kt pt] (.Tuple [a, b, c] k2 pt2) X.env = pure (some [x, y, z]) := by rfl)
    (hs : swapsWithSole [.Tuple [.Name x px, .Name y py, .Name z pz] kt pt] (.Tuple [a, b, c] k2 pt2) pos.line X.env = pure false := by rfl) :
    PDS X (.Assign [.Tuple [.Name x px, .Name y py, .Name z pz] kt pt] (.Tuple [a, b, c] k2 pt2) pos) (tPar3 i j l ta) (sPar3 i j l wa) := by
  refine ⟨ps_par3 hc hN hi hj hl hij hil hjl hx hy hz ha.pe hw hs, fun A S σ H ρ D D' R E h k => ?_⟩
  refine ha.sd A S σ H ρ _ _ R E h fun ds S1 A1 vs H1 g1 R1 hv q1 => ?_
  cases hv with
  | nil => exact q1.elim
  | cons h1 tv =>
    cases tv with
    | nil => exact q1.elim
    | cons h2 tv2 =>
      cases tv2 with
      | nil => exact q1.elim
      | cons h3 tv3 =>
        cases tv3 with
        | cons _ _ => exact q1.elim
        | nil => exact ⟨_, _, _, rfl, k.nx _ S1 A1 _ H1 g1 R1 ((((E.mono g1).set i h1).set j h2).set l h3) q1⟩
end
section
variable {X : Cx} {k n : Nat} {g C p' : Addr} {mc : Value} {fd : FuncData} {ps : List Str} {w : WF} {c m : Str} {pos apos : Pos} {e o : Expr} {es : List Expr} {t : TA} {wl : WL} {to : L2.TE} {wo : WD}
def wCMeth (c : Str) (n : Nat) (w : WF) (wo : WD) (wl : WL) : WD := fun ρ S Q => wo ρ S fun x S1 => match x with
  | .cls c' => c' = c ∧ wl ρ S1 fun ds S2 => ds.length + 1 = n ∧ w (.cls c' :: ds) S2 Q
  | _ => False
theorem d_cmeth {pl : Sem Bool} (ho : PD X o to wo) (hC : X.mg c = some (.ref C)) (r : ClX.CRead X.K C mc) (cm : ClX.CMet X.K C mc m p' g) (F : FnOk X.prog X.w X.K X.mg X.base CX0 k g fd ps (spW X.G n w)) (hr : Room k X.A) (hb : Binds X.K fd ps []) (ha : PDA X (e :: es) t wl)
    (hst : starEach (e :: es) X.env = (false, eval e X.env) :: starEach es X.env := by rfl) (hpl : (backTo pos (starEach es X.env)).any (·.1) = false := by rfl)
    (ht : eval (.Call (.Attribute o m apos) (e :: es) [] pos) X.env = (do
      let ov ← eval o X.env
      standAt apos.atName
      let (f, first) ← holding [ov] (getMethod ov m pl)
      callWith pos f first (backTo pos (starEach (e :: es) X.env)) (backToKw pos (keywordEach [] X.env))) := by rfl) :
    PD X (.Call (.Attribute o m apos) (e :: es) [] pos) (ClX.tCMeth C (fun vs H Q E => spW X.G n w (vs ++ []) H Q E) E0 to t) (wCMeth c n w wo wl) := by
  refine ⟨ClX.pe_cmeth (pl := pl) ho.pe r cm (F.raw hb .nil) hr pass0 ha.pe hst hpl ht, fun A S σ H ρ Q Q' R E h k => ?_⟩
  refine ho.sd A S σ H ρ _ _ R E h fun d S1 A1 v H1 g1 R1 hv q1 => ?_
  cases hv <;> first | exact q1.elim | skip
  rename_i c' C' ec
  obtain ⟨rfl, q1⟩ := q1
  have ec' := (show X.mg _ = _ from ec)
  rw [hC] at ec'
  cases ec'
  refine ⟨rfl, ?_⟩
  refine ha.sd A1 S1 σ H1 ρ _ _ R1 (E.mono g1) q1 fun ds S2 A2 vs H2 g2 R2 hvs q2 => ?_
  exact ⟨A2, S2, .cls c' :: ds, Q', R2, by rw [List.append_nil]; exact .cons ((Is.cls hC).mono (Grow.refl)) hvs, q2.1, q2.2, k.mono (g1.trans g2)⟩
end
section
variable {P : Program} {w : World} {K : PySem.W.Frag} {mg : Str → Option Value} {base : Heap}
theorem lcD_cnt {N : Nat} {all : List D} {step : D → MS → (MS → Prop) → Prop} {fin : MS → Prop} (I : Nat → MS → Prop) (hs : ∀ n, n < N → ∀ d ∈ all, ∀ S k, I n S → (∀ S', I (n + 1) S' → k S') → step d S k) (hf : ∀ S, I N S → fin S) :
    ∀ (ds : List D) (n : Nat) (S : MS), (∀ d ∈ ds, d ∈ all) → n + ds.length = N → I n S → lcD ds step fin S
  | [], n, S, _, hn, i => hf S (by simp at hn; subst hn; exact i)
  | d :: ds, n, S, ha, hn, i => hs n (by simp at hn; omega) d (ha d List.mem_cons_self) S _ i fun S' i' => lcD_cnt I hs hf ds (n + 1) S' (fun e he => ha e (List.mem_cons_of_mem _ he)) (by simp at hn; omega) i'
theorem bls_true : ∀ {ds : List D}, (∀ d ∈ ds, d = .bl true) → ∃ bs, bls ds = some bs ∧ bs.all id = true
  | [], _ => ⟨[], rfl, rfl⟩
  | d :: ds, h => by
    obtain ⟨bs, h1, h2⟩ := bls_true (ds := ds) fun e he => h e (List.mem_cons_of_mem _ he)
    rw [h d List.mem_cons_self]
    exact ⟨true :: bs, by show (bls ds).map _ = _; rw [h1]; rfl, by simp [h2]⟩

def Num (x : D) : Prop := (∃ p, x = rt p ∧ Low p) ∨ ∃ i : Int, x = .int i ∧ i.natAbs < 2 ^ 140
theorem Low.nrm {p : Int × Int} (h : Low p) : Nrm p := ⟨h.pos, h.one⟩
theorem Num.nb {x : D} (h : Num x) : ∃ k r, Nb k x r 141 := by
  rcases h with ⟨p, rfl, lp⟩ | ⟨i, rfl, hi⟩
  · exact ⟨true, _, .rt lp.nrm lp.sz⟩
  · exact ⟨false, _, .int (by decide) (nmono hi (by decide))⟩
theorem pick {x0 x1 x2 x3 : D} (h0 : Num x0) (h1 : Num x1) (h2 : Num x2) (h3 : Num x3) {a : Int} (a0 : 0 ≤ a) (a1 : a < 4) :
    ∃ x y z, L2.atI [x0, x1, x2, x3] a = some x ∧ L2.atI [x0, x1, x2, x3] (a - 1) = some y ∧ L2.atI [x0, x1, x2, x3] (a - 2) = some z ∧ Num x ∧ Num y ∧ Num z := by
  have : a = 0 ∨ a = 1 ∨ a = 2 ∨ a = 3 := by omega
  rcases this with rfl | rfl | rfl | rfl
  · exact ⟨x0, x3, x2, rfl, rfl, rfl, h0, h3, h2⟩
  · exact ⟨x1, x0, x3, rfl, rfl, rfl, h1, h0, h3⟩
  · exact ⟨x2, x1, x0, rfl, rfl, rfl, h2, h1, h0⟩
  · exact ⟨x3, x2, x1, rfl, rfl, rfl, h3, h2, h1⟩
theorem three {α : Type} : ∀ {l : List α}, l.length = 3 → ∃ a b c, l = [a, b, c]
  | [a, b, c], _ => ⟨a, b, c, rfl⟩

theorem get_oldM {S : MS} {m : Nat} {x y : List D} (h : S[m]? = some x) : (S ++ [y])[m]? = some x := by
  rw [List.getElem?_append_left (List.getElem?_eq_some_iff.mp h).1]
  exact h

theorem par3_ix {DD : DEnds} {ρ : DEnv} {xs : List D} {a : Int} {x y z : D} {S : MS} (e1 : ρ[1]? = some (some (.lst xs))) (e3 : ρ[3]? = some (some (.int a))) (ex : L2.atI xs a = some x) (ey : L2.atI xs (a - 1) = some y) (ez : L2.atI xs (a - 2) = some z) (h : DD.nx (((ρ.set 4 (some x)).set 5 (some y)).set 6 (some z)) S) :
    sPar3 4 5 6 (wCons (wOp oIx (wVar 1) (wVar 3)) (wCons (wOp oIx (wVar 1) (wOp (oJust iSub) (wVar 3) (wC (D.int 1)))) (wCons (wOp oIx (wVar 1) (wOp (oJust iSub) (wVar 3) (wC (D.int 2)))) wNil))) DD ρ S := by
  simp only [sPar3, wCons, wNil, wOp, wVar, wC, e1, e3, oIx, oJust, iSub, ex, ey, ez]
  exact h
theorem mk_if {ρ : DEnv} {S : MS} {Q : D → MS → Prop} {x : D} {i : Nat} (e : ρ[i]? = some (some x)) (hx : Num x) (h : ∀ p, Low p → Q (rt p) S) :
    wIf (wTest (wCB (oIsi kt) (wCons (wVar i) (wCons (wC (D.cls "Ratio")) wNil)))) (wVar i) (wMake "Ratio" 2 wi_Ratio [D.int 1] (wCons (wVar i) wNil)) ρ S Q := by
  rcases hx with ⟨p, rfl, lp⟩ | ⟨j, rfl, hj⟩
  · simp only [wIf, wTest, wCB, wCons, wNil, wVar, wC, e, oIsi, tyOf, clOf, rt, kt_rr, if_t1]
    exact h p lp
  · simp only [wIf, wTest, wCB, wCons, wNil, wVar, wC, e, oIsi, tyOf, clOf, kt_ir, if_f1, wMake, wi_Ratio, List.cons_append, List.nil_append, List.length_cons, List.length_nil, Nat.reduceAdd, true_and]
    refine ⟨⟨by decide, nmono (m := 1) (by decide) (by decide)⟩, ?_⟩
    rw [mkR_one]
    exact h (j, 1) ⟨Sz.one (by decide) (nmono hj (by decide)), (nrm_int j).one⟩
theorem ring_order {ρ : DEnv} {S : MS} {Q : Bool → MS → Prop} {x y z : D} {r s t : Rat} {l l' : Bool} (e4 : ρ[4]? = some (some x)) (e5 : ρ[5]? = some (some y)) (e6 : ρ[6]? = some (some z)) (ha : Nb true x r 141) (hb : Nb l y s 141) (hc : Nb l' z t 141) (h : ∀ S', Pre S S' → Q false S') :
    wOr (wNot (wTest (wCall 3 w_ring (wCons (wVar 4) (wCons (wVar 5) (wCons (wVar 6) wNil)))))) (wNot (wTest (wCall 3 w_order (wCons (wVar 4) (wCons (wVar 5) (wCons (wVar 6) wNil)))))) ρ S Q := by
  simp only [wOr, wNot, wTest, wCall, wCons, wNil, wVar, e4, e5, e6, w_ring, w_order, List.length_cons, List.length_nil, Nat.reduceAdd, true_and]
  refine ⟨r, s, t, l, l', ha, hb, hc, fun S' pre => ?_⟩
  simp only [Bool.not_true, if_f1]
  exact ⟨r, s, t, l, l', ha, hb, hc, h S' pre⟩
theorem rest_one {ρ : DEnv} {S : MS} {x y : D} {r s : Rat} {l : Bool} {i : Nat} (e4 : ρ[4]? = some (some x)) (ei : ρ[i]? = some (some y)) (ha : Nb true x r 141) (hb : Nb l y s 141) :
    TE (wAnd (wTest (wOp (oU2 iNe "Ratio" w_ne wNo) (wVar i) (wC (.int 0)))) (wNot (wTest (wCall 2 w_rest (wCons (wVar 4) (wCons (wVar i) wNil)))))) ρ S false := by
  have z0 : val ((0 : Int), (1 : Int)) = 0 := by rw [val_int]; rfl
  refine TE.eq (te_and (a := !decide (s = val ((0 : Int), (1 : Int)))) (b := false) (te_val fun Q q => ?_) fun e => ?_) (Bool.and_false _)
  · simp only [wOp, wVar, wC, ei]
    exact g_ne0 hb q
  · refine TE.eq (te_not (a := true) (te_val fun Q q => ?_)) rfl
    simp only [wCall, wCons, wNil, wVar, e4, ei, w_rest, List.length_cons, List.length_nil, Nat.reduceAdd, true_and]
    refine ⟨r, s, l, ha, hb, fun z => ?_, q⟩
    rw [z, z0] at e
    simp at e
theorem pow600 {x : Int} (h : x.natAbs < 2 ^ 141) : x.natAbs < 10 ^ 600 := Nat.lt_of_lt_of_le h (by decide +kernel)
theorem lg141 {x : Int} (h : x.natAbs < 2 ^ 141) : x.natAbs.log2 < 1920 := Nat.lt_of_lt_of_le (lt_log2 (by decide) h) (by decide)
theorem ne_read {ρ : DEnv} {S : MS} {p : Int × Int} (e4 : ρ[4]? = some (some (rt p))) (lp : Low p) :
    NE (wCMeth "Ratio" 2 w_read (wC (.cls "Ratio")) (wCons (wCB (oS1 DL.iStr "Ratio" w_str) (wCons (wVar 4) wNil)) wNil)) ρ S true (val p) 141 := fun Q q => by
  have q' : Q (rt (p.1, p.2)) S := q _ (.rt lp.nrm lp.sz)
  simp only [wCMeth, wC, wCons, wNil, wCB, wVar, e4, oS1, rt, w_str, w1r, numD_ins, w_read, List.length_cons, List.length_nil, Nat.reduceAdd, true_and]
  exact ⟨⟨lg141 lp.sz.2.1, lg141 lp.sz.2.2⟩, p.1, p.2, lp.nrm, pow600 lp.sz.2.1, pow600 lp.sz.2.2, rfl, q'⟩
theorem ne_mkTB {ρ : DEnv} {S : MS} {p : Int × Int} (e4 : ρ[4]? = some (some (rt p))) (lp : Low p) :
    NE (wMake "Ratio" 2 wi_Ratio [] (wCons (wProp "Ratio" w_top (wVar 4)) (wCons (wProp "Ratio" w_bottom (wVar 4)) wNil))) ρ S true (val p) 141 := fun Q q => by
  have q' : Q (rt p) S := q _ (.rt lp.nrm lp.sz)
  simp only [wMake, wProp, wCons, wNil, wVar, e4, rt, w_top, w_bottom, w1r, numD_ins, wi_Ratio, List.append_nil, List.length_cons, List.length_nil, Nat.reduceAdd, true_and]
  refine ⟨⟨lp.pos, nmono lp.sz.2.2 (by decide)⟩, ?_⟩
  rw [lp.mk']
  exact q'
theorem ne_quTB {ρ : DEnv} {S : MS} {p : Int × Int} (e4 : ρ[4]? = some (some (rt p))) (lp : Low p) :
    NE (wCall 2 w_quotient (wCons (wProp "Ratio" w_top (wVar 4)) (wCons (wProp "Ratio" w_bottom (wVar 4)) wNil))) ρ S true (val p) 282 := fun Q q => by
  simp only [wCall, wProp, wCons, wNil, wVar, e4, rt, w_top, w_bottom, w1r, numD_ins, List.length_cons, List.length_nil, Nat.reduceAdd, true_and]
  exact g_quo (.int (n := 141) (by decide) lp.sz.2.1) (.int (n := 141) (by decide) lp.sz.2.2) (by decide) (by decide) (cast_ne (by have := lp.pos; omega)) fun z hz => q z hz

def w_right : WF := fun ds S Q => match ds with
  | [.mut m] => ∃ c, Pu S m c ∧ 1 ≤ c ∧ c ≤ 10 ∧ m + 1 = S.length ∧ ∀ S', S.length ≤ S'.length → (∀ j, j < m → S'[j]? = S[j]?) → Q (.bl true) S'
  | _ => False
theorem sc__law_right : FnScope ["purse", "some", "turn", "at", "a", "b", "c"] ["purse"] (defScope s__law_right) := ⟨rfl, rfl, rfl, by decide +kernel, rfl, by decide +kernel, by decide +kernel⟩
theorem ok__law_right (T : Tx K mg) : FnOk P w K mg base CX0 15 T.f__law_right T.fd__law_right ["purse"] (spW ⟨K, mg⟩ 1 w_right) := by
  refine fnD (k := 14) T.F__law_right sc__law_right (fun cdv A outer s H E hr => ⟨_, (dss_cons (ds_set (i := 1) sc__law_right.nd (d_op op_cat snd_catL (d_lcR (own := [("turn", 2)]) rfl sc__law_right.nd T.z_range (da_cons d_int da_nil) (blkOk_by (own := [("turn", 2)]) (N := ["purse", "some", "turn", "at", "a", "b", "c"]) (sc := defScope s__law_right) (by decide +kernel)) (gown_name (by decide)) (fun _ _ _ _ _ => (dg_name (i := 2) sc__law_right.nd)) (fun _ _ _ _ _ => dts_nil) (fun _ _ _ _ _ => (d_callC (ok__law_made T) (hr.mono (by decide)) T.m__law_made T.F__law_made.kp T.b__law_made (da_cons (dv 0) (da_cons (d_callC (ok__law_fraction T) (hr.mono (by decide)) T.m__law_fraction T.F__law_fraction.kp T.b__law_fraction (da_cons (dv 0) da_nil)) da_nil))))) (d_lst (da_cons (d_call (ok__law_whole T) (hr.mono (by decide)) T.m__law_whole T.F__law_whole.kp T.b__law_whole (da_cons (dv 0) da_nil)) da_nil))))
  (dss_cons (ds_set (i := 3) sc__law_right.nd (d_call (ok__law_take T) (hr.mono (by decide)) T.m__law_take T.F__law_take.kp T.b__law_take (da_cons (dv 0) (da_cons d_int da_nil))))
  (dss_cons (ds_par3 (i := 4) (j := 5) (l := 6) rfl sc__law_right.nd (da_cons (d_ix (dv 1) (dv 3)) (da_cons (d_ix (dv 1) (d_op op_sub snd_iSub (dv 3) d_int)) (da_cons (d_ix (dv 1) (d_op op_sub snd_iSub (dv 3) d_int)) da_nil))))
  (dss_cons (ds_set (i := 4) sc__law_right.nd (d_if (dt_val (d_callB call_isi (snd_isi T.isi) T.z_isinstance (da_cons (dv 4) (da_cons (d_cls T.g_Ratio) da_nil)) (hv := bt_isinstance))) (dv 4) (d_make T.mkk (ok_R_init T) (hr.mono (by decide)) T.g_Ratio T.b_R_init1 T.v_R_init1 (fun _ _ => .cons (.int 1) .nil) (da_cons (dv 4) da_nil))))
  (dss_cons (ds_if (PDW.pt (dw_or (dt_not (dt_val (d_call (ok__law_ring_right T) (hr.mono (by decide)) T.m__law_ring_right T.F__law_ring_right.kp T.b__law_ring_right (da_cons (dv 4) (da_cons (dv 5) (da_cons (dv 6) da_nil)))))) (dw_or1 (dt_not (dt_val (d_call (ok__law_order_right T) (hr.mono (by decide)) T.m__law_order_right T.F__law_order_right.kp T.b__law_order_right (da_cons (dv 4) (da_cons (dv 5) (da_cons (dv 6) da_nil))))))))) (dss_one (ds_ret d_bl)) dss_nil)
  (dss_cons (ds_if (PDW.pt (dw_or (PDW.pt (dw_and (dt_cmp (OpR.or op_ne (op_ownCmp (op := .NotEq) (fun _ _ => rfl) T.own T.M_R_ne (ok_R_ne T) (hr.mono (by decide)) T.b_R_ne pass0)) (snd_U1 snd_iNe T.g_Ratio) (dv 5) d_int (nomark _)) (dw_and1 (dt_not (dt_val (d_call (ok__law_rest_right T) (hr.mono (by decide)) T.m__law_rest_right T.F__law_rest_right.kp T.b__law_rest_right (da_cons (dv 4) (da_cons (dv 5) da_nil)))))))) (dw_or1 (PDW.pt (dw_and (dt_cmp (OpR.or op_ne (op_ownCmp (op := .NotEq) (fun _ _ => rfl) T.own T.M_R_ne (ok_R_ne T) (hr.mono (by decide)) T.b_R_ne pass0)) (snd_U1 snd_iNe T.g_Ratio) (dv 6) d_int (nomark _)) (dw_and1 (dt_not (dt_val (d_call (ok__law_rest_right T) (hr.mono (by decide)) T.m__law_rest_right T.F__law_rest_right.kp T.b__law_rest_right (da_cons (dv 4) (da_cons (dv 6) da_nil))))))))))) (dss_one (ds_ret d_bl)) dss_nil)
  (dss_one (ds_ret (d_and (d_cmp (OpR.or op_eq (op_ownCmp (op := .Eq) (fun _ _ => rfl) T.own T.M_R_eq (ok_R_eq T) (hr.mono (by decide)) T.b_R_eq pass0)) (snd_U1 snd_iEq T.g_Ratio) (d_cmeth (d_cls T.g_Ratio) T.g_Ratio T.cr_C T.cm_read (ok_R_read T) (hr.mono (by decide)) T.b_R_read (da_cons (d_callTy (DL.CallR.or call_str_int (call_strOwn T.M_R_str (ok_R_str T) (hr.mono (by decide)) T.b_R_str)) (snd_str1 mono_str T.g_Ratio) T.z_str (da_cons (dv 4) da_nil) (hv := bt_str)) da_nil)) (dv 4) (nomark _)) (d_and (d_cmp (OpR.or op_eq (op_ownCmp (op := .Eq) (fun _ _ => rfl) T.own T.M_R_eq (ok_R_eq T) (hr.mono (by decide)) T.b_R_eq pass0)) (snd_U1 snd_iEq T.g_Ratio) (d_make T.mkk (ok_R_init T) (hr.mono (by decide)) T.g_Ratio T.b_R_init2 T.v_R_init2 (fun _ _ => .nil) (da_cons (d_prop (dv 4) T.g_Ratio T.cl T.p_top (ok_R_top T) (hr.mono (by decide)) T.b_R_top) (da_cons (d_prop (dv 4) T.g_Ratio T.cl T.p_bottom (ok_R_bottom T) (hr.mono (by decide)) T.b_R_bottom) da_nil))) (dv 4) (nomark _)) (d_one (d_cmp (OpR.or op_eq (op_ownCmp (op := .Eq) (fun _ _ => rfl) T.own T.M_R_eq (ok_R_eq T) (hr.mono (by decide)) T.b_R_eq pass0)) (snd_U1 snd_iEq T.g_Ratio) (d_call (ok_quotient T) (hr.mono (by decide)) T.m_quotient T.F_quotient.kp T.b_quotient (da_cons (d_prop (dv 4) T.g_Ratio T.cl T.p_top (ok_R_top T) (hr.mono (by decide)) T.b_R_top) (da_cons (d_prop (dv 4) T.g_Ratio T.cl T.p_bottom (ok_R_bottom T) (hr.mono (by decide)) T.b_R_bottom) da_nil))) (dv 4) (nomark _)))))))))))))⟩) (fun ds S Q hl h => ?_)
  match ds, h with
  | [.mut m], ⟨c, pu, hc1, hc2, hm, h⟩ =>
    simp only [startD, List.map_cons, List.map_nil, List.length_cons, List.length_nil, List.cons_append, List.nil_append, List.replicate, Nat.reduceAdd, Nat.reduceSub]
    unfold sSeq sAsg gwName
    have draw : ∀ Q1 : D → MS → Prop, (∀ x0 x1 x2 x3 S1 c1, Num x0 → Num x1 → Num x2 → Num x3 → Pu S1 m c1 → 1 ≤ c1 → c1 ≤ 200 → S.length ≤ S1.length → (∀ j, j < m → S1[j]? = S[j]?) → Q1 (.lst [x0, x1, x2, x3]) S1) →
        wOp oCatL (wLcR (wCons (wC (D.int 3)) wNil) [2] (fun d ρ S Q => Q (List.set ρ 2 (some d)) S) wYes (wCall 2 w_made (wCons (wVar 0) (wCons (wCall 1 w_fraction (wCons (wVar 0) wNil)) wNil))))
          (wLst (wCons (wCall 1 w_whole (wCons (wVar 0) wNil)) wNil)) [some (D.mut m), none, none, none, none, none, none] S Q1 := by
      intro Q1 hQ
      refine ⟨⟨by decide, by decide⟩, ?_⟩
      refine lcD_cnt (N := 3) (all := rangeD 0 3) (fun n S1 => ∃ c1 acc, Pu S1 m c1 ∧ 1 ≤ c1 ∧ c1 ≤ 10 + 20 * n ∧ S1[S.length]? = some acc ∧ acc.length = n ∧ (∀ d ∈ acc, ∃ p, d = rt p ∧ Low p) ∧ ∀ j, j < m → S1[j]? = S[j]?) ?_ ?_ _ 0 _ (fun d hd => hd) (by decide) ⟨c, [], ?_, hc1, by omega, new_at, rfl, fun d hd => (by cases hd), fun j hj => List.getElem?_append_left (by omega)⟩
      · rintro n hn d hd S1 kk ⟨c1, acc, pu1, g1, g2, e1, e2, e3, e4⟩ hk
        simp only [lcStep, wipeD, wYes, wCall, wCons, wNil, wVar, List.set_cons_zero, List.set_cons_succ, List.getElem?_cons_zero, List.length_cons, List.length_nil, Nat.reduceAdd, true_and, if_t1]
        refine ⟨c1, pu1, g1, by omega, fun p S2 c2 lp _ p2 h1 h2 o1 => ⟨c2, p2, by omega, by omega, lp, fun S3 p3 o2 => ?_⟩⟩
        have o := o1.trans o2
        have e5 : S3[S.length]? = some acc := (o.2 _ (by omega)).trans e1
        refine ⟨acc, e5, Nat.lt_of_lt_of_le (by omega : acc.length < 5000) (line5 (by decide)), hk _ ⟨c2 + 1, acc ++ [rt p], ?_, by omega, by omega, set_here e5, by simp [e2], fun d hd => ?_, fun j hj => ?_⟩⟩
        · obtain ⟨s, g, q1, q2⟩ := p3
          exact ⟨s, g, by rw [List.getElem?_set_ne (by omega)]; exact q1, q2⟩
        · rcases List.mem_append.mp hd with hd | hd
          · exact e3 d hd
          · exact ⟨p, List.mem_singleton.mp hd, lp⟩
        · rw [List.getElem?_set_ne (by omega), o.2 j (by omega)]
          exact e4 j hj
      · rintro S1 ⟨c1, acc, pu1, g1, g2, e1, e2, e3, e4⟩
        obtain ⟨a0, a1, a2, rfl⟩ := three e2
        have lt := (List.getElem?_eq_some_iff.mp e1).1
        refine ⟨rfl, c1, pu1, g1, by omega, fun k S2 c2 kz p2 h1 h2 o => ⟨line5 (by simp), _, _, (o.2 _ (by omega)).trans e1, rfl, line5 (by simp), ?_⟩⟩
        exact hQ a0 a1 a2 (.int k) S2 c2 (.inl (e3 a0 (by simp))) (.inl (e3 a1 (by simp))) (.inl (e3 a2 (by simp))) (.inr ⟨k, rfl, kz⟩) p2 (by omega) (by omega) (by rw [o.1]; omega) fun j hj => (o.2 j (by omega)).trans (e4 j hj)
      · obtain ⟨s, g, q1, q2⟩ := pu
        exact ⟨s, g, get_oldM q1, q2⟩
    refine draw _ fun x0 x1 x2 x3 S1 c1 n0 n1 n2 n3 pu1 g1 g2 len1 old1 => ?_
    try dsimp only [List.set_cons_zero, List.set_cons_succ]
    refine ⟨rfl, tk pu1 g1 (by omega) (by decide) (by decide) fun a S2 a0 a1 p2 o2 => ?_⟩
    obtain ⟨x, y, z, ex, ey, ez, nx, ny, nz⟩ := pick n0 n1 n2 n3 a0 a1
    try dsimp only
    refine par3_ix (xs := [x0, x1, x2, x3]) (a := a) rfl rfl ex ey ez ?_
    try dsimp only [List.set_cons_zero, List.set_cons_succ]
    refine mk_if (i := 4) rfl nx fun p lp => ?_
    try dsimp only [List.set_cons_zero, List.set_cons_succ]
    obtain ⟨k1, r1, hb⟩ := ny.nb
    obtain ⟨k2, r2, hc⟩ := nz.nb
    have ha : Nb true (rt p) (val p) 141 := .rt lp.nrm lp.sz
    unfold sIf sNext
    refine ring_order rfl rfl rfl ha hb hc fun S3 pre3 => ?_
    rw [if_neg Bool.false_ne_true]
    try dsimp only
    refine TE.eq (te_or (rest_one (i := 5) rfl rfl ha hb) fun _ => rest_one (i := 6) rfl rfl ha hc) (show (false || false) = false from rfl) _ ?_
    rw [if_neg Bool.false_ne_true]
    unfold sRet
    try dsimp only
    have hv : NE (wVar 4) [some (.mut m), some (.lst [x0, x1, x2, x3]), none, some (.int a), some (rt p), some y, some z] S3 true (val p) 141 := ne_var (i := 4) rfl ha
    refine be_andV (BE.eq (be_eq (ne_read rfl lp) hv) (decide_eq_true rfl)) (be_andV (BE.eq (be_eq (ne_mkTB rfl lp) hv) (decide_eq_true rfl)) (BE.eq (be_eq (ne_quTB rfl lp) hv) (decide_eq_true rfl))) _ ?_
    exact h S3 (by have := pre3.1; have := o2.1; omega) fun j hj => (pre3.2 j (by have := o2.1; omega)).trans ((o2.2 j (by omega)).trans (old1 j hj))
end
end K1
set_option Elab.async false
set_option linter.all false
set_option maxRecDepth 100000
namespace K1
open PySem PySem.Spec PyProof.Rows L2 DL
section
variable {P : Program} {w : World} {K : PySem.W.Frag} {mg : Str → Option Value} {base : Heap}
def w_law : WF := fun ds S Q => match ds with
  | [.scr xs] => AllI xs ∧ ∀ S', Q (.bl true) S'
  | _ => False
theorem sc_law : FnScope ["script", "k"] ["script"] (defScope s_law) := ⟨rfl, rfl, rfl, by decide +kernel, rfl, by decide +kernel, by decide +kernel⟩
theorem ok_law (T : Tx K mg) : FnOk P w K mg base CX0 17 T.f_law T.fd_law ["script"] (spW ⟨K, mg⟩ 1 w_law) := by
  refine fnD (k := 16) T.F_law sc_law (fun cdv A outer s H E hr => ⟨_, (dss_one (ds_ret (d_callB (cr_all rfl) snd_all T.z_all (da_cons (d_lcR (own := [("k", 1)]) rfl sc_law.nd T.z_range (da_cons (d_callB (call_max2 rfl) snd_max2 T.z_max (da_cons d_int (da_cons (d_callB (call_min2 rfl) snd_min2 T.z_min (da_cons (d_callB call_len_seq snd_len T.z_len (da_cons (dv 0) da_nil) (hv := bt_len)) (da_cons d_int da_nil)) (hv := bt_min)) da_nil)) (hv := bt_max)) da_nil) (blkOk_by (own := [("k", 1)]) (N := ["script", "k"]) (sc := defScope s_law) (by decide +kernel)) (gown_name (by decide)) (fun _ _ _ _ _ => (dg_name (i := 1) sc_law.nd)) (fun _ _ _ _ _ => dts_nil) (fun _ _ _ _ _ => (d_callC (ok__law_right T) (hr.mono (by decide)) T.m__law_right T.F__law_right.kp T.b__law_right (da_cons (d_callC (ok__law_purse T) (hr.mono (by decide)) T.m__law_purse T.F__law_purse.kp T.b__law_purse (da_cons (d_callC (ok__law_cell T) (hr.mono (by decide)) T.m__law_cell T.F__law_cell.kp T.b__law_cell (da_cons (dv 0) (da_cons (dv 1) da_nil))) da_nil)) da_nil)))) da_nil) (hv := bt_all))))⟩) (fun ds S Q hl h => ?_)
  match ds, h with
  | [.scr xs], ⟨hx, h⟩ =>
    simp only [true_and, and_true, oU2, oUn1, oL1, oS1, oR1, oJust, iAdd, iSub, iMul, iFdiv, iMod, iEq, iNe, iLt, iLe, iGt, iGe, iNeg, iAbs, DL.iStr, wFmt, wJs, wJoined, sNext, sSeq, sDrop, sRet, sRetN, sIf, sAsg, sPar, wOp, wVar, wC, wUn, wCons, wNil, wCB, wCall, wMake, wMakeSw, wCallSw, wProp, wFld, oI, oI0, oU, wTest, wAnd, wOr, wNot, wAndV, wOrV, wNotV, wIf, wTup, wLst, wLstM, gwName, gwNil, gwCons, gwTup, gwSub, oIx, oInt1, oAbsI, oLen, oGcd, oDivmod, oMax2, oMin2, oIsi, tyOf, clOf, kt_ii, kt_ib, kt_rr, kt_ir, kt_ri, kt_rb, kt_ni, kt_bi, kt_bb, kt_si, kt_ti, kt_li, kt_di, kt_nr, kt_br, kt_sr, kt_tr, kt_lr, kt_dr, oStrI, if_t1, if_f1, Bool.not_true, Bool.not_false, rt, startD, List.map_cons, List.map_nil, List.length_cons, List.length_nil, List.cons_append, List.nil_append, List.getElem?_cons_zero, List.getElem?_cons_succ, List.set_cons_zero, List.set_cons_succ, List.replicate, Nat.reduceAdd, Nat.reduceSub, Nat.zero_add, Nat.sub_self, Nat.add_sub_cancel, lk_top, lk_bot, w1, w2, numD_int, numD_ins, w_is_int, w_is_number, wi_Ratio, w_as_ratio, w_top, w_bottom, w1r, w2r, w_add, w_neg, w_abs, w_sub, w_mul, w_radd, w_rsub, w_rmul, w_floordiv, w_rfloordiv, w_mod, w_rmod, w_str, w_repr, w_eq, w_quotient, wCutTo, wTruth, oPow, sFor, sForR, at0', at1, at2, forStep, w_low, w_whole, w_fraction, wi_Ratio, w_made, wMeth, oBool1, lk_ex, oOwnA, w_excess, w_lt, w_le, w_gt, w_ge, w_ne, w_bool, w_raised, wLc, wipeD, lcStep, wM0, wM1, oNeS, oIntS, kt_ss, oIsN, wPart, wTruth, w_itold, w_rtold, w_right, w_purse, w_cell, wLcR, wipeD, lcStep, wYes]
    generalize hj : (if (if 6 < (xs.length : Int) then 6 else (xs.length : Int)) > 2 then if 6 < (xs.length : Int) then 6 else (xs.length : Int) else 2) = j
    have jz : 0 ≤ j ∧ j ≤ 6 := by
      subst hj
      split <;> split <;> omega
    refine ⟨⟨by omega, by omega⟩, ?_⟩
    have big : 6 < sizeLine := Nat.lt_of_lt_of_le (by decide : 6 < 5000) (line5 (by decide))
    refine lcD_cnt (N := j.toNat) (all := rangeD 0 j.toNat) (fun n S' => ∃ acc, S'[S.length]? = some acc ∧ acc.length = n ∧ ∀ d ∈ acc, d = .bl true) ?_ ?_ _ 0 _ (fun d hd => hd) ?_ ⟨[], new_at, rfl, fun d hd => by cases hd⟩
    · rintro n hn d hd S1 kk ⟨acc, i1, i2, i3⟩ hk
      obtain ⟨i, rfl, i0, i6⟩ := range_mem hd
      have lt := (List.getElem?_eq_some_iff.mp i1).1
      simp only [true_and, and_true, oU2, oUn1, oL1, oS1, oR1, oJust, iAdd, iSub, iMul, iFdiv, iMod, iEq, iNe, iLt, iLe, iGt, iGe, iNeg, iAbs, DL.iStr, wFmt, wJs, wJoined, sNext, sSeq, sDrop, sRet, sRetN, sIf, sAsg, sPar, wOp, wVar, wC, wUn, wCons, wNil, wCB, wCall, wMake, wMakeSw, wCallSw, wProp, wFld, oI, oI0, oU, wTest, wAnd, wOr, wNot, wAndV, wOrV, wNotV, wIf, wTup, wLst, wLstM, gwName, gwNil, gwCons, gwTup, gwSub, oIx, oInt1, oAbsI, oLen, oGcd, oDivmod, oMax2, oMin2, oIsi, tyOf, clOf, kt_ii, kt_ib, kt_rr, kt_ir, kt_ri, kt_rb, kt_ni, kt_bi, kt_bb, kt_si, kt_ti, kt_li, kt_di, kt_nr, kt_br, kt_sr, kt_tr, kt_lr, kt_dr, oStrI, if_t1, if_f1, Bool.not_true, Bool.not_false, rt, startD, List.map_cons, List.map_nil, List.length_cons, List.length_nil, List.cons_append, List.nil_append, List.getElem?_cons_zero, List.getElem?_cons_succ, List.set_cons_zero, List.set_cons_succ, List.replicate, Nat.reduceAdd, Nat.reduceSub, Nat.zero_add, Nat.sub_self, Nat.add_sub_cancel, lk_top, lk_bot, w1, w2, numD_int, numD_ins, w_is_int, w_is_number, wi_Ratio, w_as_ratio, w_top, w_bottom, w1r, w2r, w_add, w_neg, w_abs, w_sub, w_mul, w_radd, w_rsub, w_rmul, w_floordiv, w_rfloordiv, w_mod, w_rmod, w_str, w_repr, w_eq, w_quotient, wCutTo, wTruth, oPow, sFor, sForR, at0', at1, at2, forStep, w_low, w_whole, w_fraction, wi_Ratio, w_made, wMeth, oBool1, lk_ex, oOwnA, w_excess, w_lt, w_le, w_gt, w_ge, w_ne, w_bool, w_raised, wLc, wipeD, lcStep, wM0, wM1, oNeS, oIntS, kt_ss, oIsN, wPart, wTruth, w_itold, w_rtold, w_right, w_purse, w_cell, wLcR, wipeD, lcStep, wYes]
      refine ⟨hx, ⟨i0, by omega⟩, fun c s g s0 s1 g0 => ⟨1, ⟨s, g, new_at, s0, s1, g0⟩, by decide, by decide, by simp, fun S2 l2 e2 => ?_⟩⟩
      have a2 : S2[S.length]? = some acc := (e2 _ lt).trans (get_old i1)
      refine ⟨acc, a2, by omega, hk _ ⟨acc ++ [.bl true], set_here a2, by simp [i2], fun d hd => ?_⟩⟩
      rcases List.mem_append.mp hd with hd | hd
      · exact i3 d hd
      · exact List.mem_singleton.mp hd
    · rintro S1 ⟨acc, i1, i2, i3⟩
      obtain ⟨bs, b1, b2⟩ := bls_true i3
      refine ⟨acc, bs, i1, b1, ?_⟩
      rw [b2]
      exact h _
    · simp [rangeD]
end
end K1
set_option Elab.async false
set_option linter.all false
set_option maxRecDepth 100000
set_option maxHeartbeats 0
namespace K1
open PySem PySem.Spec PyProof.Rows L2 DL
theorem dn_add : PySem.dunder "add" = "__add__" := by decide +kernel
theorem dn_radd : dunderR "add" = "__radd__" := by decide +kernel
theorem dn_sub : PySem.dunder "sub" = "__sub__" := by decide +kernel
theorem dn_rsub : dunderR "sub" = "__rsub__" := by decide +kernel
theorem dn_mul : PySem.dunder "mul" = "__mul__" := by decide +kernel
theorem dn_rmul : dunderR "mul" = "__rmul__" := by decide +kernel
theorem dn_floordiv : PySem.dunder "floordiv" = "__floordiv__" := by decide +kernel
theorem dn_rfloordiv : dunderR "floordiv" = "__rfloordiv__" := by decide +kernel
theorem dn_mod : PySem.dunder "mod" = "__mod__" := by decide +kernel
theorem dn_rmod : dunderR "mod" = "__rmod__" := by decide +kernel
theorem dn_pow : PySem.dunder "pow" = "__pow__" := by decide +kernel
theorem dn_rpow : dunderR "pow" = "__rpow__" := by decide +kernel
def g1 {α : Type} (us its ws : List α) : List α := match us, ws with
  | [x], [a, b] => [x, b, a]
  | _, _ => []
theorem g1_rel {vs ds zs : List V} {us its ws : List Value} (r : Vals vs us) (_ : Vals ds its) (rz : Vals zs ws) : Vals (g1 vs ds zs) (g1 us its ws) := by
  cases r with
  | nil => exact .nil
  | cons h0 t0 =>
    cases t0 with
    | cons _ _ => exact .nil
    | nil =>
      cases rz with
      | nil => exact .nil
      | cons h1 t1 =>
        cases t1 with
        | nil => exact .nil
        | cons h2 t2 =>
          cases t2 with
          | nil => exact .cons h0 (.cons h2 (.cons h1 .nil))
          | cons _ _ => exact .nil
theorem kbn_sw {K : PySem.W.Frag} {fd : FuncData} {ps ks : List Str} {its : List Value} {dvs : List V} (k : KBn K fd ps 1 ks (fun us ws => g1 us its ws) (fun vs zs => g1 vs dvs zs)) : KBn K fd ps 1 ks sw1U sw1V := by
  have e1 : (fun us ws => g1 us its ws) = sw1U := by
    funext us ws
    match us, ws with
    | [], _ => rfl
    | [_], [] => rfl
    | [_], [_] => rfl
    | [_], [_, _] => rfl
    | [_], _ :: _ :: _ :: _ => rfl
    | _ :: _ :: _, _ => rfl
  have e2 : (fun vs zs => g1 vs dvs zs) = sw1V := by
    funext us ws
    match us, ws with
    | [], _ => rfl
    | [_], [] => rfl
    | [_], [_] => rfl
    | [_], [_, _] => rfl
    | [_], _ :: _ :: _ :: _ => rfl
    | _ :: _ :: _, _ => rfl
  rw [e1, e2] at k
  exact k

theorem if_some {c : Prop} [Decidable c] {a r : Bool} (h : (if c then some a else none) = some r) : c ∧ a = r := by
  by_cases z : c
  · rw [if_pos z] at h
    exact ⟨z, Option.some.inj h⟩
  · rw [if_neg z] at h
    cases h
theorem swu_two : ∀ {us ws : List Value}, (swU us ws).length = 2 → ∃ a b, us = [] ∧ ws = [a, b]
  | [], [a, b], _ => ⟨a, b, rfl, rfl⟩
  | [], [], h => by cases h
  | [], [_], h => by cases h
  | [], _ :: _ :: _ :: _, h => by cases h
  | _ :: _, _, h => by cases h
theorem all_mk {l : PySem.W.OpenLaw} {w : World} {K : PySem.W.Frag} {h : Heap} {mg : Str → Option Value} {fa : Addr} (X : K.In h) (G : h.Ns mainGlobals mg) (hfa : mg "law" = some (.ref fa))
    {f_is_int : Addr} {od_is_int an_is_int : Option Addr} {sl_is_int : Array (Option Value)} {oc_is_int kV_is_int dc_is_int pm_is_int cd_is_int ct_is_int : Value}
    {f_is_number : Addr} {od_is_number an_is_number : Option Addr} {sl_is_number : Array (Option Value)} {oc_is_number kV_is_number dc_is_number pm_is_number cd_is_number ct_is_number : Value}
    {f_as_ratio : Addr} {od_as_ratio an_as_ratio : Option Addr} {sl_as_ratio : Array (Option Value)} {oc_as_ratio kV_as_ratio dc_as_ratio pm_as_ratio cd_as_ratio ct_as_ratio : Value}
    {f_quotient : Addr} {od_quotient an_quotient : Option Addr} {sl_quotient : Array (Option Value)} {oc_quotient kV_quotient dc_quotient pm_quotient cd_quotient ct_quotient : Value}
    {f_raised : Addr} {od_raised an_raised : Option Addr} {sl_raised : Array (Option Value)} {oc_raised kV_raised dc_raised pm_raised cd_raised ct_raised : Value}
    {f_integer_told : Addr} {od_integer_told an_integer_told : Option Addr} {sl_integer_told : Array (Option Value)} {oc_integer_told kV_integer_told dc_integer_told pm_integer_told cd_integer_told ct_integer_told : Value}
    {f_ratio_told : Addr} {od_ratio_told an_ratio_told : Option Addr} {sl_ratio_told : Array (Option Value)} {oc_ratio_told kV_ratio_told dc_ratio_told pm_ratio_told cd_ratio_told ct_ratio_told : Value}
    {f__law_cell : Addr} {od__law_cell an__law_cell : Option Addr} {sl__law_cell : Array (Option Value)} {oc__law_cell kV__law_cell dc__law_cell pm__law_cell cd__law_cell ct__law_cell : Value}
    {f__law_purse : Addr} {od__law_purse an__law_purse : Option Addr} {sl__law_purse : Array (Option Value)} {oc__law_purse kV__law_purse dc__law_purse pm__law_purse cd__law_purse ct__law_purse : Value}
    {f__law_take : Addr} {od__law_take an__law_take : Option Addr} {sl__law_take : Array (Option Value)} {oc__law_take kV__law_take dc__law_take pm__law_take cd__law_take ct__law_take : Value}
    {f__law_low : Addr} {od__law_low an__law_low : Option Addr} {sl__law_low : Array (Option Value)} {oc__law_low kV__law_low dc__law_low pm__law_low cd__law_low ct__law_low : Value}
    {f__law_whole : Addr} {od__law_whole an__law_whole : Option Addr} {sl__law_whole : Array (Option Value)} {oc__law_whole kV__law_whole dc__law_whole pm__law_whole cd__law_whole ct__law_whole : Value}
    {f__law_fraction : Addr} {od__law_fraction an__law_fraction : Option Addr} {sl__law_fraction : Array (Option Value)} {oc__law_fraction kV__law_fraction dc__law_fraction pm__law_fraction cd__law_fraction ct__law_fraction : Value}
    {f__law_made : Addr} {od__law_made an__law_made : Option Addr} {sl__law_made : Array (Option Value)} {oc__law_made kV__law_made dc__law_made pm__law_made cd__law_made ct__law_made : Value}
    {f__law_ring_right : Addr} {od__law_ring_right an__law_ring_right : Option Addr} {sl__law_ring_right : Array (Option Value)} {oc__law_ring_right kV__law_ring_right dc__law_ring_right pm__law_ring_right cd__law_ring_right ct__law_ring_right : Value}
    {f__law_rest_right : Addr} {od__law_rest_right an__law_rest_right : Option Addr} {sl__law_rest_right : Array (Option Value)} {oc__law_rest_right kV__law_rest_right dc__law_rest_right pm__law_rest_right cd__law_rest_right ct__law_rest_right : Value}
    {f__law_order_right : Addr} {od__law_order_right an__law_order_right : Option Addr} {sl__law_order_right : Array (Option Value)} {oc__law_order_right kV__law_order_right dc__law_order_right pm__law_order_right cd__law_order_right ct__law_order_right : Value}
    {f__law_right : Addr} {od__law_right an__law_right : Option Addr} {sl__law_right : Array (Option Value)} {oc__law_right kV__law_right dc__law_right pm__law_right cd__law_right ct__law_right : Value}
    {f_law : Addr} {od_law an_law : Option Addr} {sl_law : Array (Option Value)} {oc_law kV_law dc_law pm_law cd_law ct_law : Value}
    {f_R_top : Addr} {od_R_top an_R_top : Option Addr} {sl_R_top : Array (Option Value)} {oc_R_top kV_R_top dc_R_top pm_R_top cd_R_top ct_R_top : Value}
    {f_R_bottom : Addr} {od_R_bottom an_R_bottom : Option Addr} {sl_R_bottom : Array (Option Value)} {oc_R_bottom kV_R_bottom dc_R_bottom pm_R_bottom cd_R_bottom ct_R_bottom : Value}
    {f_R_add : Addr} {od_R_add an_R_add : Option Addr} {sl_R_add : Array (Option Value)} {oc_R_add kV_R_add dc_R_add pm_R_add cd_R_add ct_R_add : Value}
    {f_R_radd : Addr} {od_R_radd an_R_radd : Option Addr} {sl_R_radd : Array (Option Value)} {oc_R_radd kV_R_radd dc_R_radd pm_R_radd cd_R_radd ct_R_radd : Value}
    {f_R_sub : Addr} {od_R_sub an_R_sub : Option Addr} {sl_R_sub : Array (Option Value)} {oc_R_sub kV_R_sub dc_R_sub pm_R_sub cd_R_sub ct_R_sub : Value}
    {f_R_rsub : Addr} {od_R_rsub an_R_rsub : Option Addr} {sl_R_rsub : Array (Option Value)} {oc_R_rsub kV_R_rsub dc_R_rsub pm_R_rsub cd_R_rsub ct_R_rsub : Value}
    {f_R_mul : Addr} {od_R_mul an_R_mul : Option Addr} {sl_R_mul : Array (Option Value)} {oc_R_mul kV_R_mul dc_R_mul pm_R_mul cd_R_mul ct_R_mul : Value}
    {f_R_rmul : Addr} {od_R_rmul an_R_rmul : Option Addr} {sl_R_rmul : Array (Option Value)} {oc_R_rmul kV_R_rmul dc_R_rmul pm_R_rmul cd_R_rmul ct_R_rmul : Value}
    {f_R_floordiv : Addr} {od_R_floordiv an_R_floordiv : Option Addr} {sl_R_floordiv : Array (Option Value)} {oc_R_floordiv kV_R_floordiv dc_R_floordiv pm_R_floordiv cd_R_floordiv ct_R_floordiv : Value}
    {f_R_rfloordiv : Addr} {od_R_rfloordiv an_R_rfloordiv : Option Addr} {sl_R_rfloordiv : Array (Option Value)} {oc_R_rfloordiv kV_R_rfloordiv dc_R_rfloordiv pm_R_rfloordiv cd_R_rfloordiv ct_R_rfloordiv : Value}
    {f_R_mod : Addr} {od_R_mod an_R_mod : Option Addr} {sl_R_mod : Array (Option Value)} {oc_R_mod kV_R_mod dc_R_mod pm_R_mod cd_R_mod ct_R_mod : Value}
    {f_R_rmod : Addr} {od_R_rmod an_R_rmod : Option Addr} {sl_R_rmod : Array (Option Value)} {oc_R_rmod kV_R_rmod dc_R_rmod pm_R_rmod cd_R_rmod ct_R_rmod : Value}
    {f_R_neg : Addr} {od_R_neg an_R_neg : Option Addr} {sl_R_neg : Array (Option Value)} {oc_R_neg kV_R_neg dc_R_neg pm_R_neg cd_R_neg ct_R_neg : Value}
    {f_R_abs : Addr} {od_R_abs an_R_abs : Option Addr} {sl_R_abs : Array (Option Value)} {oc_R_abs kV_R_abs dc_R_abs pm_R_abs cd_R_abs ct_R_abs : Value}
    {f_R_eq : Addr} {od_R_eq an_R_eq : Option Addr} {sl_R_eq : Array (Option Value)} {oc_R_eq kV_R_eq dc_R_eq pm_R_eq cd_R_eq ct_R_eq : Value}
    {f_R_str : Addr} {od_R_str an_R_str : Option Addr} {sl_R_str : Array (Option Value)} {oc_R_str kV_R_str dc_R_str pm_R_str cd_R_str ct_R_str : Value}
    {f_R_repr : Addr} {od_R_repr an_R_repr : Option Addr} {sl_R_repr : Array (Option Value)} {oc_R_repr kV_R_repr dc_R_repr pm_R_repr cd_R_repr ct_R_repr : Value}
    {f_R_ne : Addr} {od_R_ne an_R_ne : Option Addr} {sl_R_ne : Array (Option Value)} {oc_R_ne kV_R_ne dc_R_ne pm_R_ne cd_R_ne ct_R_ne : Value}
    {f_R_pow : Addr} {od_R_pow an_R_pow : Option Addr} {sl_R_pow : Array (Option Value)} {oc_R_pow kV_R_pow dc_R_pow pm_R_pow cd_R_pow ct_R_pow : Value}
    {f_R_excess : Addr} {od_R_excess an_R_excess : Option Addr} {sl_R_excess : Array (Option Value)} {oc_R_excess kV_R_excess dc_R_excess pm_R_excess cd_R_excess ct_R_excess : Value}
    {f_R_lt : Addr} {od_R_lt an_R_lt : Option Addr} {sl_R_lt : Array (Option Value)} {oc_R_lt kV_R_lt dc_R_lt pm_R_lt cd_R_lt ct_R_lt : Value}
    {f_R_le : Addr} {od_R_le an_R_le : Option Addr} {sl_R_le : Array (Option Value)} {oc_R_le kV_R_le dc_R_le pm_R_le cd_R_le ct_R_le : Value}
    {f_R_gt : Addr} {od_R_gt an_R_gt : Option Addr} {sl_R_gt : Array (Option Value)} {oc_R_gt kV_R_gt dc_R_gt pm_R_gt cd_R_gt ct_R_gt : Value}
    {f_R_ge : Addr} {od_R_ge an_R_ge : Option Addr} {sl_R_ge : Array (Option Value)} {oc_R_ge kV_R_ge dc_R_ge pm_R_ge cd_R_ge ct_R_ge : Value}
    {f_R_bool : Addr} {od_R_bool an_R_bool : Option Addr} {sl_R_bool : Array (Option Value)} {oc_R_bool kV_R_bool dc_R_bool pm_R_bool cd_R_bool ct_R_bool : Value}
    {f_R_read : Addr} {od_R_read an_R_read : Option Addr} {sl_R_read : Array (Option Value)} {oc_R_read kV_R_read dc_R_read pm_R_read cd_R_read ct_R_read : Value}
    {f_R_init : Addr} {od_R_init an_R_init : Option Addr} {sl_R_init : Array (Option Value)} {oc_R_init kV_R_init dc_R_init pm_R_init cd_R_init ct_R_init : Value}
    {C T_i : Addr} {od_T : Option Addr} {sl_T : Array (Option Value)} {oc_T : Value} {n_T : Nat} {tk_T : Tok}
    {p_top : Addr} {rest_top : List Value}
    {p_bottom : Addr} {rest_bottom : List Value}
    {p_read : Addr} {rest_read : List Value}
    {fo_add ro_add : Option Value}
    {fo_sub ro_sub : Option Value}
    {fo_mul ro_mul : Option Value}
    {fo_floordiv ro_floordiv : Option Value}
    {fo_mod ro_mod : Option Value}
    {fo_pow ro_pow : Option Value}
    {tk_most : Tok}
    (aC : PySem.W.nsIn K mainGlobals "Ratio" = some (some (.ref C)))
    (a_is_int : PySem.W.nsIn K mainGlobals "is_int" = some (some (.ref f_is_int)))
    (l_is_int : K.lookup f_is_int = some ⟨oc_is_int, od_is_int, .func (PySem.W.fnOf "is_int" "is_int" (defArgs s_is_int) (defBody s_is_int) (defScope s_is_int) .none kV_is_int dc_is_int pm_is_int an_is_int cd_is_int ct_is_int), sl_is_int⟩)
    (c_is_int : PySem.W.codeIn K cd_is_int "is_int" = true)
    (k_is_int : PySem.W.keepIn K (.ref f_is_int) = true)
    (a_is_number : PySem.W.nsIn K mainGlobals "is_number" = some (some (.ref f_is_number)))
    (l_is_number : K.lookup f_is_number = some ⟨oc_is_number, od_is_number, .func (PySem.W.fnOf "is_number" "is_number" (defArgs s_is_number) (defBody s_is_number) (defScope s_is_number) .none kV_is_number dc_is_number pm_is_number an_is_number cd_is_number ct_is_number), sl_is_number⟩)
    (c_is_number : PySem.W.codeIn K cd_is_number "is_number" = true)
    (k_is_number : PySem.W.keepIn K (.ref f_is_number) = true)
    (a_as_ratio : PySem.W.nsIn K mainGlobals "as_ratio" = some (some (.ref f_as_ratio)))
    (l_as_ratio : K.lookup f_as_ratio = some ⟨oc_as_ratio, od_as_ratio, .func (PySem.W.fnOf "as_ratio" "as_ratio" (defArgs s_as_ratio) (defBody s_as_ratio) (defScope s_as_ratio) .none kV_as_ratio dc_as_ratio pm_as_ratio an_as_ratio cd_as_ratio ct_as_ratio), sl_as_ratio⟩)
    (c_as_ratio : PySem.W.codeIn K cd_as_ratio "as_ratio" = true)
    (k_as_ratio : PySem.W.keepIn K (.ref f_as_ratio) = true)
    (a_quotient : PySem.W.nsIn K mainGlobals "quotient" = some (some (.ref f_quotient)))
    (l_quotient : K.lookup f_quotient = some ⟨oc_quotient, od_quotient, .func (PySem.W.fnOf "quotient" "quotient" (defArgs s_quotient) (defBody s_quotient) (defScope s_quotient) .none kV_quotient dc_quotient pm_quotient an_quotient cd_quotient ct_quotient), sl_quotient⟩)
    (c_quotient : PySem.W.codeIn K cd_quotient "quotient" = true)
    (k_quotient : PySem.W.keepIn K (.ref f_quotient) = true)
    (a_raised : PySem.W.nsIn K mainGlobals "raised" = some (some (.ref f_raised)))
    (l_raised : K.lookup f_raised = some ⟨oc_raised, od_raised, .func (PySem.W.fnOf "raised" "raised" (defArgs s_raised) (defBody s_raised) (defScope s_raised) .none kV_raised dc_raised pm_raised an_raised cd_raised ct_raised), sl_raised⟩)
    (c_raised : PySem.W.codeIn K cd_raised "raised" = true)
    (k_raised : PySem.W.keepIn K (.ref f_raised) = true)
    (a_integer_told : PySem.W.nsIn K mainGlobals "integer_told" = some (some (.ref f_integer_told)))
    (l_integer_told : K.lookup f_integer_told = some ⟨oc_integer_told, od_integer_told, .func (PySem.W.fnOf "integer_told" "integer_told" (defArgs s_integer_told) (defBody s_integer_told) (defScope s_integer_told) .none kV_integer_told dc_integer_told pm_integer_told an_integer_told cd_integer_told ct_integer_told), sl_integer_told⟩)
    (c_integer_told : PySem.W.codeIn K cd_integer_told "integer_told" = true)
    (k_integer_told : PySem.W.keepIn K (.ref f_integer_told) = true)
    (a_ratio_told : PySem.W.nsIn K mainGlobals "ratio_told" = some (some (.ref f_ratio_told)))
    (l_ratio_told : K.lookup f_ratio_told = some ⟨oc_ratio_told, od_ratio_told, .func (PySem.W.fnOf "ratio_told" "ratio_told" (defArgs s_ratio_told) (defBody s_ratio_told) (defScope s_ratio_told) .none kV_ratio_told dc_ratio_told pm_ratio_told an_ratio_told cd_ratio_told ct_ratio_told), sl_ratio_told⟩)
    (c_ratio_told : PySem.W.codeIn K cd_ratio_told "ratio_told" = true)
    (k_ratio_told : PySem.W.keepIn K (.ref f_ratio_told) = true)
    (a__law_cell : PySem.W.nsIn K mainGlobals "_law_cell" = some (some (.ref f__law_cell)))
    (l__law_cell : K.lookup f__law_cell = some ⟨oc__law_cell, od__law_cell, .func (PySem.W.fnOf "_law_cell" "_law_cell" (defArgs s__law_cell) (defBody s__law_cell) (defScope s__law_cell) .none kV__law_cell dc__law_cell pm__law_cell an__law_cell cd__law_cell ct__law_cell), sl__law_cell⟩)
    (c__law_cell : PySem.W.codeIn K cd__law_cell "_law_cell" = true)
    (k__law_cell : PySem.W.keepIn K (.ref f__law_cell) = true)
    (a__law_purse : PySem.W.nsIn K mainGlobals "_law_purse" = some (some (.ref f__law_purse)))
    (l__law_purse : K.lookup f__law_purse = some ⟨oc__law_purse, od__law_purse, .func (PySem.W.fnOf "_law_purse" "_law_purse" (defArgs s__law_purse) (defBody s__law_purse) (defScope s__law_purse) .none kV__law_purse dc__law_purse pm__law_purse an__law_purse cd__law_purse ct__law_purse), sl__law_purse⟩)
    (c__law_purse : PySem.W.codeIn K cd__law_purse "_law_purse" = true)
    (k__law_purse : PySem.W.keepIn K (.ref f__law_purse) = true)
    (a__law_take : PySem.W.nsIn K mainGlobals "_law_take" = some (some (.ref f__law_take)))
    (l__law_take : K.lookup f__law_take = some ⟨oc__law_take, od__law_take, .func (PySem.W.fnOf "_law_take" "_law_take" (defArgs s__law_take) (defBody s__law_take) (defScope s__law_take) .none kV__law_take dc__law_take pm__law_take an__law_take cd__law_take ct__law_take), sl__law_take⟩)
    (c__law_take : PySem.W.codeIn K cd__law_take "_law_take" = true)
    (k__law_take : PySem.W.keepIn K (.ref f__law_take) = true)
    (a__law_low : PySem.W.nsIn K mainGlobals "_law_low" = some (some (.ref f__law_low)))
    (l__law_low : K.lookup f__law_low = some ⟨oc__law_low, od__law_low, .func (PySem.W.fnOf "_law_low" "_law_low" (defArgs s__law_low) (defBody s__law_low) (defScope s__law_low) .none kV__law_low dc__law_low pm__law_low an__law_low cd__law_low ct__law_low), sl__law_low⟩)
    (c__law_low : PySem.W.codeIn K cd__law_low "_law_low" = true)
    (k__law_low : PySem.W.keepIn K (.ref f__law_low) = true)
    (a__law_whole : PySem.W.nsIn K mainGlobals "_law_whole" = some (some (.ref f__law_whole)))
    (l__law_whole : K.lookup f__law_whole = some ⟨oc__law_whole, od__law_whole, .func (PySem.W.fnOf "_law_whole" "_law_whole" (defArgs s__law_whole) (defBody s__law_whole) (defScope s__law_whole) .none kV__law_whole dc__law_whole pm__law_whole an__law_whole cd__law_whole ct__law_whole), sl__law_whole⟩)
    (c__law_whole : PySem.W.codeIn K cd__law_whole "_law_whole" = true)
    (k__law_whole : PySem.W.keepIn K (.ref f__law_whole) = true)
    (a__law_fraction : PySem.W.nsIn K mainGlobals "_law_fraction" = some (some (.ref f__law_fraction)))
    (l__law_fraction : K.lookup f__law_fraction = some ⟨oc__law_fraction, od__law_fraction, .func (PySem.W.fnOf "_law_fraction" "_law_fraction" (defArgs s__law_fraction) (defBody s__law_fraction) (defScope s__law_fraction) .none kV__law_fraction dc__law_fraction pm__law_fraction an__law_fraction cd__law_fraction ct__law_fraction), sl__law_fraction⟩)
    (c__law_fraction : PySem.W.codeIn K cd__law_fraction "_law_fraction" = true)
    (k__law_fraction : PySem.W.keepIn K (.ref f__law_fraction) = true)
    (a__law_made : PySem.W.nsIn K mainGlobals "_law_made" = some (some (.ref f__law_made)))
    (l__law_made : K.lookup f__law_made = some ⟨oc__law_made, od__law_made, .func (PySem.W.fnOf "_law_made" "_law_made" (defArgs s__law_made) (defBody s__law_made) (defScope s__law_made) .none kV__law_made dc__law_made pm__law_made an__law_made cd__law_made ct__law_made), sl__law_made⟩)
    (c__law_made : PySem.W.codeIn K cd__law_made "_law_made" = true)
    (k__law_made : PySem.W.keepIn K (.ref f__law_made) = true)
    (a__law_ring_right : PySem.W.nsIn K mainGlobals "_law_ring_right" = some (some (.ref f__law_ring_right)))
    (l__law_ring_right : K.lookup f__law_ring_right = some ⟨oc__law_ring_right, od__law_ring_right, .func (PySem.W.fnOf "_law_ring_right" "_law_ring_right" (defArgs s__law_ring_right) (defBody s__law_ring_right) (defScope s__law_ring_right) .none kV__law_ring_right dc__law_ring_right pm__law_ring_right an__law_ring_right cd__law_ring_right ct__law_ring_right), sl__law_ring_right⟩)
    (c__law_ring_right : PySem.W.codeIn K cd__law_ring_right "_law_ring_right" = true)
    (k__law_ring_right : PySem.W.keepIn K (.ref f__law_ring_right) = true)
    (a__law_rest_right : PySem.W.nsIn K mainGlobals "_law_rest_right" = some (some (.ref f__law_rest_right)))
    (l__law_rest_right : K.lookup f__law_rest_right = some ⟨oc__law_rest_right, od__law_rest_right, .func (PySem.W.fnOf "_law_rest_right" "_law_rest_right" (defArgs s__law_rest_right) (defBody s__law_rest_right) (defScope s__law_rest_right) .none kV__law_rest_right dc__law_rest_right pm__law_rest_right an__law_rest_right cd__law_rest_right ct__law_rest_right), sl__law_rest_right⟩)
    (c__law_rest_right : PySem.W.codeIn K cd__law_rest_right "_law_rest_right" = true)
    (k__law_rest_right : PySem.W.keepIn K (.ref f__law_rest_right) = true)
    (a__law_order_right : PySem.W.nsIn K mainGlobals "_law_order_right" = some (some (.ref f__law_order_right)))
    (l__law_order_right : K.lookup f__law_order_right = some ⟨oc__law_order_right, od__law_order_right, .func (PySem.W.fnOf "_law_order_right" "_law_order_right" (defArgs s__law_order_right) (defBody s__law_order_right) (defScope s__law_order_right) .none kV__law_order_right dc__law_order_right pm__law_order_right an__law_order_right cd__law_order_right ct__law_order_right), sl__law_order_right⟩)
    (c__law_order_right : PySem.W.codeIn K cd__law_order_right "_law_order_right" = true)
    (k__law_order_right : PySem.W.keepIn K (.ref f__law_order_right) = true)
    (a__law_right : PySem.W.nsIn K mainGlobals "_law_right" = some (some (.ref f__law_right)))
    (l__law_right : K.lookup f__law_right = some ⟨oc__law_right, od__law_right, .func (PySem.W.fnOf "_law_right" "_law_right" (defArgs s__law_right) (defBody s__law_right) (defScope s__law_right) .none kV__law_right dc__law_right pm__law_right an__law_right cd__law_right ct__law_right), sl__law_right⟩)
    (c__law_right : PySem.W.codeIn K cd__law_right "_law_right" = true)
    (k__law_right : PySem.W.keepIn K (.ref f__law_right) = true)
    (a_law : PySem.W.nsIn K mainGlobals "law" = some (some (.ref f_law)))
    (l_law : K.lookup f_law = some ⟨oc_law, od_law, .func (PySem.W.fnOf "law" "law" (defArgs s_law) (defBody s_law) (defScope s_law) .none kV_law dc_law pm_law an_law cd_law ct_law), sl_law⟩)
    (c_law : PySem.W.codeIn K cd_law "law" = true)
    (k_law : PySem.W.keepIn K (.ref f_law) = true)
    (a_R_top : PySem.W.findIn K (.ref C) "top" = some (some (.ref p_top)))
    (g_R_top : PySem.W.specialIn K (.ref p_top) "__get__" = some (some (.builtin "property.__get__")))
    (t_R_top : PySem.W.takesIn K (.ref p_top) = some true)
    (r_R_top : PySem.W.recIn K p_top "property" = some (.ref f_R_top :: rest_top))
    (l_R_top : K.lookup f_R_top = some ⟨oc_R_top, od_R_top, .func (PySem.W.fnOf "top" "Ratio.top" (defArgs s_R_top) (defBody s_R_top) (defScope s_R_top) .none kV_R_top dc_R_top pm_R_top an_R_top cd_R_top ct_R_top), sl_R_top⟩)
    (c_R_top : PySem.W.codeIn K cd_R_top "Ratio.top" = true)
    (k_R_top : PySem.W.keepIn K (.ref f_R_top) = true)
    (a_R_bottom : PySem.W.findIn K (.ref C) "bottom" = some (some (.ref p_bottom)))
    (g_R_bottom : PySem.W.specialIn K (.ref p_bottom) "__get__" = some (some (.builtin "property.__get__")))
    (t_R_bottom : PySem.W.takesIn K (.ref p_bottom) = some true)
    (r_R_bottom : PySem.W.recIn K p_bottom "property" = some (.ref f_R_bottom :: rest_bottom))
    (l_R_bottom : K.lookup f_R_bottom = some ⟨oc_R_bottom, od_R_bottom, .func (PySem.W.fnOf "bottom" "Ratio.bottom" (defArgs s_R_bottom) (defBody s_R_bottom) (defScope s_R_bottom) .none kV_R_bottom dc_R_bottom pm_R_bottom an_R_bottom cd_R_bottom ct_R_bottom), sl_R_bottom⟩)
    (c_R_bottom : PySem.W.codeIn K cd_R_bottom "Ratio.bottom" = true)
    (k_R_bottom : PySem.W.keepIn K (.ref f_R_bottom) = true)
    (a_R_add : PySem.W.findIn K (.ref C) "__add__" = some (some (.ref f_R_add)))
    (i_R_add : PySem.W.isFn K (.ref f_R_add) = true)
    (l_R_add : K.lookup f_R_add = some ⟨oc_R_add, od_R_add, .func (PySem.W.fnOf "__add__" "Ratio.__add__" (defArgs s_R_add) (defBody s_R_add) (defScope s_R_add) .none kV_R_add dc_R_add pm_R_add an_R_add cd_R_add ct_R_add), sl_R_add⟩)
    (c_R_add : PySem.W.codeIn K cd_R_add "Ratio.__add__" = true)
    (k_R_add : PySem.W.keepIn K (.ref f_R_add) = true)
    (a_R_radd : PySem.W.findIn K (.ref C) "__radd__" = some (some (.ref f_R_radd)))
    (i_R_radd : PySem.W.isFn K (.ref f_R_radd) = true)
    (l_R_radd : K.lookup f_R_radd = some ⟨oc_R_radd, od_R_radd, .func (PySem.W.fnOf "__radd__" "Ratio.__radd__" (defArgs s_R_radd) (defBody s_R_radd) (defScope s_R_radd) .none kV_R_radd dc_R_radd pm_R_radd an_R_radd cd_R_radd ct_R_radd), sl_R_radd⟩)
    (c_R_radd : PySem.W.codeIn K cd_R_radd "Ratio.__radd__" = true)
    (k_R_radd : PySem.W.keepIn K (.ref f_R_radd) = true)
    (a_R_sub : PySem.W.findIn K (.ref C) "__sub__" = some (some (.ref f_R_sub)))
    (i_R_sub : PySem.W.isFn K (.ref f_R_sub) = true)
    (l_R_sub : K.lookup f_R_sub = some ⟨oc_R_sub, od_R_sub, .func (PySem.W.fnOf "__sub__" "Ratio.__sub__" (defArgs s_R_sub) (defBody s_R_sub) (defScope s_R_sub) .none kV_R_sub dc_R_sub pm_R_sub an_R_sub cd_R_sub ct_R_sub), sl_R_sub⟩)
    (c_R_sub : PySem.W.codeIn K cd_R_sub "Ratio.__sub__" = true)
    (k_R_sub : PySem.W.keepIn K (.ref f_R_sub) = true)
    (a_R_rsub : PySem.W.findIn K (.ref C) "__rsub__" = some (some (.ref f_R_rsub)))
    (i_R_rsub : PySem.W.isFn K (.ref f_R_rsub) = true)
    (l_R_rsub : K.lookup f_R_rsub = some ⟨oc_R_rsub, od_R_rsub, .func (PySem.W.fnOf "__rsub__" "Ratio.__rsub__" (defArgs s_R_rsub) (defBody s_R_rsub) (defScope s_R_rsub) .none kV_R_rsub dc_R_rsub pm_R_rsub an_R_rsub cd_R_rsub ct_R_rsub), sl_R_rsub⟩)
    (c_R_rsub : PySem.W.codeIn K cd_R_rsub "Ratio.__rsub__" = true)
    (k_R_rsub : PySem.W.keepIn K (.ref f_R_rsub) = true)
    (a_R_mul : PySem.W.findIn K (.ref C) "__mul__" = some (some (.ref f_R_mul)))
    (i_R_mul : PySem.W.isFn K (.ref f_R_mul) = true)
    (l_R_mul : K.lookup f_R_mul = some ⟨oc_R_mul, od_R_mul, .func (PySem.W.fnOf "__mul__" "Ratio.__mul__" (defArgs s_R_mul) (defBody s_R_mul) (defScope s_R_mul) .none kV_R_mul dc_R_mul pm_R_mul an_R_mul cd_R_mul ct_R_mul), sl_R_mul⟩)
    (c_R_mul : PySem.W.codeIn K cd_R_mul "Ratio.__mul__" = true)
    (k_R_mul : PySem.W.keepIn K (.ref f_R_mul) = true)
    (a_R_rmul : PySem.W.findIn K (.ref C) "__rmul__" = some (some (.ref f_R_rmul)))
    (i_R_rmul : PySem.W.isFn K (.ref f_R_rmul) = true)
    (l_R_rmul : K.lookup f_R_rmul = some ⟨oc_R_rmul, od_R_rmul, .func (PySem.W.fnOf "__rmul__" "Ratio.__rmul__" (defArgs s_R_rmul) (defBody s_R_rmul) (defScope s_R_rmul) .none kV_R_rmul dc_R_rmul pm_R_rmul an_R_rmul cd_R_rmul ct_R_rmul), sl_R_rmul⟩)
    (c_R_rmul : PySem.W.codeIn K cd_R_rmul "Ratio.__rmul__" = true)
    (k_R_rmul : PySem.W.keepIn K (.ref f_R_rmul) = true)
    (a_R_floordiv : PySem.W.findIn K (.ref C) "__floordiv__" = some (some (.ref f_R_floordiv)))
    (i_R_floordiv : PySem.W.isFn K (.ref f_R_floordiv) = true)
    (l_R_floordiv : K.lookup f_R_floordiv = some ⟨oc_R_floordiv, od_R_floordiv, .func (PySem.W.fnOf "__floordiv__" "Ratio.__floordiv__" (defArgs s_R_floordiv) (defBody s_R_floordiv) (defScope s_R_floordiv) .none kV_R_floordiv dc_R_floordiv pm_R_floordiv an_R_floordiv cd_R_floordiv ct_R_floordiv), sl_R_floordiv⟩)
    (c_R_floordiv : PySem.W.codeIn K cd_R_floordiv "Ratio.__floordiv__" = true)
    (k_R_floordiv : PySem.W.keepIn K (.ref f_R_floordiv) = true)
    (a_R_rfloordiv : PySem.W.findIn K (.ref C) "__rfloordiv__" = some (some (.ref f_R_rfloordiv)))
    (i_R_rfloordiv : PySem.W.isFn K (.ref f_R_rfloordiv) = true)
    (l_R_rfloordiv : K.lookup f_R_rfloordiv = some ⟨oc_R_rfloordiv, od_R_rfloordiv, .func (PySem.W.fnOf "__rfloordiv__" "Ratio.__rfloordiv__" (defArgs s_R_rfloordiv) (defBody s_R_rfloordiv) (defScope s_R_rfloordiv) .none kV_R_rfloordiv dc_R_rfloordiv pm_R_rfloordiv an_R_rfloordiv cd_R_rfloordiv ct_R_rfloordiv), sl_R_rfloordiv⟩)
    (c_R_rfloordiv : PySem.W.codeIn K cd_R_rfloordiv "Ratio.__rfloordiv__" = true)
    (k_R_rfloordiv : PySem.W.keepIn K (.ref f_R_rfloordiv) = true)
    (a_R_mod : PySem.W.findIn K (.ref C) "__mod__" = some (some (.ref f_R_mod)))
    (i_R_mod : PySem.W.isFn K (.ref f_R_mod) = true)
    (l_R_mod : K.lookup f_R_mod = some ⟨oc_R_mod, od_R_mod, .func (PySem.W.fnOf "__mod__" "Ratio.__mod__" (defArgs s_R_mod) (defBody s_R_mod) (defScope s_R_mod) .none kV_R_mod dc_R_mod pm_R_mod an_R_mod cd_R_mod ct_R_mod), sl_R_mod⟩)
    (c_R_mod : PySem.W.codeIn K cd_R_mod "Ratio.__mod__" = true)
    (k_R_mod : PySem.W.keepIn K (.ref f_R_mod) = true)
    (a_R_rmod : PySem.W.findIn K (.ref C) "__rmod__" = some (some (.ref f_R_rmod)))
    (i_R_rmod : PySem.W.isFn K (.ref f_R_rmod) = true)
    (l_R_rmod : K.lookup f_R_rmod = some ⟨oc_R_rmod, od_R_rmod, .func (PySem.W.fnOf "__rmod__" "Ratio.__rmod__" (defArgs s_R_rmod) (defBody s_R_rmod) (defScope s_R_rmod) .none kV_R_rmod dc_R_rmod pm_R_rmod an_R_rmod cd_R_rmod ct_R_rmod), sl_R_rmod⟩)
    (c_R_rmod : PySem.W.codeIn K cd_R_rmod "Ratio.__rmod__" = true)
    (k_R_rmod : PySem.W.keepIn K (.ref f_R_rmod) = true)
    (a_R_neg : PySem.W.findIn K (.ref C) "__neg__" = some (some (.ref f_R_neg)))
    (i_R_neg : PySem.W.isFn K (.ref f_R_neg) = true)
    (l_R_neg : K.lookup f_R_neg = some ⟨oc_R_neg, od_R_neg, .func (PySem.W.fnOf "__neg__" "Ratio.__neg__" (defArgs s_R_neg) (defBody s_R_neg) (defScope s_R_neg) .none kV_R_neg dc_R_neg pm_R_neg an_R_neg cd_R_neg ct_R_neg), sl_R_neg⟩)
    (c_R_neg : PySem.W.codeIn K cd_R_neg "Ratio.__neg__" = true)
    (k_R_neg : PySem.W.keepIn K (.ref f_R_neg) = true)
    (a_R_abs : PySem.W.findIn K (.ref C) "__abs__" = some (some (.ref f_R_abs)))
    (i_R_abs : PySem.W.isFn K (.ref f_R_abs) = true)
    (l_R_abs : K.lookup f_R_abs = some ⟨oc_R_abs, od_R_abs, .func (PySem.W.fnOf "__abs__" "Ratio.__abs__" (defArgs s_R_abs) (defBody s_R_abs) (defScope s_R_abs) .none kV_R_abs dc_R_abs pm_R_abs an_R_abs cd_R_abs ct_R_abs), sl_R_abs⟩)
    (c_R_abs : PySem.W.codeIn K cd_R_abs "Ratio.__abs__" = true)
    (k_R_abs : PySem.W.keepIn K (.ref f_R_abs) = true)
    (a_R_eq : PySem.W.findIn K (.ref C) "__eq__" = some (some (.ref f_R_eq)))
    (i_R_eq : PySem.W.isFn K (.ref f_R_eq) = true)
    (l_R_eq : K.lookup f_R_eq = some ⟨oc_R_eq, od_R_eq, .func (PySem.W.fnOf "__eq__" "Ratio.__eq__" (defArgs s_R_eq) (defBody s_R_eq) (defScope s_R_eq) .none kV_R_eq dc_R_eq pm_R_eq an_R_eq cd_R_eq ct_R_eq), sl_R_eq⟩)
    (c_R_eq : PySem.W.codeIn K cd_R_eq "Ratio.__eq__" = true)
    (k_R_eq : PySem.W.keepIn K (.ref f_R_eq) = true)
    (a_R_str : PySem.W.findIn K (.ref C) "__str__" = some (some (.ref f_R_str)))
    (i_R_str : PySem.W.isFn K (.ref f_R_str) = true)
    (l_R_str : K.lookup f_R_str = some ⟨oc_R_str, od_R_str, .func (PySem.W.fnOf "__str__" "Ratio.__str__" (defArgs s_R_str) (defBody s_R_str) (defScope s_R_str) .none kV_R_str dc_R_str pm_R_str an_R_str cd_R_str ct_R_str), sl_R_str⟩)
    (c_R_str : PySem.W.codeIn K cd_R_str "Ratio.__str__" = true)
    (k_R_str : PySem.W.keepIn K (.ref f_R_str) = true)
    (a_R_repr : PySem.W.findIn K (.ref C) "__repr__" = some (some (.ref f_R_repr)))
    (i_R_repr : PySem.W.isFn K (.ref f_R_repr) = true)
    (l_R_repr : K.lookup f_R_repr = some ⟨oc_R_repr, od_R_repr, .func (PySem.W.fnOf "__repr__" "Ratio.__repr__" (defArgs s_R_repr) (defBody s_R_repr) (defScope s_R_repr) .none kV_R_repr dc_R_repr pm_R_repr an_R_repr cd_R_repr ct_R_repr), sl_R_repr⟩)
    (c_R_repr : PySem.W.codeIn K cd_R_repr "Ratio.__repr__" = true)
    (k_R_repr : PySem.W.keepIn K (.ref f_R_repr) = true)
    (a_R_ne : PySem.W.findIn K (.ref C) "__ne__" = some (some (.ref f_R_ne)))
    (i_R_ne : PySem.W.isFn K (.ref f_R_ne) = true)
    (l_R_ne : K.lookup f_R_ne = some ⟨oc_R_ne, od_R_ne, .func (PySem.W.fnOf "__ne__" "Ratio.__ne__" (defArgs s_R_ne) (defBody s_R_ne) (defScope s_R_ne) .none kV_R_ne dc_R_ne pm_R_ne an_R_ne cd_R_ne ct_R_ne), sl_R_ne⟩)
    (c_R_ne : PySem.W.codeIn K cd_R_ne "Ratio.__ne__" = true)
    (k_R_ne : PySem.W.keepIn K (.ref f_R_ne) = true)
    (a_R_pow : PySem.W.findIn K (.ref C) "__pow__" = some (some (.ref f_R_pow)))
    (i_R_pow : PySem.W.isFn K (.ref f_R_pow) = true)
    (l_R_pow : K.lookup f_R_pow = some ⟨oc_R_pow, od_R_pow, .func (PySem.W.fnOf "__pow__" "Ratio.__pow__" (defArgs s_R_pow) (defBody s_R_pow) (defScope s_R_pow) .none kV_R_pow dc_R_pow pm_R_pow an_R_pow cd_R_pow ct_R_pow), sl_R_pow⟩)
    (c_R_pow : PySem.W.codeIn K cd_R_pow "Ratio.__pow__" = true)
    (k_R_pow : PySem.W.keepIn K (.ref f_R_pow) = true)
    (a_R_excess : PySem.W.findIn K (.ref C) "_excess" = some (some (.ref f_R_excess)))
    (i_R_excess : PySem.W.isFn K (.ref f_R_excess) = true)
    (l_R_excess : K.lookup f_R_excess = some ⟨oc_R_excess, od_R_excess, .func (PySem.W.fnOf "_excess" "Ratio._excess" (defArgs s_R_excess) (defBody s_R_excess) (defScope s_R_excess) .none kV_R_excess dc_R_excess pm_R_excess an_R_excess cd_R_excess ct_R_excess), sl_R_excess⟩)
    (c_R_excess : PySem.W.codeIn K cd_R_excess "Ratio._excess" = true)
    (k_R_excess : PySem.W.keepIn K (.ref f_R_excess) = true)
    (a_R_lt : PySem.W.findIn K (.ref C) "__lt__" = some (some (.ref f_R_lt)))
    (i_R_lt : PySem.W.isFn K (.ref f_R_lt) = true)
    (l_R_lt : K.lookup f_R_lt = some ⟨oc_R_lt, od_R_lt, .func (PySem.W.fnOf "__lt__" "Ratio.__lt__" (defArgs s_R_lt) (defBody s_R_lt) (defScope s_R_lt) .none kV_R_lt dc_R_lt pm_R_lt an_R_lt cd_R_lt ct_R_lt), sl_R_lt⟩)
    (c_R_lt : PySem.W.codeIn K cd_R_lt "Ratio.__lt__" = true)
    (k_R_lt : PySem.W.keepIn K (.ref f_R_lt) = true)
    (a_R_le : PySem.W.findIn K (.ref C) "__le__" = some (some (.ref f_R_le)))
    (i_R_le : PySem.W.isFn K (.ref f_R_le) = true)
    (l_R_le : K.lookup f_R_le = some ⟨oc_R_le, od_R_le, .func (PySem.W.fnOf "__le__" "Ratio.__le__" (defArgs s_R_le) (defBody s_R_le) (defScope s_R_le) .none kV_R_le dc_R_le pm_R_le an_R_le cd_R_le ct_R_le), sl_R_le⟩)
    (c_R_le : PySem.W.codeIn K cd_R_le "Ratio.__le__" = true)
    (k_R_le : PySem.W.keepIn K (.ref f_R_le) = true)
    (a_R_gt : PySem.W.findIn K (.ref C) "__gt__" = some (some (.ref f_R_gt)))
    (i_R_gt : PySem.W.isFn K (.ref f_R_gt) = true)
    (l_R_gt : K.lookup f_R_gt = some ⟨oc_R_gt, od_R_gt, .func (PySem.W.fnOf "__gt__" "Ratio.__gt__" (defArgs s_R_gt) (defBody s_R_gt) (defScope s_R_gt) .none kV_R_gt dc_R_gt pm_R_gt an_R_gt cd_R_gt ct_R_gt), sl_R_gt⟩)
    (c_R_gt : PySem.W.codeIn K cd_R_gt "Ratio.__gt__" = true)
    (k_R_gt : PySem.W.keepIn K (.ref f_R_gt) = true)
    (a_R_ge : PySem.W.findIn K (.ref C) "__ge__" = some (some (.ref f_R_ge)))
    (i_R_ge : PySem.W.isFn K (.ref f_R_ge) = true)
    (l_R_ge : K.lookup f_R_ge = some ⟨oc_R_ge, od_R_ge, .func (PySem.W.fnOf "__ge__" "Ratio.__ge__" (defArgs s_R_ge) (defBody s_R_ge) (defScope s_R_ge) .none kV_R_ge dc_R_ge pm_R_ge an_R_ge cd_R_ge ct_R_ge), sl_R_ge⟩)
    (c_R_ge : PySem.W.codeIn K cd_R_ge "Ratio.__ge__" = true)
    (k_R_ge : PySem.W.keepIn K (.ref f_R_ge) = true)
    (a_R_bool : PySem.W.findIn K (.ref C) "__bool__" = some (some (.ref f_R_bool)))
    (i_R_bool : PySem.W.isFn K (.ref f_R_bool) = true)
    (l_R_bool : K.lookup f_R_bool = some ⟨oc_R_bool, od_R_bool, .func (PySem.W.fnOf "__bool__" "Ratio.__bool__" (defArgs s_R_bool) (defBody s_R_bool) (defScope s_R_bool) .none kV_R_bool dc_R_bool pm_R_bool an_R_bool cd_R_bool ct_R_bool), sl_R_bool⟩)
    (c_R_bool : PySem.W.codeIn K cd_R_bool "Ratio.__bool__" = true)
    (k_R_bool : PySem.W.keepIn K (.ref f_R_bool) = true)
    (a_R_read : PySem.W.findCls K (.ref C) (.type "type") "read" = some (.get (.builtin "classmethod.__get__") (.ref p_read) .none (.ref C)))
    (r_R_read : PySem.W.recIn K p_read "classmethod" = some (.ref f_R_read :: rest_read))
    (n_R_read : PySem.W.fnIn K f_R_read = true)
    (l_R_read : K.lookup f_R_read = some ⟨oc_R_read, od_R_read, .func (PySem.W.fnOf "read" "Ratio.read" (defArgs s_R_read) (defBody s_R_read) (defScope s_R_read) .none kV_R_read dc_R_read pm_R_read an_R_read cd_R_read ct_R_read), sl_R_read⟩)
    (c_R_read : PySem.W.codeIn K cd_R_read "Ratio.read" = true)
    (k_R_read : PySem.W.keepIn K (.ref f_R_read) = true)
    (a_R_init : PySem.W.findIn K (.ref C) "__init__" = some (some (.ref f_R_init)))
    (i_R_init : PySem.W.isFn K (.ref f_R_init) = true)
    (l_R_init : K.lookup f_R_init = some ⟨oc_R_init, od_R_init, .func (PySem.W.fnOf "__init__" "Ratio.__init__" (defArgs s_R_init) (defBody s_R_init) (defScope s_R_init) (.ref T_i) kV_R_init dc_R_init pm_R_init an_R_init cd_R_init ct_R_init), sl_R_init⟩)
    (c_R_init : PySem.W.codeIn K cd_R_init "Ratio.__init__" = true)
    (k_R_init : PySem.W.keepIn K (.ref f_R_init) = true)
    (lT : K.lookup T_i = some ⟨oc_T, od_T, .seq #[.int 1 tk_T] n_T, sl_T⟩)
    (pg : PySem.W.plainGet K C Str.empty = true)
    (hd : PySem.W.hasDictIn K C = true)
    (po : PySem.W.plainOver K C = true)
    (sa : PySem.W.findIn K (.ref C) "__setattr__" = some (some (.builtin "object.__setattr__")))
    (mk : PySem.W.makesIn K C = true)
    (kc : PySem.W.keepIn K (.ref C) = true)
    (n_top : PySem.W.findIn K (.ref C) "_top" = some none)
    (n_bot : PySem.W.findIn K (.ref C) "_bottom" = some none)
    (sf : PySem.W.selfFirst K C = true)
    (sI : PySem.W.subIn K (.ref C) (.type "int") = some false)
    (sT : PySem.W.subIn K (.type "int") (.ref C) = some false)
    (fi_add : PySem.W.findIn K (.type "int") "__add__" = some fo_add)
    (ri_add : PySem.W.findIn K (.type "int") "__radd__" = some ro_add)
    (fi_sub : PySem.W.findIn K (.type "int") "__sub__" = some fo_sub)
    (ri_sub : PySem.W.findIn K (.type "int") "__rsub__" = some ro_sub)
    (fi_mul : PySem.W.findIn K (.type "int") "__mul__" = some fo_mul)
    (ri_mul : PySem.W.findIn K (.type "int") "__rmul__" = some ro_mul)
    (fi_floordiv : PySem.W.findIn K (.type "int") "__floordiv__" = some fo_floordiv)
    (ri_floordiv : PySem.W.findIn K (.type "int") "__rfloordiv__" = some ro_floordiv)
    (fi_mod : PySem.W.findIn K (.type "int") "__mod__" = some fo_mod)
    (ri_mod : PySem.W.findIn K (.type "int") "__rmod__" = some ro_mod)
    (fi_pow : PySem.W.findIn K (.type "int") "__pow__" = some fo_pow)
    (ri_pow : PySem.W.findIn K (.type "int") "__rpow__" = some ro_pow)
    (nr_pow : PySem.W.findIn K (.ref C) "__rpow__" = some none)
    (gMost : PySem.W.nsIn K mainGlobals "MOST_FACTORS" = some (some (.int 64 tk_most)))
    (cr1 : PySem.W.readsIn K C (.type "type") = true)
    (cr2 : PySem.W.specialIn K (.ref C) "__getattribute__" = some (some (.builtin "type.__getattribute__")))
    (gG : PySem.W.nsIn K mainGlobals "gcd" = some (some (.builtin "math.gcd")))
    (z_isinstance : PySem.W.nsIn K mainGlobals "isinstance" = some none)
    (z_int : PySem.W.nsIn K mainGlobals "int" = some none)
    (z_bool : PySem.W.nsIn K mainGlobals "bool" = some none)
    (z_str : PySem.W.nsIn K mainGlobals "str" = some none)
    (z_repr : PySem.W.nsIn K mainGlobals "repr" = some none)
    (z_abs : PySem.W.nsIn K mainGlobals "abs" = some none)
    (z_len : PySem.W.nsIn K mainGlobals "len" = some none)
    (z_max : PySem.W.nsIn K mainGlobals "max" = some none)
    (z_min : PySem.W.nsIn K mainGlobals "min" = some none)
    (z_divmod : PySem.W.nsIn K mainGlobals "divmod" = some none)
    (z_all : PySem.W.nsIn K mainGlobals "all" = some none)
    (z_range : PySem.W.nsIn K mainGlobals "range" = some none)
    (hcl : PySem.W.findIn K (.ref C) "__class__" = some (some (.builtin "object.__class__")))
    (hgs : PySem.W.specialIn K (.builtin "object.__class__") "__get__" = some (some (.builtin "getset_descriptor.__get__")))
    (htk : PySem.W.takesIn K (.builtin "object.__class__") = some true)
    (hmr : PySem.W.mroIn K C (.type "object") = some true)
    (kCC : PySem.W.kitOne K (.ref C) (.ref C) = some true)
    (kTC_int : PySem.W.kitOne K (.type "int") (.ref C) = some false)
    (kTC_bool : PySem.W.kitOne K (.type "bool") (.ref C) = some false)
    (kTC_str : PySem.W.kitOne K (.type "str") (.ref C) = some false)
    (kTC_NoneType : PySem.W.kitOne K (.type "NoneType") (.ref C) = some false)
    (kTC_tuple : PySem.W.kitOne K (.type "tuple") (.ref C) = some false)
    (kTC_list : PySem.W.kitOne K (.type "list") (.ref C) = some false)
    (kTC_dict : PySem.W.kitOne K (.type "dict") (.ref C) = some false)
    (kCT_int : PySem.W.kitOne K (.ref C) (.type "int") = some false)
    (kCT_bool : PySem.W.kitOne K (.ref C) (.type "bool") = some false)
    (kCT_str : PySem.W.kitOne K (.ref C) (.type "str") = some false)
    (sN_NoneType : PySem.W.subIn K (.type "NoneType") (.ref C) = some false)
    (sN_bool : PySem.W.subIn K (.type "bool") (.ref C) = some false)
    (sN_str : PySem.W.subIn K (.type "str") (.ref C) = some false)
    (sN_tuple : PySem.W.subIn K (.type "tuple") (.ref C) = some false)
    (sN_list : PySem.W.subIn K (.type "list") (.ref C) = some false)
    (sN_dict : PySem.W.subIn K (.type "dict") (.ref C) = some false) :
    ∃ fd : FuncData, (∀ (s : Shared) (v : Value), BindsTo s fd ⟨[v], []⟩ [("script", v)]) ∧ ∀ base : Heap, K.In base → base.Ns mainGlobals mg → FnG l.prog w K mg base 17 fa fd ["script"] (spW ⟨K, mg⟩ 1 w_law) := by
  have e := hfa.symm.trans (PySem.W.mg_of X G a_law)
  cases e
  have gC : mg "Ratio" = some (.ref C) := PySem.W.mg_of X G aC
  have sN : ∀ T ∈ tysN, PySem.W.subIn K (.type T) (.ref C) = some false := fun T hT => by
    simp only [tysN, List.mem_cons, List.not_mem_nil, or_false] at hT
    rcases hT with rfl | rfl | rfl | rfl | rfl | rfl
    · exact sN_NoneType
    · exact sN_bool
    · exact sN_str
    · exact sN_tuple
    · exact sN_list
    · exact sN_dict
  have I : IsiT K ⟨K, mg⟩ kt := by
    refine ⟨fun a b r va vb hk ha hb => ?_, fun c b r C' hk hc => ?_⟩
    · cases a with
      | ty a =>
        cases b with
        | ty b =>
          have ha : va = .type a := ha
          have hb : vb = .type b := hb
          subst ha hb
          exact kit_ty hk
        | cls d =>
          have ha : va = .type a := ha
          subst ha
          have hk : (if (a = "int" ∨ a = "bool" ∨ a = "str" ∨ a = "NoneType" ∨ a = "tuple" ∨ a = "list" ∨ a = "dict") ∧ d = "Ratio" then some false else none) = some r := hk
          · obtain ⟨⟨z, rfl⟩, rfl⟩ := if_some hk
            obtain ⟨hb, _⟩ := hb
            have e : vb = .ref C := Option.some.inj (hb.symm.trans gC)
            subst e
            rcases z with rfl | rfl | rfl | rfl | rfl | rfl | rfl
            · exact kTC_int
            · exact kTC_bool
            · exact kTC_str
            · exact kTC_NoneType
            · exact kTC_tuple
            · exact kTC_list
            · exact kTC_dict
      | cls c =>
        cases b with
        | ty b =>
          have hb : vb = .type b := hb
          subst hb
          have hk : (if c = "Ratio" ∧ (b = "int" ∨ b = "bool" ∨ b = "str") then some false else none) = some r := hk
          · obtain ⟨⟨rfl, z⟩, rfl⟩ := if_some hk
            obtain ⟨ha, _⟩ := ha
            have e : va = .ref C := Option.some.inj (ha.symm.trans gC)
            subst e
            rcases z with rfl | rfl | rfl
            · exact kCT_int
            · exact kCT_bool
            · exact kCT_str
        | cls d =>
          have hk : (if c = "Ratio" ∧ d = "Ratio" then some true else none) = some r := hk
          · obtain ⟨⟨rfl, rfl⟩, rfl⟩ := if_some hk
            obtain ⟨ha, _⟩ := ha
            obtain ⟨hb, _⟩ := hb
            have e : va = .ref C := Option.some.inj (ha.symm.trans gC)
            subst e
            have e : vb = .ref C := Option.some.inj (hb.symm.trans gC)
            subst e
            exact kCC
    · have hc : mg c = some (.ref C') := hc
      have ec : c = "Ratio" := by
        cases b with
        | ty b =>
          have hk : (if c = "Ratio" ∧ (b = "int" ∨ b = "bool" ∨ b = "str") then some false else none) = some r := hk
          exact (if_some hk).1.1
        | cls d =>
          have hk : (if c = "Ratio" ∧ d = "Ratio" then some true else none) = some r := hk
          exact (if_some hk).1.1
      subst ec
      have e := Option.some.inj (hc.symm.trans gC)
      cases e
      exact ⟨⟨pg, hd, po, sa⟩, hcl, hgs, htk, hmr⟩
  have F_is_int := fun_mk (x := "is_int") (qual := "is_int") (st := s_is_int) l_is_int c_is_int k_is_int
  have b_is_int := F_is_int.binds (ps := ["value"]) fun _ _ _ _ _ _ us hl => match us, hl with | [_], _ => rfl
  have F_is_number := fun_mk (x := "is_number") (qual := "is_number") (st := s_is_number) l_is_number c_is_number k_is_number
  have b_is_number := F_is_number.binds (ps := ["value"]) fun _ _ _ _ _ _ us hl => match us, hl with | [_], _ => rfl
  have F_as_ratio := fun_mk (x := "as_ratio") (qual := "as_ratio") (st := s_as_ratio) l_as_ratio c_as_ratio k_as_ratio
  have b_as_ratio := F_as_ratio.binds (ps := ["number"]) fun _ _ _ _ _ _ us hl => match us, hl with | [_], _ => rfl
  have F_quotient := fun_mk (x := "quotient") (qual := "quotient") (st := s_quotient) l_quotient c_quotient k_quotient
  have b_quotient := F_quotient.binds (ps := ["one", "two"]) fun _ _ _ _ _ _ us hl => match us, hl with | [_, _], _ => rfl
  have F_raised := fun_mk (x := "raised") (qual := "raised") (st := s_raised) l_raised c_raised k_raised
  have b_raised := F_raised.binds (ps := ["number", "exponent"]) fun _ _ _ _ _ _ us hl => match us, hl with | [_, _], _ => rfl
  have F_integer_told := fun_mk (x := "integer_told") (qual := "integer_told") (st := s_integer_told) l_integer_told c_integer_told k_integer_told
  have b_integer_told := F_integer_told.binds (ps := ["text"]) fun _ _ _ _ _ _ us hl => match us, hl with | [_], _ => rfl
  have F_ratio_told := fun_mk (x := "ratio_told") (qual := "ratio_told") (st := s_ratio_told) l_ratio_told c_ratio_told k_ratio_told
  have b_ratio_told := F_ratio_told.binds (ps := ["text"]) fun _ _ _ _ _ _ us hl => match us, hl with | [_], _ => rfl
  have F__law_cell := fun_mk (x := "_law_cell") (qual := "_law_cell") (st := s__law_cell) l__law_cell c__law_cell k__law_cell
  have b__law_cell := F__law_cell.binds (ps := ["script", "k"]) fun _ _ _ _ _ _ us hl => match us, hl with | [_, _], _ => rfl
  have F__law_purse := fun_mk (x := "_law_purse") (qual := "_law_purse") (st := s__law_purse) l__law_purse c__law_purse k__law_purse
  have b__law_purse := F__law_purse.binds (ps := ["cell"]) fun _ _ _ _ _ _ us hl => match us, hl with | [_], _ => rfl
  have F__law_take := fun_mk (x := "_law_take") (qual := "_law_take") (st := s__law_take) l__law_take c__law_take k__law_take
  have b__law_take := F__law_take.binds (ps := ["purse", "many"]) fun _ _ _ _ _ _ us hl => match us, hl with | [_, _], _ => rfl
  have F__law_low := fun_mk (x := "_law_low") (qual := "_law_low") (st := s__law_low) l__law_low c__law_low k__law_low
  have b__law_low := F__law_low.binds (ps := ["over", "under"]) fun _ _ _ _ _ _ us hl => match us, hl with | [_, _], _ => rfl
  have F__law_whole := fun_mk (x := "_law_whole") (qual := "_law_whole") (st := s__law_whole) l__law_whole c__law_whole k__law_whole
  have b__law_whole := F__law_whole.binds (ps := ["purse"]) fun _ _ _ _ _ _ us hl => match us, hl with | [_], _ => rfl
  have F__law_fraction := fun_mk (x := "_law_fraction") (qual := "_law_fraction") (st := s__law_fraction) l__law_fraction c__law_fraction k__law_fraction
  have b__law_fraction := F__law_fraction.binds (ps := ["purse"]) fun _ _ _ _ _ _ us hl => match us, hl with | [_], _ => rfl
  have F__law_made := fun_mk (x := "_law_made") (qual := "_law_made") (st := s__law_made) l__law_made c__law_made k__law_made
  have b__law_made := F__law_made.binds (ps := ["purse", "pair"]) fun _ _ _ _ _ _ us hl => match us, hl with | [_, _], _ => rfl
  have F__law_ring_right := fun_mk (x := "_law_ring_right") (qual := "_law_ring_right") (st := s__law_ring_right) l__law_ring_right c__law_ring_right k__law_ring_right
  have b__law_ring_right := F__law_ring_right.binds (ps := ["a", "b", "c"]) fun _ _ _ _ _ _ us hl => match us, hl with | [_, _, _], _ => rfl
  have F__law_rest_right := fun_mk (x := "_law_rest_right") (qual := "_law_rest_right") (st := s__law_rest_right) l__law_rest_right c__law_rest_right k__law_rest_right
  have b__law_rest_right := F__law_rest_right.binds (ps := ["a", "b"]) fun _ _ _ _ _ _ us hl => match us, hl with | [_, _], _ => rfl
  have F__law_order_right := fun_mk (x := "_law_order_right") (qual := "_law_order_right") (st := s__law_order_right) l__law_order_right c__law_order_right k__law_order_right
  have b__law_order_right := F__law_order_right.binds (ps := ["a", "b", "c"]) fun _ _ _ _ _ _ us hl => match us, hl with | [_, _, _], _ => rfl
  have F__law_right := fun_mk (x := "_law_right") (qual := "_law_right") (st := s__law_right) l__law_right c__law_right k__law_right
  have b__law_right := F__law_right.binds (ps := ["purse"]) fun _ _ _ _ _ _ us hl => match us, hl with | [_], _ => rfl
  have F_law := fun_mk (x := "law") (qual := "law") (st := s_law) l_law c_law k_law
  have b_law := F_law.binds (ps := ["script"]) fun _ _ _ _ _ _ us hl => match us, hl with | [_], _ => rfl
  have F_R_top := fun_mk (x := "top") (qual := "Ratio.top") (st := s_R_top) l_R_top c_R_top k_R_top
  have b_R_top := F_R_top.binds (ps := ["self"]) fun _ _ _ _ _ _ us hl => match us, hl with | [_], _ => rfl
  have F_R_bottom := fun_mk (x := "bottom") (qual := "Ratio.bottom") (st := s_R_bottom) l_R_bottom c_R_bottom k_R_bottom
  have b_R_bottom := F_R_bottom.binds (ps := ["self"]) fun _ _ _ _ _ _ us hl => match us, hl with | [_], _ => rfl
  have F_R_add := fun_mk (x := "__add__") (qual := "Ratio.__add__") (st := s_R_add) l_R_add c_R_add k_R_add
  have b_R_add := F_R_add.binds (ps := ["self", "other"]) fun _ _ _ _ _ _ us hl => match us, hl with | [_, _], _ => rfl
  have F_R_radd := fun_mk (x := "__radd__") (qual := "Ratio.__radd__") (st := s_R_radd) l_R_radd c_R_radd k_R_radd
  have b_R_radd := F_R_radd.binds (ps := ["self", "other"]) fun _ _ _ _ _ _ us hl => match us, hl with | [_, _], _ => rfl
  have F_R_sub := fun_mk (x := "__sub__") (qual := "Ratio.__sub__") (st := s_R_sub) l_R_sub c_R_sub k_R_sub
  have b_R_sub := F_R_sub.binds (ps := ["self", "other"]) fun _ _ _ _ _ _ us hl => match us, hl with | [_, _], _ => rfl
  have F_R_rsub := fun_mk (x := "__rsub__") (qual := "Ratio.__rsub__") (st := s_R_rsub) l_R_rsub c_R_rsub k_R_rsub
  have b_R_rsub := F_R_rsub.binds (ps := ["self", "other"]) fun _ _ _ _ _ _ us hl => match us, hl with | [_, _], _ => rfl
  have F_R_mul := fun_mk (x := "__mul__") (qual := "Ratio.__mul__") (st := s_R_mul) l_R_mul c_R_mul k_R_mul
  have b_R_mul := F_R_mul.binds (ps := ["self", "other"]) fun _ _ _ _ _ _ us hl => match us, hl with | [_, _], _ => rfl
  have F_R_rmul := fun_mk (x := "__rmul__") (qual := "Ratio.__rmul__") (st := s_R_rmul) l_R_rmul c_R_rmul k_R_rmul
  have b_R_rmul := F_R_rmul.binds (ps := ["self", "other"]) fun _ _ _ _ _ _ us hl => match us, hl with | [_, _], _ => rfl
  have F_R_floordiv := fun_mk (x := "__floordiv__") (qual := "Ratio.__floordiv__") (st := s_R_floordiv) l_R_floordiv c_R_floordiv k_R_floordiv
  have b_R_floordiv := F_R_floordiv.binds (ps := ["self", "other"]) fun _ _ _ _ _ _ us hl => match us, hl with | [_, _], _ => rfl
  have F_R_rfloordiv := fun_mk (x := "__rfloordiv__") (qual := "Ratio.__rfloordiv__") (st := s_R_rfloordiv) l_R_rfloordiv c_R_rfloordiv k_R_rfloordiv
  have b_R_rfloordiv := F_R_rfloordiv.binds (ps := ["self", "other"]) fun _ _ _ _ _ _ us hl => match us, hl with | [_, _], _ => rfl
  have F_R_mod := fun_mk (x := "__mod__") (qual := "Ratio.__mod__") (st := s_R_mod) l_R_mod c_R_mod k_R_mod
  have b_R_mod := F_R_mod.binds (ps := ["self", "other"]) fun _ _ _ _ _ _ us hl => match us, hl with | [_, _], _ => rfl
  have F_R_rmod := fun_mk (x := "__rmod__") (qual := "Ratio.__rmod__") (st := s_R_rmod) l_R_rmod c_R_rmod k_R_rmod
  have b_R_rmod := F_R_rmod.binds (ps := ["self", "other"]) fun _ _ _ _ _ _ us hl => match us, hl with | [_, _], _ => rfl
  have F_R_neg := fun_mk (x := "__neg__") (qual := "Ratio.__neg__") (st := s_R_neg) l_R_neg c_R_neg k_R_neg
  have b_R_neg := F_R_neg.binds (ps := ["self"]) fun _ _ _ _ _ _ us hl => match us, hl with | [_], _ => rfl
  have F_R_abs := fun_mk (x := "__abs__") (qual := "Ratio.__abs__") (st := s_R_abs) l_R_abs c_R_abs k_R_abs
  have b_R_abs := F_R_abs.binds (ps := ["self"]) fun _ _ _ _ _ _ us hl => match us, hl with | [_], _ => rfl
  have F_R_eq := fun_mk (x := "__eq__") (qual := "Ratio.__eq__") (st := s_R_eq) l_R_eq c_R_eq k_R_eq
  have b_R_eq := F_R_eq.binds (ps := ["self", "other"]) fun _ _ _ _ _ _ us hl => match us, hl with | [_, _], _ => rfl
  have F_R_str := fun_mk (x := "__str__") (qual := "Ratio.__str__") (st := s_R_str) l_R_str c_R_str k_R_str
  have b_R_str := F_R_str.binds (ps := ["self"]) fun _ _ _ _ _ _ us hl => match us, hl with | [_], _ => rfl
  have F_R_repr := fun_mk (x := "__repr__") (qual := "Ratio.__repr__") (st := s_R_repr) l_R_repr c_R_repr k_R_repr
  have b_R_repr := F_R_repr.binds (ps := ["self"]) fun _ _ _ _ _ _ us hl => match us, hl with | [_], _ => rfl
  have F_R_ne := fun_mk (x := "__ne__") (qual := "Ratio.__ne__") (st := s_R_ne) l_R_ne c_R_ne k_R_ne
  have b_R_ne := F_R_ne.binds (ps := ["self", "other"]) fun _ _ _ _ _ _ us hl => match us, hl with | [_, _], _ => rfl
  have F_R_pow := fun_mk (x := "__pow__") (qual := "Ratio.__pow__") (st := s_R_pow) l_R_pow c_R_pow k_R_pow
  have b_R_pow := F_R_pow.binds (ps := ["self", "other"]) fun _ _ _ _ _ _ us hl => match us, hl with | [_, _], _ => rfl
  have F_R_excess := fun_mk (x := "_excess") (qual := "Ratio._excess") (st := s_R_excess) l_R_excess c_R_excess k_R_excess
  have b_R_excess := F_R_excess.binds (ps := ["self", "number"]) fun _ _ _ _ _ _ us hl => match us, hl with | [_, _], _ => rfl
  have F_R_lt := fun_mk (x := "__lt__") (qual := "Ratio.__lt__") (st := s_R_lt) l_R_lt c_R_lt k_R_lt
  have b_R_lt := F_R_lt.binds (ps := ["self", "other"]) fun _ _ _ _ _ _ us hl => match us, hl with | [_, _], _ => rfl
  have F_R_le := fun_mk (x := "__le__") (qual := "Ratio.__le__") (st := s_R_le) l_R_le c_R_le k_R_le
  have b_R_le := F_R_le.binds (ps := ["self", "other"]) fun _ _ _ _ _ _ us hl => match us, hl with | [_, _], _ => rfl
  have F_R_gt := fun_mk (x := "__gt__") (qual := "Ratio.__gt__") (st := s_R_gt) l_R_gt c_R_gt k_R_gt
  have b_R_gt := F_R_gt.binds (ps := ["self", "other"]) fun _ _ _ _ _ _ us hl => match us, hl with | [_, _], _ => rfl
  have F_R_ge := fun_mk (x := "__ge__") (qual := "Ratio.__ge__") (st := s_R_ge) l_R_ge c_R_ge k_R_ge
  have b_R_ge := F_R_ge.binds (ps := ["self", "other"]) fun _ _ _ _ _ _ us hl => match us, hl with | [_, _], _ => rfl
  have F_R_bool := fun_mk (x := "__bool__") (qual := "Ratio.__bool__") (st := s_R_bool) l_R_bool c_R_bool k_R_bool
  have b_R_bool := F_R_bool.binds (ps := ["self"]) fun _ _ _ _ _ _ us hl => match us, hl with | [_], _ => rfl
  have F_R_read := fun_mk (x := "read") (qual := "Ratio.read") (st := s_R_read) l_R_read c_R_read k_R_read
  have b_R_read := F_R_read.binds (ps := ["cls", "text"]) fun _ _ _ _ _ _ us hl => match us, hl with | [_, _], _ => rfl
  have F_R_init : FunD K "__init__" "Ratio.__init__" (defArgs s_R_init) (defBody s_R_init) (defScope s_R_init) [.int 1] [] f_R_init (PySem.W.fnOf "__init__" "Ratio.__init__" (defArgs s_R_init) (defBody s_R_init) (defScope s_R_init) (.ref T_i) kV_R_init dc_R_init pm_R_init an_R_init cd_R_init ct_R_init) := ⟨⟨_, _, _, _, _, _, _, _, _, _, rfl, l_R_init, c_R_init, .inr ⟨by simp, T_i, _, [.int 1 tk_T], n_T, rfl, lT, rfl, .cons ⟨_, rfl⟩ .nil⟩, .inl rfl⟩, k_R_init⟩
  obtain ⟨ds1, v1, b1⟩ := F_R_init.binds1 (ps := ["self", "top", "bottom"]) 2 0 (by simp) rfl fun _ _ _ _ _ _ _ us its hl hi => match us, its, hl, hi with | [_, _], [_], _, _ => ⟨_, rfl, rfl⟩
  obtain ⟨ds2, v2, b2⟩ := F_R_init.binds1 (ps := ["self", "top", "bottom"]) 3 1 (by simp) rfl fun _ _ _ _ _ _ _ us its hl hi => match us, its, hl, hi with | [_, _, _], [_], _, _ => ⟨_, rfl, rfl⟩
  cases v2
  obtain ⟨its, kb⟩ := F_R_init.kbindsD (ps := ["self", "top", "bottom"]) 1 ["bottom", "top"] (fun {α} => g1 (α := α)) (by simp) (fun r1 r2 r3 => g1_rel r1 r2 r3) fun _ _ _ _ _ _ _ us its ws hl hi hw => match us, its, ws, hl, hi, hw with | [_], [_], [_, _], _, _, _ => ⟨_, rfl, rfl⟩
  have kb2 := kbn_sw kb
  have kbq : KBinds K _ ["one", "two"] ["two", "one"] swU swV := ⟨fun s us ws X' hl => by
    obtain ⟨a, b, rfl, rfl⟩ := swu_two hl
    exact BindsTo.of_eq (fd := (PySem.W.fnOf "quotient" "quotient" (defArgs s_quotient) (defBody s_quotient) (defScope s_quotient) .none kV_quotient dc_quotient pm_quotient an_quotient cd_quotient ct_quotient)) rfl, sw_rel⟩
  let T : Tx K mg := {
    C := C
    f_is_int := f_is_int
    fd_is_int := _
    F_is_int := F_is_int
    b_is_int := b_is_int
    m_is_int := PySem.W.mg_of X G a_is_int
    f_is_number := f_is_number
    fd_is_number := _
    F_is_number := F_is_number
    b_is_number := b_is_number
    m_is_number := PySem.W.mg_of X G a_is_number
    f_as_ratio := f_as_ratio
    fd_as_ratio := _
    F_as_ratio := F_as_ratio
    b_as_ratio := b_as_ratio
    m_as_ratio := PySem.W.mg_of X G a_as_ratio
    f_quotient := f_quotient
    fd_quotient := _
    F_quotient := F_quotient
    b_quotient := b_quotient
    m_quotient := PySem.W.mg_of X G a_quotient
    f_raised := f_raised
    fd_raised := _
    F_raised := F_raised
    b_raised := b_raised
    m_raised := PySem.W.mg_of X G a_raised
    f_integer_told := f_integer_told
    fd_integer_told := _
    F_integer_told := F_integer_told
    b_integer_told := b_integer_told
    m_integer_told := PySem.W.mg_of X G a_integer_told
    f_ratio_told := f_ratio_told
    fd_ratio_told := _
    F_ratio_told := F_ratio_told
    b_ratio_told := b_ratio_told
    m_ratio_told := PySem.W.mg_of X G a_ratio_told
    f__law_cell := f__law_cell
    fd__law_cell := _
    F__law_cell := F__law_cell
    b__law_cell := b__law_cell
    m__law_cell := PySem.W.mg_of X G a__law_cell
    f__law_purse := f__law_purse
    fd__law_purse := _
    F__law_purse := F__law_purse
    b__law_purse := b__law_purse
    m__law_purse := PySem.W.mg_of X G a__law_purse
    f__law_take := f__law_take
    fd__law_take := _
    F__law_take := F__law_take
    b__law_take := b__law_take
    m__law_take := PySem.W.mg_of X G a__law_take
    f__law_low := f__law_low
    fd__law_low := _
    F__law_low := F__law_low
    b__law_low := b__law_low
    m__law_low := PySem.W.mg_of X G a__law_low
    f__law_whole := f__law_whole
    fd__law_whole := _
    F__law_whole := F__law_whole
    b__law_whole := b__law_whole
    m__law_whole := PySem.W.mg_of X G a__law_whole
    f__law_fraction := f__law_fraction
    fd__law_fraction := _
    F__law_fraction := F__law_fraction
    b__law_fraction := b__law_fraction
    m__law_fraction := PySem.W.mg_of X G a__law_fraction
    f__law_made := f__law_made
    fd__law_made := _
    F__law_made := F__law_made
    b__law_made := b__law_made
    m__law_made := PySem.W.mg_of X G a__law_made
    f__law_ring_right := f__law_ring_right
    fd__law_ring_right := _
    F__law_ring_right := F__law_ring_right
    b__law_ring_right := b__law_ring_right
    m__law_ring_right := PySem.W.mg_of X G a__law_ring_right
    f__law_rest_right := f__law_rest_right
    fd__law_rest_right := _
    F__law_rest_right := F__law_rest_right
    b__law_rest_right := b__law_rest_right
    m__law_rest_right := PySem.W.mg_of X G a__law_rest_right
    f__law_order_right := f__law_order_right
    fd__law_order_right := _
    F__law_order_right := F__law_order_right
    b__law_order_right := b__law_order_right
    m__law_order_right := PySem.W.mg_of X G a__law_order_right
    f__law_right := f__law_right
    fd__law_right := _
    F__law_right := F__law_right
    b__law_right := b__law_right
    m__law_right := PySem.W.mg_of X G a__law_right
    f_law := fa
    fd_law := _
    F_law := F_law
    b_law := b_law
    m_law := PySem.W.mg_of X G a_law
    f_R_top := f_R_top
    fd_R_top := _
    F_R_top := F_R_top
    b_R_top := b_R_top
    pa_top := p_top
    p_top := ⟨a_R_top, g_R_top, t_R_top, _, r_R_top⟩
    f_R_bottom := f_R_bottom
    fd_R_bottom := _
    F_R_bottom := F_R_bottom
    b_R_bottom := b_R_bottom
    pa_bottom := p_bottom
    p_bottom := ⟨a_R_bottom, g_R_bottom, t_R_bottom, _, r_R_bottom⟩
    f_R_add := f_R_add
    fd_R_add := _
    F_R_add := F_R_add
    b_R_add := b_R_add
    M_R_add := ⟨(by rw [dn_add]; exact a_R_add), i_R_add⟩
    f_R_radd := f_R_radd
    fd_R_radd := _
    F_R_radd := F_R_radd
    b_R_radd := b_R_radd
    M_R_radd := ⟨(by rw [dn_radd]; exact a_R_radd), i_R_radd⟩
    f_R_sub := f_R_sub
    fd_R_sub := _
    F_R_sub := F_R_sub
    b_R_sub := b_R_sub
    M_R_sub := ⟨(by rw [dn_sub]; exact a_R_sub), i_R_sub⟩
    f_R_rsub := f_R_rsub
    fd_R_rsub := _
    F_R_rsub := F_R_rsub
    b_R_rsub := b_R_rsub
    M_R_rsub := ⟨(by rw [dn_rsub]; exact a_R_rsub), i_R_rsub⟩
    f_R_mul := f_R_mul
    fd_R_mul := _
    F_R_mul := F_R_mul
    b_R_mul := b_R_mul
    M_R_mul := ⟨(by rw [dn_mul]; exact a_R_mul), i_R_mul⟩
    f_R_rmul := f_R_rmul
    fd_R_rmul := _
    F_R_rmul := F_R_rmul
    b_R_rmul := b_R_rmul
    M_R_rmul := ⟨(by rw [dn_rmul]; exact a_R_rmul), i_R_rmul⟩
    f_R_floordiv := f_R_floordiv
    fd_R_floordiv := _
    F_R_floordiv := F_R_floordiv
    b_R_floordiv := b_R_floordiv
    M_R_floordiv := ⟨(by rw [dn_floordiv]; exact a_R_floordiv), i_R_floordiv⟩
    f_R_rfloordiv := f_R_rfloordiv
    fd_R_rfloordiv := _
    F_R_rfloordiv := F_R_rfloordiv
    b_R_rfloordiv := b_R_rfloordiv
    M_R_rfloordiv := ⟨(by rw [dn_rfloordiv]; exact a_R_rfloordiv), i_R_rfloordiv⟩
    f_R_mod := f_R_mod
    fd_R_mod := _
    F_R_mod := F_R_mod
    b_R_mod := b_R_mod
    M_R_mod := ⟨(by rw [dn_mod]; exact a_R_mod), i_R_mod⟩
    f_R_rmod := f_R_rmod
    fd_R_rmod := _
    F_R_rmod := F_R_rmod
    b_R_rmod := b_R_rmod
    M_R_rmod := ⟨(by rw [dn_rmod]; exact a_R_rmod), i_R_rmod⟩
    f_R_neg := f_R_neg
    fd_R_neg := _
    F_R_neg := F_R_neg
    b_R_neg := b_R_neg
    M_R_neg := ⟨a_R_neg, i_R_neg⟩
    f_R_abs := f_R_abs
    fd_R_abs := _
    F_R_abs := F_R_abs
    b_R_abs := b_R_abs
    M_R_abs := ⟨a_R_abs, i_R_abs⟩
    f_R_eq := f_R_eq
    fd_R_eq := _
    F_R_eq := F_R_eq
    b_R_eq := b_R_eq
    M_R_eq := ⟨a_R_eq, i_R_eq⟩
    f_R_str := f_R_str
    fd_R_str := _
    F_R_str := F_R_str
    b_R_str := b_R_str
    M_R_str := ⟨a_R_str, i_R_str⟩
    f_R_repr := f_R_repr
    fd_R_repr := _
    F_R_repr := F_R_repr
    b_R_repr := b_R_repr
    M_R_repr := ⟨a_R_repr, i_R_repr⟩
    f_R_ne := f_R_ne
    fd_R_ne := _
    F_R_ne := F_R_ne
    b_R_ne := b_R_ne
    M_R_ne := ⟨a_R_ne, i_R_ne⟩
    f_R_pow := f_R_pow
    fd_R_pow := _
    F_R_pow := F_R_pow
    b_R_pow := b_R_pow
    M_R_pow := ⟨(by rw [dn_pow]; exact a_R_pow), i_R_pow⟩
    f_R_excess := f_R_excess
    fd_R_excess := _
    F_R_excess := F_R_excess
    b_R_excess := b_R_excess
    M_R_excess := ⟨a_R_excess, i_R_excess, k_R_excess⟩
    f_R_lt := f_R_lt
    fd_R_lt := _
    F_R_lt := F_R_lt
    b_R_lt := b_R_lt
    M_R_lt := ⟨a_R_lt, i_R_lt⟩
    f_R_le := f_R_le
    fd_R_le := _
    F_R_le := F_R_le
    b_R_le := b_R_le
    M_R_le := ⟨a_R_le, i_R_le⟩
    f_R_gt := f_R_gt
    fd_R_gt := _
    F_R_gt := F_R_gt
    b_R_gt := b_R_gt
    M_R_gt := ⟨a_R_gt, i_R_gt⟩
    f_R_ge := f_R_ge
    fd_R_ge := _
    F_R_ge := F_R_ge
    b_R_ge := b_R_ge
    M_R_ge := ⟨a_R_ge, i_R_ge⟩
    f_R_bool := f_R_bool
    fd_R_bool := _
    F_R_bool := F_R_bool
    b_R_bool := b_R_bool
    M_R_bool := ⟨a_R_bool, i_R_bool⟩
    f_R_read := f_R_read
    fd_R_read := _
    F_R_read := F_R_read
    b_R_read := b_R_read
    mc_C := .type "type"
    cr_C := ⟨cr1, cr2⟩
    pa_read := p_read
    cm_read := ⟨a_R_read, ⟨_, r_R_read⟩, n_R_read⟩
    f_R_init := f_R_init
    fd_R_init := _
    ds_R_init1 := ds1
    F_R_init := F_R_init
    b_R_init1 := b1
    v_R_init1 := v1
    b_R_init2 := b2
    v_R_init2 := .nil
    kb_R_init_sw := kb2
    g_Ratio := gC
    cl := ⟨pg, hd, po, sa⟩
    na_top := n_top
    na_bottom := n_bot
    own := ⟨sf, sI, sT⟩
    mkk := ⟨mk, a_R_init, i_R_init, kc⟩
    isi := I
    subN := sN
    fo_add := fo_add
    fi_add := (by rw [dn_add]; exact fi_add)
    ro_add := ro_add
    ri_add := (by rw [dn_radd]; exact ri_add)
    fo_sub := fo_sub
    fi_sub := (by rw [dn_sub]; exact fi_sub)
    ro_sub := ro_sub
    ri_sub := (by rw [dn_rsub]; exact ri_sub)
    fo_mul := fo_mul
    fi_mul := (by rw [dn_mul]; exact fi_mul)
    ro_mul := ro_mul
    ri_mul := (by rw [dn_rmul]; exact ri_mul)
    fo_floordiv := fo_floordiv
    fi_floordiv := (by rw [dn_floordiv]; exact fi_floordiv)
    ro_floordiv := ro_floordiv
    ri_floordiv := (by rw [dn_rfloordiv]; exact ri_floordiv)
    fo_mod := fo_mod
    fi_mod := (by rw [dn_mod]; exact fi_mod)
    ro_mod := ro_mod
    ri_mod := (by rw [dn_rmod]; exact ri_mod)
    fo_pow := fo_pow
    fi_pow := (by rw [dn_pow]; exact fi_pow)
    ro_pow := ro_pow
    ri_pow := (by rw [dn_rpow]; exact ri_pow)
    nr_pow := (by rw [dn_rpow]; exact nr_pow)
    tk_most := tk_most
    g_MOST_FACTORS := PySem.W.mg_of X G gMost
    g_gcd := PySem.W.mg_of X G gG
    z_isinstance := PySem.W.mg_none_of X G z_isinstance
    z_int := PySem.W.mg_none_of X G z_int
    z_bool := PySem.W.mg_none_of X G z_bool
    z_str := PySem.W.mg_none_of X G z_str
    z_repr := PySem.W.mg_none_of X G z_repr
    z_abs := PySem.W.mg_none_of X G z_abs
    z_len := PySem.W.mg_none_of X G z_len
    z_max := PySem.W.mg_none_of X G z_max
    z_min := PySem.W.mg_none_of X G z_min
    z_divmod := PySem.W.mg_none_of X G z_divmod
    z_all := PySem.W.mg_none_of X G z_all
    z_range := PySem.W.mg_none_of X G z_range
    kb_quotient_sw := kbq }
  exact ⟨_, fun s v => .of_eq (fd := (PySem.W.fnOf "law" "law" (defArgs s_law) (defBody s_law) (defScope s_law) .none kV_law dc_law pm_law an_law cd_law ct_law)) rfl, fun base _ _ => FnG.of (ok_law T)⟩

end K1
set_option Elab.async false
set_option linter.all false
set_option maxRecDepth 100000
namespace K1
open PySem PySem.Spec PyProof.Rows L2 DL
theorem ints_is {mg : MG} {H : Hp} : ∀ ns : List Int, IsL mg [] H (ns.map V.int) (ns.map D.int)
  | [] => .nil
  | n :: ns => .cons (.int n) (ints_is ns)
def spLaw (K : PySem.W.Frag) : Sp := fun vs H Q _ => ∃ (a : Addr) (ns : List Int), vs = [.ref a] ∧ SqL K H a (ns.map V.int) ∧ ∀ H', Q (.bl true) H'
theorem law_sp {K : PySem.W.Frag} {mg : Str → Option Value} {vs : List V} {H : Hp} {Q : VK} {E : XK} (h : spLaw K vs H Q E) : spW ⟨K, mg⟩ 1 w_law vs H Q E := by
  obtain ⟨a, ns, rfl, hs, k⟩ := h
  have hi : Is ⟨K, mg⟩ [] H (.ref a) (.scr (ns.map D.int)) := by
    rcases hs with r | r
    · exact .scr (by simp) r (ints_is ns)
    · exact .scrK (fun H' => .inr r) (ints_is ns)
  refine ⟨[], [], [.scr (ns.map D.int)], fun d _ => d = .bl true, ⟨rfl, List.nodup_nil, fun i a ds e => by simp at e⟩, .cons hi .nil, rfl, ⟨fun d hd => ?_, fun S' => rfl⟩, fun d S' A' v H' g R hd e => ?_⟩
  · obtain ⟨i, _, rfl⟩ := List.mem_map.mp hd
    exact ⟨i, rfl⟩
  · subst e
    cases hd
    exact k H'
theorem walk {l : PySem.W.OpenLaw} {q : Program} {loose : List Str} {XP : (Str → Option Value) → Heap → Prop} {YP : World → Heap → Prop} {d : DefRec} {K : Params → PySem.W.Frag} (hn : l.most = some 63) (hdf : d.params.defaults = [])
    (hY : ∀ (w : World) (h : Heap), YP w h → (K w.params).In h)
    (F : ∀ (w : World) (mg : Str → Option Value) (fa : Addr) (h : Heap), (K w.params).In h → h.Ns mainGlobals mg → mg d.name = some (.ref fa) →
      ∃ fd : FuncData, (∀ (s : Shared) (u : Value), BindsTo s fd ⟨[u], []⟩ [("script", u)]) ∧ ∀ base : Heap, (K w.params).In base → base.Ns mainGlobals mg → FnG l.prog w (K w.params) mg base 17 fa fd ["script"] (spW ⟨K w.params, mg⟩ 1 w_law)) :
    PySem.W.WalkO q loose XP YP l.row.toRowW d [] (fun f vs => PySem.call f vs) := by
  refine walkG (n := 63) (k := 17) (x := "script") (sp := fun w => spLaw (K w.params)) hn (by decide) hdf ⟨rfl, by decide, by decide⟩ hY (fun w mg fa h a b c => ?_) (fun _ _ a ns hl _ hS => ⟨a, ns, rfl, hS, fun _ => rfl⟩)
  obtain ⟨fd, h1, h2⟩ := F w mg fa h a b c
  exact ⟨fd, h1, fun base h3 h4 => (h2 base h3 h4).impG fun vs H Q h => law_sp h⟩
end K1
open PySem PySem.W PyProof.Rows
set_option maxRecDepth 100000 in
set_option maxHeartbeats 0 in
theorem PySem.Challenge.cw_loopbounds_k05_whole_rules_of_ratios_holds : PySem.Challenge.rw_loopbounds_k05_whole_rules_of_ratios.Holds := by
  w_on; o_law; k_head; (case hw => w_witness2)
  k_fill
  refine K1.walk (l := PySem.Challenge.rw_loopbounds_k05_whole_rules_of_ratios) rfl rfl (fun w h Y => PySem.W.kIn_of Y) ?F
  case F =>
    intro w mg fa h KX G hmg
    refine' K1.all_mk KX G hmg ?x_aC ?x_a_is_int ?x_l_is_int ?x_c_is_int ?x_k_is_int ?x_a_is_number ?x_l_is_number ?x_c_is_number ?x_k_is_number ?x_a_as_ratio ?x_l_as_ratio ?x_c_as_ratio ?x_k_as_ratio ?x_a_quotient ?x_l_quotient ?x_c_quotient ?x_k_quotient ?x_a_raised ?x_l_raised ?x_c_raised ?x_k_raised ?x_a_integer_told ?x_l_integer_told ?x_c_integer_told ?x_k_integer_told ?x_a_ratio_told ?x_l_ratio_told ?x_c_ratio_told ?x_k_ratio_told ?x_a__law_cell ?x_l__law_cell ?x_c__law_cell ?x_k__law_cell ?x_a__law_purse ?x_l__law_purse ?x_c__law_purse ?x_k__law_purse ?x_a__law_take ?x_l__law_take ?x_c__law_take ?x_k__law_take ?x_a__law_low ?x_l__law_low ?x_c__law_low ?x_k__law_low ?x_a__law_whole ?x_l__law_whole ?x_c__law_whole ?x_k__law_whole ?x_a__law_fraction ?x_l__law_fraction ?x_c__law_fraction ?x_k__law_fraction ?x_a__law_made ?x_l__law_made ?x_c__law_made ?x_k__law_made ?x_a__law_ring_right ?x_l__law_ring_right ?x_c__law_ring_right ?x_k__law_ring_right ?x_a__law_rest_right ?x_l__law_rest_right ?x_c__law_rest_right ?x_k__law_rest_right ?x_a__law_order_right ?x_l__law_order_right ?x_c__law_order_right ?x_k__law_order_right ?x_a__law_right ?x_l__law_right ?x_c__law_right ?x_k__law_right ?x_a_law ?x_l_law ?x_c_law ?x_k_law ?x_a_R_top ?x_g_R_top ?x_t_R_top ?x_r_R_top ?x_l_R_top ?x_c_R_top ?x_k_R_top ?x_a_R_bottom ?x_g_R_bottom ?x_t_R_bottom ?x_r_R_bottom ?x_l_R_bottom ?x_c_R_bottom ?x_k_R_bottom ?x_a_R_add ?x_i_R_add ?x_l_R_add ?x_c_R_add ?x_k_R_add ?x_a_R_radd ?x_i_R_radd ?x_l_R_radd ?x_c_R_radd ?x_k_R_radd ?x_a_R_sub ?x_i_R_sub ?x_l_R_sub ?x_c_R_sub ?x_k_R_sub ?x_a_R_rsub ?x_i_R_rsub ?x_l_R_rsub ?x_c_R_rsub ?x_k_R_rsub ?x_a_R_mul ?x_i_R_mul ?x_l_R_mul ?x_c_R_mul ?x_k_R_mul ?x_a_R_rmul ?x_i_R_rmul ?x_l_R_rmul ?x_c_R_rmul ?x_k_R_rmul ?x_a_R_floordiv ?x_i_R_floordiv ?x_l_R_floordiv ?x_c_R_floordiv ?x_k_R_floordiv ?x_a_R_rfloordiv ?x_i_R_rfloordiv ?x_l_R_rfloordiv ?x_c_R_rfloordiv ?x_k_R_rfloordiv ?x_a_R_mod ?x_i_R_mod ?x_l_R_mod ?x_c_R_mod ?x_k_R_mod ?x_a_R_rmod ?x_i_R_rmod ?x_l_R_rmod ?x_c_R_rmod ?x_k_R_rmod ?x_a_R_neg ?x_i_R_neg ?x_l_R_neg ?x_c_R_neg ?x_k_R_neg ?x_a_R_abs ?x_i_R_abs ?x_l_R_abs ?x_c_R_abs ?x_k_R_abs ?x_a_R_eq ?x_i_R_eq ?x_l_R_eq ?x_c_R_eq ?x_k_R_eq ?x_a_R_str ?x_i_R_str ?x_l_R_str ?x_c_R_str ?x_k_R_str ?x_a_R_repr ?x_i_R_repr ?x_l_R_repr ?x_c_R_repr ?x_k_R_repr ?x_a_R_ne ?x_i_R_ne ?x_l_R_ne ?x_c_R_ne ?x_k_R_ne ?x_a_R_pow ?x_i_R_pow ?x_l_R_pow ?x_c_R_pow ?x_k_R_pow ?x_a_R_excess ?x_i_R_excess ?x_l_R_excess ?x_c_R_excess ?x_k_R_excess ?x_a_R_lt ?x_i_R_lt ?x_l_R_lt ?x_c_R_lt ?x_k_R_lt ?x_a_R_le ?x_i_R_le ?x_l_R_le ?x_c_R_le ?x_k_R_le ?x_a_R_gt ?x_i_R_gt ?x_l_R_gt ?x_c_R_gt ?x_k_R_gt ?x_a_R_ge ?x_i_R_ge ?x_l_R_ge ?x_c_R_ge ?x_k_R_ge ?x_a_R_bool ?x_i_R_bool ?x_l_R_bool ?x_c_R_bool ?x_k_R_bool ?x_a_R_read ?x_r_R_read ?x_n_R_read ?x_l_R_read ?x_c_R_read ?x_k_R_read ?x_a_R_init ?x_i_R_init ?x_l_R_init ?x_c_R_init ?x_k_R_init ?x_lT ?x_pg ?x_hd ?x_po ?x_sa ?x_mk ?x_kc ?x_n_top ?x_n_bot ?x_sf ?x_sI ?x_sT ?x_fi_add ?x_ri_add ?x_fi_sub ?x_ri_sub ?x_fi_mul ?x_ri_mul ?x_fi_floordiv ?x_ri_floordiv ?x_fi_mod ?x_ri_mod ?x_fi_pow ?x_ri_pow ?x_nr_pow ?x_gMost ?x_cr1 ?x_cr2 ?x_gG ?x_z_isinstance ?x_z_int ?x_z_bool ?x_z_str ?x_z_repr ?x_z_abs ?x_z_len ?x_z_max ?x_z_min ?x_z_divmod ?x_z_all ?x_z_range ?x_hcl ?x_hgs ?x_htk ?x_hmr ?x_kCC ?x_kTC_int ?x_kTC_bool ?x_kTC_str ?x_kTC_NoneType ?x_kTC_tuple ?x_kTC_list ?x_kTC_dict ?x_kCT_int ?x_kCT_bool ?x_kCT_str ?x_sN_NoneType ?x_sN_bool ?x_sN_str ?x_sN_tuple ?x_sN_list ?x_sN_dict
    (case x_aC => k_is)
    (case x_a_is_int => k_is)
    (case x_l_is_int => k_is)
    (case x_c_is_int => k_is)
    (case x_k_is_int => k_is)
    (case x_a_is_number => k_is)
    (case x_l_is_number => k_is)
    (case x_c_is_number => k_is)
    (case x_k_is_number => k_is)
    (case x_a_as_ratio => k_is)
    (case x_l_as_ratio => k_is)
    (case x_c_as_ratio => k_is)
    (case x_k_as_ratio => k_is)
    (case x_a_quotient => k_is)
    (case x_l_quotient => k_is)
    (case x_c_quotient => k_is)
    (case x_k_quotient => k_is)
    (case x_a_raised => k_is)
    (case x_l_raised => k_is)
    (case x_c_raised => k_is)
    (case x_k_raised => k_is)
    (case x_a_integer_told => k_is)
    (case x_l_integer_told => k_is)
    (case x_c_integer_told => k_is)
    (case x_k_integer_told => k_is)
    (case x_a_ratio_told => k_is)
    (case x_l_ratio_told => k_is)
    (case x_c_ratio_told => k_is)
    (case x_k_ratio_told => k_is)
    (case x_a__law_cell => k_is)
    (case x_l__law_cell => k_is)
    (case x_c__law_cell => k_is)
    (case x_k__law_cell => k_is)
    (case x_a__law_purse => k_is)
    (case x_l__law_purse => k_is)
    (case x_c__law_purse => k_is)
    (case x_k__law_purse => k_is)
    (case x_a__law_take => k_is)
    (case x_l__law_take => k_is)
    (case x_c__law_take => k_is)
    (case x_k__law_take => k_is)
    (case x_a__law_low => k_is)
    (case x_l__law_low => k_is)
    (case x_c__law_low => k_is)
    (case x_k__law_low => k_is)
    (case x_a__law_whole => k_is)
    (case x_l__law_whole => k_is)
    (case x_c__law_whole => k_is)
    (case x_k__law_whole => k_is)
    (case x_a__law_fraction => k_is)
    (case x_l__law_fraction => k_is)
    (case x_c__law_fraction => k_is)
    (case x_k__law_fraction => k_is)
    (case x_a__law_made => k_is)
    (case x_l__law_made => k_is)
    (case x_c__law_made => k_is)
    (case x_k__law_made => k_is)
    (case x_a__law_ring_right => k_is)
    (case x_l__law_ring_right => k_is)
    (case x_c__law_ring_right => k_is)
    (case x_k__law_ring_right => k_is)
    (case x_a__law_rest_right => k_is)
    (case x_l__law_rest_right => k_is)
    (case x_c__law_rest_right => k_is)
    (case x_k__law_rest_right => k_is)
    (case x_a__law_order_right => k_is)
    (case x_l__law_order_right => k_is)
    (case x_c__law_order_right => k_is)
    (case x_k__law_order_right => k_is)
    (case x_a__law_right => k_is)
    (case x_l__law_right => k_is)
    (case x_c__law_right => k_is)
    (case x_k__law_right => k_is)
    (case x_a_law => k_is)
    (case x_l_law => k_is)
    (case x_c_law => k_is)
    (case x_k_law => k_is)
    (case x_a_R_top => k_is)
    (case x_g_R_top => k_is)
    (case x_t_R_top => k_is)
    (case x_r_R_top => k_is)
    (case x_l_R_top => k_is)
    (case x_c_R_top => k_is)
    (case x_k_R_top => k_is)
    (case x_a_R_bottom => k_is)
    (case x_g_R_bottom => k_is)
    (case x_t_R_bottom => k_is)
    (case x_r_R_bottom => k_is)
    (case x_l_R_bottom => k_is)
    (case x_c_R_bottom => k_is)
    (case x_k_R_bottom => k_is)
    (case x_a_R_add => k_is)
    (case x_i_R_add => k_is)
    (case x_l_R_add => k_is)
    (case x_c_R_add => k_is)
    (case x_k_R_add => k_is)
    (case x_a_R_radd => k_is)
    (case x_i_R_radd => k_is)
    (case x_l_R_radd => k_is)
    (case x_c_R_radd => k_is)
    (case x_k_R_radd => k_is)
    (case x_a_R_sub => k_is)
    (case x_i_R_sub => k_is)
    (case x_l_R_sub => k_is)
    (case x_c_R_sub => k_is)
    (case x_k_R_sub => k_is)
    (case x_a_R_rsub => k_is)
    (case x_i_R_rsub => k_is)
    (case x_l_R_rsub => k_is)
    (case x_c_R_rsub => k_is)
    (case x_k_R_rsub => k_is)
    (case x_a_R_mul => k_is)
    (case x_i_R_mul => k_is)
    (case x_l_R_mul => k_is)
    (case x_c_R_mul => k_is)
    (case x_k_R_mul => k_is)
    (case x_a_R_rmul => k_is)
    (case x_i_R_rmul => k_is)
    (case x_l_R_rmul => k_is)
    (case x_c_R_rmul => k_is)
    (case x_k_R_rmul => k_is)
    (case x_a_R_floordiv => k_is)
    (case x_i_R_floordiv => k_is)
    (case x_l_R_floordiv => k_is)
    (case x_c_R_floordiv => k_is)
    (case x_k_R_floordiv => k_is)
    (case x_a_R_rfloordiv => k_is)
    (case x_i_R_rfloordiv => k_is)
    (case x_l_R_rfloordiv => k_is)
    (case x_c_R_rfloordiv => k_is)
    (case x_k_R_rfloordiv => k_is)
    (case x_a_R_mod => k_is)
    (case x_i_R_mod => k_is)
    (case x_l_R_mod => k_is)
    (case x_c_R_mod => k_is)
    (case x_k_R_mod => k_is)
    (case x_a_R_rmod => k_is)
    (case x_i_R_rmod => k_is)
    (case x_l_R_rmod => k_is)
    (case x_c_R_rmod => k_is)
    (case x_k_R_rmod => k_is)
    (case x_a_R_neg => k_is)
    (case x_i_R_neg => k_is)
    (case x_l_R_neg => k_is)
    (case x_c_R_neg => k_is)
    (case x_k_R_neg => k_is)
    (case x_a_R_abs => k_is)
    (case x_i_R_abs => k_is)
    (case x_l_R_abs => k_is)
    (case x_c_R_abs => k_is)
    (case x_k_R_abs => k_is)
    (case x_a_R_eq => k_is)
    (case x_i_R_eq => k_is)
    (case x_l_R_eq => k_is)
    (case x_c_R_eq => k_is)
    (case x_k_R_eq => k_is)
    (case x_a_R_str => k_is)
    (case x_i_R_str => k_is)
    (case x_l_R_str => k_is)
    (case x_c_R_str => k_is)
    (case x_k_R_str => k_is)
    (case x_a_R_repr => k_is)
    (case x_i_R_repr => k_is)
    (case x_l_R_repr => k_is)
    (case x_c_R_repr => k_is)
    (case x_k_R_repr => k_is)
    (case x_a_R_ne => k_is)
    (case x_i_R_ne => k_is)
    (case x_l_R_ne => k_is)
    (case x_c_R_ne => k_is)
    (case x_k_R_ne => k_is)
    (case x_a_R_pow => k_is)
    (case x_i_R_pow => k_is)
    (case x_l_R_pow => k_is)
    (case x_c_R_pow => k_is)
    (case x_k_R_pow => k_is)
    (case x_a_R_excess => k_is)
    (case x_i_R_excess => k_is)
    (case x_l_R_excess => k_is)
    (case x_c_R_excess => k_is)
    (case x_k_R_excess => k_is)
    (case x_a_R_lt => k_is)
    (case x_i_R_lt => k_is)
    (case x_l_R_lt => k_is)
    (case x_c_R_lt => k_is)
    (case x_k_R_lt => k_is)
    (case x_a_R_le => k_is)
    (case x_i_R_le => k_is)
    (case x_l_R_le => k_is)
    (case x_c_R_le => k_is)
    (case x_k_R_le => k_is)
    (case x_a_R_gt => k_is)
    (case x_i_R_gt => k_is)
    (case x_l_R_gt => k_is)
    (case x_c_R_gt => k_is)
    (case x_k_R_gt => k_is)
    (case x_a_R_ge => k_is)
    (case x_i_R_ge => k_is)
    (case x_l_R_ge => k_is)
    (case x_c_R_ge => k_is)
    (case x_k_R_ge => k_is)
    (case x_a_R_bool => k_is)
    (case x_i_R_bool => k_is)
    (case x_l_R_bool => k_is)
    (case x_c_R_bool => k_is)
    (case x_k_R_bool => k_is)
    (case x_a_R_read => k_is)
    (case x_r_R_read => k_is)
    (case x_n_R_read => k_is)
    (case x_l_R_read => k_is)
    (case x_c_R_read => k_is)
    (case x_k_R_read => k_is)
    (case x_a_R_init => k_is)
    (case x_i_R_init => k_is)
    (case x_l_R_init => k_is)
    (case x_c_R_init => k_is)
    (case x_k_R_init => k_is)
    (case x_lT => k_is)
    (case x_pg => k_is)
    (case x_hd => k_is)
    (case x_po => k_is)
    (case x_sa => k_is)
    (case x_mk => k_is)
    (case x_kc => k_is)
    (case x_n_top => k_is)
    (case x_n_bot => k_is)
    (case x_sf => k_is)
    (case x_sI => k_is)
    (case x_sT => k_is)
    (case x_fi_add => k_is)
    (case x_ri_add => k_is)
    (case x_fi_sub => k_is)
    (case x_ri_sub => k_is)
    (case x_fi_mul => k_is)
    (case x_ri_mul => k_is)
    (case x_fi_floordiv => k_is)
    (case x_ri_floordiv => k_is)
    (case x_fi_mod => k_is)
    (case x_ri_mod => k_is)
    (case x_fi_pow => k_is)
    (case x_ri_pow => k_is)
    (case x_nr_pow => k_is)
    (case x_gMost => k_is)
    (case x_cr1 => k_is)
    (case x_cr2 => k_is)
    (case x_gG => k_is)
    (case x_z_isinstance => k_is)
    (case x_z_int => k_is)
    (case x_z_bool => k_is)
    (case x_z_str => k_is)
    (case x_z_repr => k_is)
    (case x_z_abs => k_is)
    (case x_z_len => k_is)
    (case x_z_max => k_is)
    (case x_z_min => k_is)
    (case x_z_divmod => k_is)
    (case x_z_all => k_is)
    (case x_z_range => k_is)
    (case x_hcl => k_is)
    (case x_hgs => k_is)
    (case x_htk => k_is)
    (case x_hmr => k_is)
    (case x_kCC => kit_is)
    (case x_kTC_int => kit_is)
    (case x_kTC_bool => kit_is)
    (case x_kTC_str => kit_is)
    (case x_kTC_NoneType => kit_is)
    (case x_kTC_tuple => kit_is)
    (case x_kTC_list => kit_is)
    (case x_kTC_dict => kit_is)
    (case x_kCT_int => kit_is)
    (case x_kCT_bool => kit_is)
    (case x_kCT_str => kit_is)
    (case x_sN_NoneType => k_is)
    (case x_sN_bool => k_is)
    (case x_sN_str => k_is)
    (case x_sN_tuple => k_is)
    (case x_sN_list => k_is)
    (case x_sN_dict => k_is)
