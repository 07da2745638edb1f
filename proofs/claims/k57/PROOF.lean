import PyProof.Rows.All
import Wide.All
import OpenK.AllK
import Wide.FinOn
import HandS.ForMost
import HandS.Wide
import HandS.WideBits
import HandS.Gcd
import HandS.IsInst
import HandS.Property
import HandS.MakeKw
import HandS.FStr
import HandS.Exc
import HandS.DictComp
import HandS.MakeKwOnly
import HandS.SetFor
import HandS.StrMore
import HandS.ClsMeth
import PyProof.EqKinds
import HandS.RaiseMore
import HandS.WordsExc
import HandS.ExcOwn
import HandS.ExcIs
import KE.KExcIs
import HandS.HotCalls
import HandS.Iter
import HandS.Deep
import HandS.Style
import KE.GoesMore
import HandS.Star
import KE.KMathGC
import KE.GoesZip
import HandS.TryOnly
import HandS.Flow
import HandS.Small
import KE.SortKeyHeap
import PyProof.DictUpdate
import PyProof.Rows.CallKwBuiltin
import HandS.OwnEq
import KE.KEqDict
import HandS.Conv
import PyProof.ZipIter
import PyProof.CollectWalk
import KE.KTurns
import HandS.ListItems
import HandS.GenYield
import HandS.GenList
import PySem.Challenge.RW_loopbounds_k57_rounds_asked
import KE.KExcLine
set_option Elab.async false
set_option linter.all false
set_option maxRecDepth 100000
/-! A layer of data over the hand layer: values without heaps, and what a piece of the text does with them. -/
namespace DL
open PySem PySem.Spec PyProof.Rows L2

/-- at a: an error of the class at C, its dict (none | at d) -/
def ExV (C : Addr) (d : Option Addr) (a : Addr) : HO := .ext fun h => ∃ (oe : Obj) (vs : Array Value), h.get? a = some oe ∧ Zc (.ref C) d oe ∧ oe.data = .fields vs
/-- data: what a value stands for; mut i: the i-th list that may change -/
inductive D where
  | non | bl (b : Bool) | int (i : Int) | str (x : Str) | ty (n : String) | cls (c : Str)
  | tup (ds : List D) | lst (ds : List D) | scr (ds : List D) | ins (c : Str) (fs : List (Str × D)) | mut (i : Nat) | obj (a : Addr) | dct (kvs : List (Key × D)) | exc (a : Addr) (d : Addr) (fs : List (Str × D)) | err (c : Str) (fs : List (Str × D)) | tpk (ds : List D)
/-- the written part, and what the module's names hold -/
structure MG where
  K : PySem.W.Frag
  f : Str → Option Value
abbrev _root_.L2.Cx.G (X : Cx) : MG := ⟨X.K, X.mg⟩
abbrev DEnv := List (Option D)
/-- an object that may change: a list, a dict, an instance -/
inductive MO where
  | l (ds : List D) | d (kvs : List (Key × D)) | i (c : Str) (fs : List (Str × D))
instance : Coe (List D) MO := ⟨.l⟩
abbrev MS := List MO

mutual
inductive Is (mg : MG) (A : List Addr) (H : Hp) : V → D → Prop where
  | non : Is mg A H .non .non
  | bl (b : Bool) : Is mg A H (.bl b) (.bl b)
  | int (i : Int) : Is mg A H (.int i) (.int i)
  | str (x : Str) : Is mg A H (.str x) (.str x)
  | ty (n : String) : Is mg A H (.ty n) (.ty n)
  | cls {c : Str} {C : Addr} (e : mg.f c = some (.ref C)) : Is mg A H (.ref C) (.cls c)
  | tup {a : Addr} {vs : List V} {ds : List D} (n : a ∉ A) (r : Rd H a (.tup vs)) (l : IsL mg A H vs ds) : Is mg A H (.ref a) (.tup ds)
  /-- a tuple of the written part -/
  | tupK {a : Addr} {vs : List V} {ds : List D} (r : ∀ H' : Hp, SqT mg.K H' a vs) (l : IsL mg A H vs ds) : Is mg A H (.ref a) (.tpk ds)
  | lst {a : Addr} {vs : List V} {ds : List D} (n : a ∉ A) (r : H a = some (.lst vs)) (l : IsL mg A H vs ds) : Is mg A H (.ref a) (.lst ds)
  | scr {a : Addr} {vs : List V} {ds : List D} (n : a ∉ A) (r : Rd H a (.lst vs)) (l : IsL mg A H vs ds) : Is mg A H (.ref a) (.scr ds)
  | scrK {a : Addr} {vs : List V} {ds : List D} (r : ∀ H' : Hp, SqL mg.K H' a vs) (l : IsL mg A H vs ds) : Is mg A H (.ref a) (.scr ds)
  | ins {a C dx : Addr} {c : Str} {fs : List (Str × V)} {fds : List (Str × D)} (n : a ∉ A) (e : mg.f c = some (.ref C)) (r : H a = some (.ins C dx fs)) (l : IsF mg A H fs fds) : Is mg A H (.ref a) (.ins c fds)
  | mut {a : Addr} {i : Nat} (e : A[i]? = some a) : Is mg A H (.ref a) (.mut i)
  /-- an object of which nothing is told -/
  | obj (a : Addr) : Is mg A H (.ref a) (.obj a)
  /-- a dict that never changes -/
  | dct {a : Addr} {kvs : List (Key × V)} {kds : List (Key × D)} (n : a ∉ A) (r : Rd H a (.dK kvs)) (l : IsK mg A H kvs kds) : Is mg A H (.ref a) (.dct kds)
  /-- a caught exception at a, its fields in its own dict at d -/
  | exc {a d : Addr} {fs : List (Str × V)} {fds : List (Str × D)} (n : d ∉ A) (r : H d = some (.xd fs)) (l : IsF mg A H fs fds) : Is mg A H (.ref a) (.exc a d fds)
  /-- an error that is held, its fields in its own dict -/
  | err {a C d : Addr} {c : Str} {fs : List (Str × V)} {fds : List (Str × D)} (n : a ∉ A) (nd : d ∉ A) (e : mg.f c = some (.ref C)) (ra : H a = some (ExV C (some d) a)) (rd : H d = some (.xd fs)) (l : IsF mg A H fs fds) : Is mg A H (.ref a) (.err c fds)
  /-- an error that is held, without fields -/
  | err0 {a C : Addr} {c : Str} (n : a ∉ A) (e : mg.f c = some (.ref C)) (ra : H a = some (ExV C none a)) : Is mg A H (.ref a) (.err c [])
inductive IsL (mg : MG) (A : List Addr) (H : Hp) : List V → List D → Prop where
  | nil : IsL mg A H [] []
  | cons {v : V} {d : D} {vs : List V} {ds : List D} (h : Is mg A H v d) (t : IsL mg A H vs ds) : IsL mg A H (v :: vs) (d :: ds)
inductive IsF (mg : MG) (A : List Addr) (H : Hp) : List (Str × V) → List (Str × D) → Prop where
  | nil : IsF mg A H [] []
  | cons {f : Str} {v : V} {d : D} {fs : List (Str × V)} {fds : List (Str × D)} (h : Is mg A H v d) (t : IsF mg A H fs fds) : IsF mg A H ((f, v) :: fs) ((f, d) :: fds)
inductive IsK (mg : MG) (A : List Addr) (H : Hp) : List (Key × V) → List (Key × D) → Prop where
  | nil : IsK mg A H [] []
  | cons {f : Key} {v : V} {d : D} {fs : List (Key × V)} {fds : List (Key × D)} (h : Is mg A H v d) (t : IsK mg A H fs fds) : IsK mg A H ((f, v) :: fs) ((f, d) :: fds)
end

structure Grow (A A' : List Addr) (H H' : Hp) : Prop where
  pre : ∀ (i : Nat) (a : Addr), A[i]? = some a → A'[i]? = some a
  keep : ∀ (b : Addr) (o : HO), b ∉ A → H b = some o → H' b = some o ∧ b ∉ A'
theorem Grow.refl {A : List Addr} {H : Hp} : Grow A A H H := ⟨fun _ _ h => h, fun _ _ n h => ⟨h, n⟩⟩
theorem Grow.trans {A A1 A2 : List Addr} {H H1 H2 : Hp} (g : Grow A A1 H H1) (g' : Grow A1 A2 H1 H2) : Grow A A2 H H2 :=
  ⟨fun i a h => g'.pre i a (g.pre i a h), fun b o n h => g'.keep b o (g.keep b o n h).2 (g.keep b o n h).1⟩
theorem Grow.rd {A A' : List Addr} {H H' : Hp} (g : Grow A A' H H') {a : Addr} {u : HO} (n : a ∉ A) (r : Rd H a u) : a ∉ A' ∧ Rd H' a u := by
  rcases r with r | ⟨o, r⟩
  · exact ⟨(g.keep a _ n r).2, .inl (g.keep a _ n r).1⟩
  · exact ⟨(g.keep a _ n r).2, .inr ⟨o, (g.keep a _ n r).1⟩⟩

section
variable {mg : MG} {A A' : List Addr} {H H' : Hp}
mutual
theorem Is.mono (g : Grow A A' H H') : ∀ {v : V} {d : D}, Is mg A H v d → Is mg A' H' v d
  | _, _, .non => .non
  | _, _, .bl b => .bl b
  | _, _, .int i => .int i
  | _, _, .str x => .str x
  | _, _, .ty n => .ty n
  | _, _, .cls e => .cls e
  | _, _, .tup n r l => .tup (g.rd n r).1 (g.rd n r).2 (IsL.mono g l)
  | _, _, .tupK r l => .tupK r (IsL.mono g l)
  | _, _, .lst n r l => .lst (g.keep _ _ n r).2 (g.keep _ _ n r).1 (IsL.mono g l)
  | _, _, .scr n r l => .scr (g.rd n r).1 (g.rd n r).2 (IsL.mono g l)
  | _, _, .scrK r l => .scrK r (IsL.mono g l)
  | _, _, .ins n e r l => .ins (g.keep _ _ n r).2 e (g.keep _ _ n r).1 (IsF.mono g l)
  | _, _, .mut e => .mut (g.pre _ _ e)
  | _, _, .obj a => .obj a
  | _, _, .dct n r l => .dct (g.rd n r).1 (g.rd n r).2 (IsK.mono g l)
  | _, _, .exc n r l => .exc (g.keep _ _ n r).2 (g.keep _ _ n r).1 (IsF.mono g l)
  | _, _, .err n nd e ra rd l => .err (g.keep _ _ n ra).2 (g.keep _ _ nd rd).2 e (g.keep _ _ n ra).1 (g.keep _ _ nd rd).1 (IsF.mono g l)
  | _, _, .err0 n e ra => .err0 (g.keep _ _ n ra).2 e (g.keep _ _ n ra).1
theorem IsL.mono (g : Grow A A' H H') : ∀ {vs : List V} {ds : List D}, IsL mg A H vs ds → IsL mg A' H' vs ds
  | _, _, .nil => .nil
  | _, _, .cons h t => .cons (Is.mono g h) (IsL.mono g t)
theorem IsF.mono (g : Grow A A' H H') : ∀ {fs : List (Str × V)} {fds : List (Str × D)}, IsF mg A H fs fds → IsF mg A' H' fs fds
  | _, _, .nil => .nil
  | _, _, .cons h t => .cons (Is.mono g h) (IsF.mono g t)
theorem IsK.mono (g : Grow A A' H H') : ∀ {fs : List (Key × V)} {fds : List (Key × D)}, IsK mg A H fs fds → IsK mg A' H' fs fds
  | _, _, .nil => .nil
  | _, _, .cons h t => .cons (Is.mono g h) (IsK.mono g t)
end
theorem IsL.length : ∀ {vs : List V} {ds : List D}, IsL mg A H vs ds → vs.length = ds.length
  | _, _, .nil => rfl
  | _, _, .cons _ t => congrArg Nat.succ (IsL.length t)
theorem IsL.get : ∀ {vs : List V} {ds : List D} {i : Nat} {d : D}, IsL mg A H vs ds → ds[i]? = some d → ∃ v, vs[i]? = some v ∧ Is mg A H v d
  | _, _, _, _, .nil, e => by simp at e
  | _, _, 0, _, .cons h _, e => by simp at e; subst e; exact ⟨_, rfl, h⟩
  | _, _, i + 1, d, .cons _ t, e => by
    obtain ⟨v, h1, h2⟩ := IsL.get (i := i) (d := d) t (by simpa using e)
    exact ⟨v, by simpa using h1, h2⟩
theorem IsL.getV : ∀ {vs : List V} {ds : List D} {i : Nat} {v : V}, IsL mg A H vs ds → vs[i]? = some v → ∃ d, ds[i]? = some d ∧ Is mg A H v d
  | _, _, _, _, .nil, e => by simp at e
  | _, _, 0, _, .cons h _, e => by simp at e; subst e; exact ⟨_, rfl, h⟩
  | _, _, i + 1, d, .cons _ t, e => by
    obtain ⟨v, h1, h2⟩ := IsL.getV (i := i) (v := d) t (by simpa using e)
    exact ⟨v, by simpa using h1, h2⟩
theorem IsL.append : ∀ {vs ws : List V} {ds es : List D}, IsL mg A H vs ds → IsL mg A H ws es → IsL mg A H (vs ++ ws) (ds ++ es)
  | _, _, _, _, .nil, q => q
  | _, _, _, _, .cons h t, q => .cons h (IsL.append t q)
theorem IsL.set {v : V} {d : D} (r : Is mg A H v d) : ∀ {vs : List V} {ds : List D} (i : Nat), IsL mg A H vs ds → IsL mg A H (vs.set i v) (ds.set i d)
  | _, _, _, .nil => .nil
  | _, _, 0, .cons _ t => .cons r t
  | _, _, i + 1, .cons q t => .cons q (IsL.set r i t)
theorem IsF.lookup : ∀ {fs : List (Str × V)} {fds : List (Str × D)} {f : Str} {d : D}, IsF mg A H fs fds → fds.lookup f = some d → ∃ v, fs.lookup f = some v ∧ Is mg A H v d
  | _, _, _, _, .nil, e => by simp at e
  | _, _, f, d, .cons (f := g) h t, e => by
    rw [List.lookup_cons] at e ⊢
    by_cases hb : (f == g) = true
    · rw [hb] at e ⊢; cases e; exact ⟨_, rfl, h⟩
    · have hb' : (f == g) = false := by simpa using hb
      rw [hb'] at e ⊢
      exact IsF.lookup t e
theorem IsF.no : ∀ {fs : List (Str × V)} {fds : List (Str × D)} {f : Str}, IsF mg A H fs fds → fds.lookup f = none → fs.lookup f = none
  | _, _, _, .nil, e => rfl
  | _, _, f, .cons (f := g) h t, e => by
    rw [List.lookup_cons] at e ⊢
    by_cases hb : (f == g) = true
    · rw [hb] at e; cases e
    · have hb' : (f == g) = false := by simpa using hb
      rw [hb'] at e ⊢
      exact IsF.no t e
end

/-- a list that is read: it stays -/
theorem Is.scrAt {mg : MG} {A : List Addr} {H : Hp} {v : V} {ds : List D} (h : Is mg A H v (.scr ds)) : ∃ a vs, v = .ref a ∧ (∀ A' H', Grow A A' H H' → SqL mg.K H' a vs) ∧ IsL mg A H vs ds := by
  cases h with
  | @scr a vs ds n r l => exact ⟨a, vs, rfl, fun A' H' g => .inl (g.rd n r).2, l⟩
  | @scrK a vs ds r l => exact ⟨a, vs, rfl, fun A' H' g => r H', l⟩
/-- an object that may change, as it stands -/
def MoIs (mg : MG) (A : List Addr) (H : Hp) (a : Addr) : MO → Prop
  | .l ds => ∃ vs, H a = some (.lst vs) ∧ IsL mg A H vs ds
  | .d kds => ∃ kvs, H a = some (.dK kvs) ∧ IsK mg A H kvs kds
  | .i c fds => ∃ C dx fs, mg.f c = some (.ref C) ∧ H a = some (.ins C dx fs) ∧ IsF mg A H fs fds
/-- the objects that may change, as they stand -/
structure Rep (mg : MG) (A : List Addr) (S : MS) (H : Hp) : Prop where
  len : A.length = S.length
  nd : A.Nodup
  at_ : ∀ (i : Nat) (a : Addr) (o : MO), A[i]? = some a → S[i]? = some o → MoIs mg A H a o

section
variable {mg : MG} {A A' : List Addr} {S : MS} {H H' : Hp}
theorem MoIs.mono {a : Addr} {A' : List Addr} {H' : Hp} (g : Grow A A' H H') : ∀ {o : MO} (_ : ∀ u, H a = some u → H' a = some u), MoIs mg A H a o → MoIs mg A' H' a o
  | .l _, k, ⟨vs, h, l⟩ => ⟨vs, k _ h, l.mono g⟩
  | .d _, k, ⟨vs, h, l⟩ => ⟨vs, k _ h, l.mono g⟩
  | .i _ _, k, ⟨C, dx, fs, e, h, l⟩ => ⟨C, dx, fs, e, k _ h, l.mono g⟩
theorem MoIs.here {a : Addr} : ∀ {o : MO}, MoIs mg A H a o → ∃ u, H a = some u
  | .l _, ⟨_, h, _⟩ => ⟨_, h⟩
  | .d _, ⟨_, h, _⟩ => ⟨_, h⟩
  | .i _ _, ⟨_, _, _, _, h, _⟩ => ⟨_, h⟩
theorem Rep.gets {i : Nat} {a : Addr} (R : Rep mg A S H) (e : A[i]? = some a) : ∃ o, S[i]? = some o := by
  have hl : i < S.length := by rw [← R.len]; exact (List.getElem?_eq_some_iff.mp e).1
  exact ⟨S[i], List.getElem?_eq_getElem hl⟩
theorem Rep.addr {i : Nat} {o : MO} (R : Rep mg A S H) (e : S[i]? = some o) : ∃ a, A[i]? = some a := by
  have hl : i < A.length := by rw [R.len]; exact (List.getElem?_eq_some_iff.mp e).1
  exact ⟨A[i], List.getElem?_eq_getElem hl⟩
theorem Rep.here {a : Addr} (R : Rep mg A S H) (h : a ∈ A) : ∃ o, H a = some o := by
  obtain ⟨i, hi⟩ := List.getElem?_of_mem h
  obtain ⟨ds, hd⟩ := R.gets hi
  exact (R.at_ i a ds hi hd).here
theorem Rep.fresh {p : Addr} (R : Rep mg A S H) (h : H p = none) : p ∉ A := fun z => by
  obtain ⟨o, e⟩ := R.here z
  rw [h] at e; cases e
/-- a new object that never changes -/
theorem grow_new {p : Addr} {o : HO} (R : Rep mg A S H) (h : H p = none) : Grow A A H (upd H p o) :=
  ⟨fun _ _ e => e, fun b u n e => ⟨by rw [upd_ne (ne_of_none e h)]; exact e, n⟩⟩
theorem Rep.new {p : Addr} {o : HO} (R : Rep mg A S H) (h : H p = none) : Rep mg A S (upd H p o) :=
  ⟨R.len, R.nd, fun i a ds e1 e2 => (R.at_ i a ds e1 e2).mono (grow_new R h) fun u hu => by rw [upd_ne (ne_of_none hu h)]; exact hu⟩
/-- a new object that may change -/
theorem grow_mut {p : Addr} {o : HO} (R : Rep mg A S H) (h : H p = none) : Grow A (A ++ [p]) H (upd H p o) :=
  ⟨fun i a e => by rw [List.getElem?_append_left (List.getElem?_eq_some_iff.mp e).1]; exact e, fun b u n e => ⟨by rw [upd_ne (ne_of_none e h)]; exact e, fun z => by
    rcases List.mem_append.mp z with z | z
    · exact n z
    · exact ne_of_none e h (List.mem_singleton.mp z)⟩⟩
theorem Rep.newMO {p : Addr} {u : HO} {o : MO} (R : Rep mg A S H) (h : H p = none) (m : MoIs mg (A ++ [p]) (upd H p u) p o) : Rep mg (A ++ [p]) (S ++ [o]) (upd H p u) := by
  have g := grow_mut (o := u) R h
  refine ⟨by rw [List.length_append, List.length_append, R.len]; rfl, ?_, fun i a es e1 e2 => ?_⟩
  · rw [List.nodup_append]
    exact ⟨R.nd, by simp, fun x hx y hy => by rw [List.mem_singleton.mp hy]; intro z; exact R.fresh h (z ▸ hx)⟩
  · by_cases hi : i < A.length
    · rw [List.getElem?_append_left hi] at e1
      rw [List.getElem?_append_left (by rw [← R.len]; exact hi)] at e2
      exact (R.at_ i a es e1 e2).mono g fun w hw => by rw [upd_ne (ne_of_none hw h)]; exact hw
    · rw [List.getElem?_append_right (by omega)] at e1
      rw [List.getElem?_append_right (by rw [← R.len]; omega)] at e2
      have z : i - A.length = 0 := by
        have := (List.getElem?_eq_some_iff.mp e1).1
        simp at this; omega
      have z2 : i - S.length = 0 := by rw [← R.len]; exact z
      rw [z] at e1; rw [z2] at e2
      simp at e1 e2
      subst e1 e2
      exact m
theorem Rep.newMut {p : Addr} {vs : List V} {ds : List D} (R : Rep mg A S H) (h : H p = none) (l : IsL mg A H vs ds) : Rep mg (A ++ [p]) (S ++ [.l ds]) (upd H p (.lst vs)) :=
  R.newMO h ⟨vs, upd_same, l.mono (grow_mut R h)⟩
theorem Rep.newMud {p : Addr} {kvs : List (Key × V)} {kds : List (Key × D)} (R : Rep mg A S H) (h : H p = none) (l : IsK mg A H kvs kds) : Rep mg (A ++ [p]) (S ++ [.d kds]) (upd H p (.dK kvs)) :=
  R.newMO h ⟨kvs, upd_same, l.mono (grow_mut R h)⟩
/-- one of them is changed -/
theorem grow_write {i : Nat} {a : Addr} {o : HO} (e : A[i]? = some a) : Grow A A H (upd H a o) :=
  ⟨fun _ _ e => e, fun b u n eb => ⟨by rw [upd_ne (show b ≠ a from fun z => n (by rw [z]; exact List.mem_of_getElem? e))]; exact eb, n⟩⟩
theorem Rep.writeMO {i : Nat} {a : Addr} {u : HO} {o : MO} (R : Rep mg A S H) (e : A[i]? = some a) (m : MoIs mg A (upd H a u) a o) : Rep mg A (S.set i o) (upd H a u) := by
  have g := grow_write (H := H) (o := u) e
  refine ⟨by rw [List.length_set]; exact R.len, R.nd, fun j b es e1 e2 => ?_⟩
  by_cases hj : j = i
  · subst hj
    rw [e] at e1; cases e1
    have hl : j < S.length := by rw [← R.len]; exact (List.getElem?_eq_some_iff.mp e).1
    rw [List.getElem?_set_self hl] at e2; cases e2
    exact m
  · rw [List.getElem?_set_ne (fun z => hj z.symm)] at e2
    have hb : b ≠ a := fun z => by
      subst z
      exact hj ((List.getElem?_inj (List.getElem?_eq_some_iff.mp e1).1 R.nd).mp (e1.trans e.symm))
    exact (R.at_ j b es e1 e2).mono g fun w hw => by rw [upd_ne hb]; exact hw
theorem Rep.write {i : Nat} {a : Addr} {vs : List V} {ds : List D} (R : Rep mg A S H) (e : A[i]? = some a) (l : IsL mg A H vs ds) : Rep mg A (S.set i (.l ds)) (upd H a (.lst vs)) :=
  R.writeMO e ⟨vs, upd_same, l.mono (grow_write e)⟩
theorem Rep.writeD {i : Nat} {a : Addr} {kvs : List (Key × V)} {kds : List (Key × D)} (R : Rep mg A S H) (e : A[i]? = some a) (l : IsK mg A H kvs kds) : Rep mg A (S.set i (.d kds)) (upd H a (.dK kvs)) :=
  R.writeMO e ⟨kvs, upd_same, l.mono (grow_write e)⟩
end

/-- the names of a frame -/
structure EnvD (mg : MG) (A : List Addr) (H : Hp) (σ : L2.St) (ρ : DEnv) : Prop where
  len : σ.length = ρ.length
  at_ : ∀ (i : Nat) (d : D), ρ[i]? = some (some d) → ∃ v, σ[i]? = some (some v) ∧ Is mg A H v d
section
variable {mg : MG} {A A' : List Addr} {S : MS} {H H' : Hp} {σ : L2.St} {ρ : DEnv}
theorem EnvD.mono (g : Grow A A' H H') (e : EnvD mg A H σ ρ) : EnvD mg A' H' σ ρ := ⟨e.len, fun i d h => by
  obtain ⟨v, h1, h2⟩ := e.at_ i d h
  exact ⟨v, h1, h2.mono g⟩⟩
theorem EnvD.set {v : V} {d : D} (e : EnvD mg A H σ ρ) (i : Nat) (h : Is mg A H v d) : EnvD mg A H (σ.set i (some v)) (ρ.set i (some d)) := by
  refine ⟨by simp [e.len], fun j d' hj => ?_⟩
  by_cases hji : i = j
  · subst hji
    by_cases hl : i < ρ.length
    · rw [List.getElem?_set_self hl] at hj; cases hj
      exact ⟨v, by rw [List.getElem?_set_self (by rw [e.len]; exact hl)], h⟩
    · rw [List.getElem?_eq_none (by simp; omega)] at hj; cases hj
  · rw [List.getElem?_set_ne hji] at hj ⊢
    exact e.at_ j d' hj
end

/-! ### what a piece does, by data -/
abbrev WD := DEnv → MS → (D → MS → Prop) → Prop
abbrev WB := DEnv → MS → (Bool → MS → Prop) → Prop
abbrev WL := DEnv → MS → (List D → MS → Prop) → Prop
structure DEnds where
  nx : DEnv → MS → Prop
  rt : D → MS → Prop
  bk : DEnv → MS → Prop := fun _ _ => False
  ct : DEnv → MS → Prop := fun _ _ => False
abbrev WS := DEnds → DEnv → MS → Prop
/-- an end by values behind A, H is reached by an end by data -/
def EndV (mg : MG) (A : List Addr) (H : Hp) (Q : VK) (Q' : D → MS → Prop) : Prop := ∀ d S' A' v H', Grow A A' H H' → Rep mg A' S' H' → Is mg A' H' v d → Q' d S' → Q v H'
def EndB (mg : MG) (A : List Addr) (H : Hp) (Q : Bool → Hp → Prop) (Q' : Bool → MS → Prop) : Prop := ∀ d S' A' H', Grow A A' H H' → Rep mg A' S' H' → Q' d S' → Q d H'
def EndL (mg : MG) (A : List Addr) (H : Hp) (Q : List V → Hp → Prop) (Q' : List D → MS → Prop) : Prop := ∀ d S' A' v H', Grow A A' H H' → Rep mg A' S' H' → IsL mg A' H' v d → Q' d S' → Q v H'
def EndN (mg : MG) (A : List Addr) (H : Hp) (Q : L2.St → Hp → Prop) (Q' : DEnv → MS → Prop) : Prop := ∀ ρ S' A' σ H', Grow A A' H H' → Rep mg A' S' H' → EnvD mg A' H' σ ρ → Q' ρ S' → Q σ H'
structure EndS (mg : MG) (A : List Addr) (H : Hp) (E : Ends) (E' : DEnds) : Prop where
  nx : EndN mg A H E.nx E'.nx
  rt : EndV mg A H E.rt E'.rt
  bk : EndN mg A H E.bk E'.bk
  ct : EndN mg A H E.ct E'.ct
section
variable {mg : MG} {A A' : List Addr} {H H' : Hp}
theorem EndV.mono {Q Q'} (e : EndV mg A H Q Q') (g : Grow A A' H H') : EndV mg A' H' Q Q' := fun d S' A2 v H2 g2 => e d S' A2 v H2 (g.trans g2)
theorem EndB.mono {Q Q'} (e : EndB mg A H Q Q') (g : Grow A A' H H') : EndB mg A' H' Q Q' := fun d S' A2 H2 g2 => e d S' A2 H2 (g.trans g2)
theorem EndL.mono {Q Q'} (e : EndL mg A H Q Q') (g : Grow A A' H H') : EndL mg A' H' Q Q' := fun d S' A2 v H2 g2 => e d S' A2 v H2 (g.trans g2)
theorem EndN.mono {Q Q'} (e : EndN mg A H Q Q') (g : Grow A A' H H') : EndN mg A' H' Q Q' := fun d S' A2 v H2 g2 => e d S' A2 v H2 (g.trans g2)
theorem EndS.mono {E E'} (e : EndS mg A H E E') (g : Grow A A' H H') : EndS mg A' H' E E' := ⟨e.nx.mono g, e.rt.mono g, e.bk.mono g, e.ct.mono g⟩
end
def SndE (mg : MG) (t : TE) (w : WD) : Prop := ∀ A S σ H ρ Q Q', Rep mg A S H → EnvD mg A H σ ρ → w ρ S Q' → EndV mg A H Q Q' → t σ H Q
def SndT (mg : MG) (t : TT) (w : WB) : Prop := ∀ A S σ H ρ Q Q', Rep mg A S H → EnvD mg A H σ ρ → w ρ S Q' → EndB mg A H Q Q' → t σ H Q
def SndA (mg : MG) (t : TA) (w : WL) : Prop := ∀ A S σ H ρ Q Q', Rep mg A S H → EnvD mg A H σ ρ → w ρ S Q' → EndL mg A H Q Q' → t σ H Q
def SndS (mg : MG) (t : TS) (w : WS) : Prop := ∀ A S σ H ρ E E', Rep mg A S H → EnvD mg A H σ ρ → w E' ρ S → EndS mg A H E E' → t E σ H

structure PD (X : Cx) (e : Expr) (t : TE) (w : WD) : Prop where
  pe : PE X e t
  sd : SndE X.G t w
structure PDT (X : Cx) (e : Expr) (t : TT) (w : WB) : Prop where
  pe : PT X e t
  sd : SndT X.G t w
structure PDW (X : Cx) (e : Expr) (t : TT) (w : WB) : Prop where
  pe : PW X e t
  sd : SndT X.G t w
structure PDA (X : Cx) (es : List Expr) (t : TA) (w : WL) : Prop where
  pe : PA X es t
  sd : SndA X.G t w
structure PDS (X : Cx) (st : Stmt) (t : TS) (w : WS) : Prop where
  pe : PS X st t
  sd : SndS X.G t w
structure PDSs (X : Cx) (st : List Stmt) (t : TS) (w : WS) : Prop where
  pe : PSs X st t
  sd : SndS X.G t w

/-! ### names, constants -/
def wVar (i : Nat) : WD := fun ρ S Q => match ρ[i]? with
  | some (some d) => Q d S
  | _ => False
def wC (d : D) : WD := fun _ S Q => Q d S
section
variable {X : Cx} {mg : MG}
theorem snd_var {i : Nat} : SndE mg (tVar i) (wVar i) := by
  intro A S σ H ρ Q Q' R E q k
  unfold wVar at q
  split at q
  case h_2 => exact q.elim
  rename_i d hd
  obtain ⟨v, h1, h2⟩ := E.at_ i d hd
  exact ⟨v, h1, k d S A v H .refl R h2 q⟩
theorem snd_c {v : V} {d : D} (h : ∀ A H, Is mg A H v d) : SndE mg (tC v) (wC d) := fun A S σ H ρ Q Q' R E q k => k d S A v H .refl R (h A H) q
theorem dv (i : Nat) {x : Str} {pos : Pos} (hN : X.N[i]? = some x := by rfl) (hv : Vis X.env.scope x := by first | exact Or.inl rfl | exact Or.inr (Or.inl rfl) | exact Or.inr (Or.inr rfl)) (hd : (x == ("__debug__" : Str)) = false := by decide)
    (hcd : (x == ("__classdict__" : Str)) = false := by decide) : PD X (.Name x pos) (tVar i) (wVar i) := ⟨pe_var hN hv hd hcd, snd_var⟩
theorem d_int {i j pos} : PD X (.Constant (.int i) j pos) (tC (.int i)) (wC (.int i)) := ⟨pe_int, snd_c fun _ _ => .int i⟩
theorem d_bl {b j pos} : PD X (.Constant (.bool b) j pos) (tC (.bl b)) (wC (.bl b)) := ⟨pe_bl, snd_c fun _ _ => .bl b⟩
theorem d_non {j pos} : PD X (.Constant .none j pos) (tC .non) (wC .non) := ⟨pe_non, snd_c fun _ _ => .non⟩
theorem d_str {x j pos} : PD X (.Constant (.str x) j pos) (tC (.str x)) (wC (.str x)) := ⟨pe_str, snd_c fun _ _ => .str x⟩
/-- a module's name for a class -/
theorem d_cls {x : Str} {C : Addr} {pos : Pos} (hm : X.mg x = some (.ref C)) (hg : Gl X x := by rfl) (hd : (x == ("__debug__" : Str)) = false := by decide) : PD X (.Name x pos) (tC (.ref C)) (wC (.cls x)) :=
  ⟨pe_glob hg hm rfl hd, snd_c fun _ _ => .cls hm⟩
theorem d_ty {x : Str} {n : String} {pos : Pos} (hm : X.mg x = none) (hv : bootBuiltins x = some (.type n) := by decide +kernel) (hg : Gl X x := by rfl) (hn : x ≠ "__name__" := by decide) (hd : (x == ("__debug__" : Str)) = false := by decide) :
    PD X (.Name x pos) (tC (.ty n)) (wC (.ty n)) := ⟨pe_bltn hg hm hv rfl hn hd, snd_c fun _ _ => .ty n⟩
theorem d_globI {x : Str} {i : Int} {t : Tok} {pos : Pos} (hm : X.mg x = some (.int i t)) (hg : Gl X x := by rfl) (hd : (x == ("__debug__" : Str)) = false := by decide) : PD X (.Name x pos) (tC (.int i)) (wC (.int i)) :=
  ⟨pe_glob hg hm ⟨_, rfl⟩ hd, snd_c fun _ _ => .int i⟩
end
end DL

set_option Elab.async false
set_option linter.all false
set_option maxRecDepth 100000
/-! Operators of an own class by its methods, over the hand layer. -/
namespace DL
open PySem PySem.Spec PyProof.Rows L2
open PySem.W (InstAt Looks findIn isFn subIn selfFirst notFirst)

section
variable {prog : Program} {w : World} {A : Around} {E : Value → Shared → Prop} {s : Shared} {K : PySem.W.Frag} {x C L f : Addr} {h₀ : Heap} {m : Str → Option Value} {ox : Obj} {od : Option Obj}

/-- int.__op__ with an object that is none -/
theorem int_declines {name : Str} {id nm : String} {g : Int → Int → Sem PySem.Fin} {B : Builtin} {i : Int} {t : Tok} {Q : Value → Shared → Prop} (hs : Slot "int" name id) (he : entryFor table id = some B) (ha : argsOk id ⟨[.int i t, .ref x], []⟩)
    (hB : B = PySem.Builtin.Int.intBinary nm g) (ho : s.heap.get? x = some ox) (hd : ox.data = .plain) (q : Q .notImplemented s) :
    wpAny (model prog w) A (call (.builtin id) [.int i t, .ref x]) Q E s := by
  refine wpAny_call_entry hs (typeIs_int s i t) he ?_ ha
  rw [hB]
  unfold PySem.Builtin.Int.intBinary
  refine wpAny_bind (m := slotArgs nm 1 _) (wpAny_pure ?_)
  refine wpAny_bind (m := PySem.Builtin.Int.intOfSelf _) ?_
  unfold PySem.Builtin.Int.intOfSelf
  refine wpAny_bind (m := asInt? _) (wpAny_pure (wpAny_pure ?_))
  refine wpAny_bind (m := asInt? _) ?_
  show wpAny _ _ (asInt? (.ref x)) _ _ _
  unfold asInt?
  refine wpAny_bind (wpAny_load ho ?_)
  rw [hd]
  refine wpAny_pure ?_
  refine wpAny_bind (wpAny_rule ?_)
  exact wpAny_pure ⟨_, rfl, q⟩

/-- int // own declines, too -/
theorem int_fdeclines {i : Int} {t : Tok} {Q : Value → Shared → Prop} (ho : s.heap.get? x = some ox) (hd : ox.data = .plain) (q : Q .notImplemented s) :
    wpAny (model prog w) A (call (.builtin "int.__floordiv__") [.int i t, .ref x]) Q E s := by
  refine wpAny_call_entry F.slot_int_floordiv (typeIs_int s i t) F.entry_int_floordiv ?_ (F.args_int_floordiv_2 _ _)
  unfold Builtin.«int.__floordiv__»
  refine wpAny_bind (m := PySem.Builtin.exactOperandsForPylong false _) ?_
  unfold PySem.Builtin.exactOperandsForPylong
  rw [if_pos (by rfl)]
  dsimp only
  refine wpAny_bind (m := asInt? _) (wpAny_pure ?_)
  refine wpAny_bind (m := asInt? _) ?_
  unfold asInt?
  refine wpAny_bind (wpAny_load ho ?_)
  rw [hd]
  refine wpAny_pure ?_
  dsimp only
  refine wpAny_pure ?_
  unfold PySem.Builtin.Int.intBinary
  refine wpAny_bind (m := slotArgs _ 1 _) (wpAny_pure ?_)
  refine wpAny_bind (m := PySem.Builtin.Int.intOfSelf _) ?_
  unfold PySem.Builtin.Int.intOfSelf
  refine wpAny_bind (m := asInt? _) (wpAny_pure (wpAny_pure ?_))
  refine wpAny_bind (m := asInt? _) ?_
  show wpAny _ _ (asInt? (.ref x)) _ _ _
  unfold asInt?
  refine wpAny_bind (wpAny_load ho ?_)
  rw [hd]
  refine wpAny_pure ?_
  refine wpAny_bind (wpAny_rule ?_)
  exact wpAny_pure ⟨_, rfl, q⟩

/-- int op own: by the own class's reflected method -/
theorem binI_K {op : Operator} {id : String} {i : Int} {t : Tok} {fl : Addr} {Q : Value → Shared → Prop} (X : K.In s.heap) (I : InstAt s.heap x ox C od) (hc : selfFirst K C = true)
    (hl : findIn K (.ref C) (PySem.dunder op.info.2) = some (some (.ref fl))) (hs : findIn K (.ref C) (dunderR op.info.2) = some (some (.ref f))) (hf : isFn K (.ref f) = true)
    (hsub : subIn K (.ref C) (.type "int") = some false) (slot : Slot "int" (PySem.dunder op.info.2) id) (fills : fillsNumberSlot (.type "int") op.info.2 = pure true)
    (dec : ∀ Q' : Value → Shared → Prop, Q' .notImplemented s → wpAny (model prog w) A (call (.builtin id) [.int i t, .ref x]) Q' E s)
    (h : wpAny (model prog w) A (call (.ref f) [.ref x, .int i t]) (PySem.W.CmpBack Q) E s) : wpAny (model prog w) A (binaryOp op (.int i t) (.ref x)) Q E s := by
  obtain ⟨cd, rest, hcd, hm⟩ := PySem.W.ksp_first hc
  rcases hi : op.info with ⟨sym, nm'⟩
  rw [hi] at hl hs slot fills
  dsimp only at hl hs slot fills
  have one := PySem.W.ksp_try X I hs hf h
  have L3 : Looks (model prog w) s.heap (fillsNumberSlot (.ref C) nm') true := PySem.W.fills_K X hcd hm hl
  have L5 : Looks (model prog w) s.heap (isSubtype (.ref C) (.type "int")) false := PySem.W.looks_subIn X hsub
  have hne : (Value.type "int" == Value.ref C) = false := Bool.eq_false_iff.mpr fun q => by cases beq_iff_eq.mp q
  have hpy : numberSlotInPython (.type "int") nm' = pure false := rfl
  simp only [binaryOp, hi]
  refine wpAny_holding (wpAny_bind ?_)
  unfold binaryOp1
  refine wpAny_bind (wpAny_typeOf (typeIs_int s i t) (wpAny_bind (I.type.here (wpAny_bind (wpAny_of_eq fills ?_)))))
  simp only [hne, Bool.false_eq_true, if_false]
  refine wpAny_bind (L3.here ?_)
  simp only [Bool.and_self, if_true]
  refine wpAny_bind (L5.here ?_)
  simp only [Bool.false_eq_true, if_false, pure_bind, Bool.not_false, Bool.and_self, if_true, hpy]
  refine wpAny_bind (wpAny_tryMethod_declines (typeIs_int s i t) slot (dec _ ⟨rfl, ?_⟩))
  dsimp only
  refine wpAny_bind (wpAny_mono one (fun r s' hr => ?_) fun _ _ e => e)
  obtain ⟨v, rfl, hq⟩ := hr
  dsimp only
  exact wpAny_bind (wpAny_rule (wpAny_pure (wpAny_pure hq)))

/-- int cmp own: by the own class's reflected method -/
theorem cmpI_K {op : CmpOp} {id : String} {i : Int} {t : Tok} {Q : Value → Shared → Prop} (hu : A.units < cLine) (X : K.In s.heap) (I : InstAt s.heap x ox C od)
    (hs : findIn K (.ref C) (cmpInfo op).2.2 = some (some (.ref f))) (hf : isFn K (.ref f) = true) (hsub : subIn K (.ref C) (.type "int") = some false) (slot : Slot "int" (cmpInfo op).2.1 id)
    (dec : ∀ Q' : Value → Shared → Prop, Q' .notImplemented s → wpAny (model prog w) A (call (.builtin id) [.int i t, .ref x]) Q' E s)
    (h : wpAny (model prog w) A (call (.ref f) [.ref x, .int i t]) (PySem.W.CmpBack Q) E s) : wpAny (model prog w) A (richCompare op (.int i t) (.ref x)) Q E s := by
  have one : wpAny (model prog w) A (tryCompare (.ref x) (cmpInfo op).2.2 (.int i t)) (fun r s' => ∃ v, r = some v ∧ Q v s') E s := by
    unfold tryCompare
    refine wpAny_bind (PySem.W.ifBound_K X I hs hf (wpAny_mono h (fun v s' hv => ?_) fun _ _ e => e))
    cases v <;> first | exact hv.elim | exact wpAny_pure ⟨_, rfl, hv⟩
  have L5 : Looks (model prog w) s.heap (isSubtype (.ref C) (.type "int")) false := PySem.W.looks_subIn X hsub
  have hne : (Value.type "int" != Value.ref C) = true := by
    rw [bne, Bool.not_eq_true']
    exact Bool.eq_false_iff.mpr fun q => by cases beq_iff_eq.mp q
  rcases hi : cmpInfo op with ⟨sym, f', r'⟩
  rw [hi] at one slot
  unfold richCompare
  simp only [hi, (typeIs_int s i t).oneThing_none]
  refine wpAny_holding (wpAny_bind (wpAny_cRoomFor hu ?_))
  refine wpAny_bind (wpAny_typeOf (typeIs_int s i t) (wpAny_bind (I.type.here ?_)))
  simp only [hne, if_true]
  refine wpAny_bind (L5.here ?_)
  simp only [Bool.false_eq_true, if_false]
  refine wpAny_bind (wpAny_tryCompare_declines (typeIs_int s i t) slot (dec _ ⟨rfl, ?_⟩))
  simp only [Bool.not_false, if_true]
  refine wpAny_bind (wpAny_mono one (fun r s' z => ?_) fun _ _ e => e)
  obtain ⟨v, rfl, hq⟩ := z
  exact wpAny_pure hq
end
end DL
namespace DL
open PySem PySem.Spec PyProof.Rows L2
/-- what the operators ask of a class -/
structure OwnC (K : PySem.W.Frag) (C : Addr) : Prop where
  first : PySem.W.selfFirst K C = true
  subI : PySem.W.subIn K (.ref C) (.type "int") = some false
  subT : PySem.W.subIn K (.type "int") (.ref C) = some false
/-- a method of it -/
structure OwnM (K : PySem.W.Frag) (C : Addr) (nm : Str) (f : Addr) : Prop where
  at_ : PySem.W.findIn K (.ref C) nm = some (some (.ref f))
  fn : PySem.W.isFn K (.ref f) = true
theorem cmpback {P : Value → Shared → Prop} {z : V} {v : Value} {s' : Shared} (r : RelV z v) (h : P v s') : PySem.W.CmpBack P v s' := by
  cases z with
  | non => cases (show v = Value.none from r); exact h
  | bl b => cases (show v = Value.bool b from r); exact h
  | int i => obtain ⟨t, e⟩ := (show ∃ t, v = Value.int i t from r); cases e; exact h
  | str x => obtain ⟨t, e⟩ := (show ∃ t, v = Value.str x t from r); cases e; exact h
  | byt x => obtain ⟨t, e⟩ := (show ∃ t, v = Value.bytes x t from r); cases e; exact h
  | flt x => obtain ⟨t, e⟩ := (show ∃ t, v = Value.float x t from r); cases e; exact h
  | ref a => cases (show v = Value.ref a from r); exact h
  | ty n => cases (show v = Value.type n from r); exact h
section
variable {X : Cx} {CX : CXT} {k : Nat} {C g gl : Addr} {fd : FuncData} {ps : List Str} {sp : Sp} {E : XK}

def Ins (C : Addr) (H : Hp) (x : V) : Prop := ∃ a dx fs, x = .ref a ∧ H a = some (.ins C dx fs)
def rOwnB (C : Addr) (sp : Sp) (E : XK) : R2 := fun x y H Q => Ins C H x ∧ (Ins C H y ∨ ∃ i, y = .int i) ∧ sp [x, y] H Q E
def rOwnI (C : Addr) (sp : Sp) (E : XK) : R2 := fun x y H Q => (∃ i, x = .int i) ∧ Ins C H y ∧ sp [y, x] H Q E
def rOwnU (C : Addr) (sp : Sp) (E : XK) : V → Hp → VK → Prop := fun x H Q => Ins C H x ∧ sp [x] H Q E

theorem op_ownB {op : Operator} {rc fo ro : Option Value} (O : OwnC X.K C) (M : OwnM X.K C (PySem.dunder op.info.2) g) (hr' : PySem.W.findIn X.K (.ref C) (dunderR op.info.2) = some rc) (hp : rc = none ∨ ∃ g : Addr, rc = some (.ref g))
    (h1 : PySem.W.findIn X.K (.type "int") (PySem.dunder op.info.2) = some fo) (h2 : PySem.W.findIn X.K (.type "int") (dunderR op.info.2) = some ro)
    (F : FnOk X.prog X.w X.K X.mg X.base CX k g fd ps sp) (hr : Room k X.A) (hb : Binds X.K fd ps []) (hx : Passes CX X E) : OpR X (binaryOp op) (rOwnB C sp E) := by
  intro pins s σ H x y v u Q I rx ry h
  obtain ⟨⟨a, dx, fs, rfl, ha⟩, hy, q⟩ := h
  cases (show v = Value.ref a from rx)
  obtain ⟨mA, OM, _⟩ := ins_get I.hok ha
  obtain ⟨od, J, _⟩ := OM.look
  obtain ⟨m, hF⟩ := I.fr
  have run := run_fn (us := [.ref a, u]) (vs := [.ref a, y]) F hr hb .nil hx I (.cons rfl (.cons ry .nil)) (by simpa using q)
  have run' := wpAny_mono run (fun w s' (z : EP X pins σ Q w s') => (show PySem.W.CmpBack (EP X pins σ Q) w s' from by
    obtain ⟨z', H', I', rz, qz⟩ := z
    exact cmpback rz ⟨z', H', I', rz, qz⟩)) fun _ _ e => e
  rcases hy with ⟨b, dy, gs, rfl, hb'⟩ | ⟨i, rfl⟩
  · cases (show u = Value.ref b from ry)
    obtain ⟨mB, OM', _⟩ := ins_get I.hok hb'
    obtain ⟨od', J', _⟩ := OM'.look
    exact PySem.W.binop_K hF I.ok.mod.kin J J'.type O.first M.at_ M.fn run'
  · obtain ⟨t, rfl⟩ := ry
    exact PySem.W.ksp_binT (T := "int") hF I.ok.mod.kin J rfl O.first M.at_ M.fn hr' hp h1 h2 O.subT run'
theorem op_ownI {op : Operator} {id : String} (O : OwnC X.K C) (M : OwnM X.K C (PySem.dunder op.info.2) gl) (MR : OwnM X.K C (dunderR op.info.2) g) (slot : Slot "int" (PySem.dunder op.info.2) id) (fills : fillsNumberSlot (.type "int") op.info.2 = pure true)
    (dec : ∀ {A : Around} {E : Value → Shared → Prop} {s : Shared} {i : Int} {t : Tok} {x : Addr} {ox : Obj} (Q' : Value → Shared → Prop), s.heap.get? x = some ox → ox.data = .plain → Q' .notImplemented s → wpAny (model X.prog X.w) A (call (.builtin id) [.int i t, .ref x]) Q' E s)
    (F : FnOk X.prog X.w X.K X.mg X.base CX k g fd ps sp) (hr : Room k X.A) (hb : Binds X.K fd ps []) (hx : Passes CX X E) : OpR X (binaryOp op) (rOwnI C sp E) := by
  intro pins s σ H x y v u Q I rx ry h
  obtain ⟨⟨i, rfl⟩, ⟨b, dy, gs, rfl, hb'⟩, q⟩ := h
  obtain ⟨t, rfl⟩ := rx
  cases (show u = Value.ref b from ry)
  obtain ⟨mB, OM', _⟩ := ins_get I.hok hb'
  obtain ⟨od', J', _⟩ := OM'.look
  have run := run_fn (us := [.ref b, .int i t]) (vs := [.ref b, .int i]) F hr hb .nil hx I (.cons rfl (.cons ⟨t, rfl⟩ .nil)) (by simpa using q)
  refine binI_K I.kIn J' O.first M.at_ MR.at_ MR.fn O.subI slot fills (fun Q' q' => dec Q' J'.at_ rfl q') (wpAny_mono run (fun w s' z => ?_) fun _ _ e => e)
  obtain ⟨z', H', I', rz, qz⟩ := z
  exact cmpback rz ⟨z', H', I', rz, qz⟩
theorem un_ownNeg (M : OwnM X.K C "__neg__" g) (F : FnOk X.prog X.w X.K X.mg X.base CX k g fd ps sp) (hr : Room k X.A) (hb : Binds X.K fd ps []) (hx : Passes CX X E) : UnR X (unaryOp .USub) (rOwnU C sp E) := by
  intro pins s σ H x v Q I rx h
  obtain ⟨⟨a, dx, fs, rfl, ha⟩, q⟩ := h
  cases (show v = Value.ref a from rx)
  obtain ⟨mA, OM, _⟩ := ins_get I.hok ha
  obtain ⟨od, J, _⟩ := OM.look
  obtain ⟨m, hF⟩ := I.fr
  exact PySem.W.ksp_neg hF I.ok.mod.kin J M.at_ M.fn (run_fn (us := [.ref a]) (vs := [.ref a]) F hr hb .nil hx I (.cons rfl .nil) (by simpa using q))
theorem op_ownCmp {op : CmpOp} (hop : ∀ a b, compareOp op a b = richCompare op a b) (O : OwnC X.K C) (M : OwnM X.K C (cmpInfo op).2.1 g)
    (F : FnOk X.prog X.w X.K X.mg X.base CX k g fd ps sp) (hr : Room k X.A) (hb : Binds X.K fd ps []) (hx : Passes CX X E) : OpR X (compareOp op) (rOwnB C sp E) := by
  intro pins s σ H x y v u Q I rx ry h
  obtain ⟨⟨a, dx, fs, rfl, ha⟩, hy, q⟩ := h
  cases (show v = Value.ref a from rx)
  obtain ⟨mA, OM, _⟩ := ins_get I.hok ha
  obtain ⟨od, J, _⟩ := OM.look
  obtain ⟨m, hF⟩ := I.fr
  have run := run_fn (us := [.ref a, u]) (vs := [.ref a, y]) F hr hb .nil hx I (.cons rfl (.cons ry .nil)) (by simpa using q)
  have run' := wpAny_mono run (fun w s' (z : EP X pins σ Q w s') => (show PySem.W.CmpBack (EP X pins σ Q) w s' from by
    obtain ⟨z', H', I', rz, qz⟩ := z
    exact cmpback rz ⟨z', H', I', rz, qz⟩)) fun _ _ e => e
  rw [hop]
  rcases hy with ⟨b, dy, gs, rfl, hb'⟩ | ⟨i, rfl⟩
  · cases (show u = Value.ref b from ry)
    obtain ⟨mB, OM', _⟩ := ins_get I.hok hb'
    obtain ⟨od', J', _⟩ := OM'.look
    exact PySem.W.cmp_K (tb := .ref C) hr.units0 hF I.ok.mod.kin J J'.type (by simp [PySem.W.notFirst]) M.at_ M.fn run'
  · obtain ⟨t, rfl⟩ := ry
    exact PySem.W.cmp_K (tb := .type "int") hr.units0 hF I.ok.mod.kin J (PySem.W.Looks.of_pure rfl) (by simp [PySem.W.notFirst, O.subT]) M.at_ M.fn run'
theorem op_ownCmpI {op : CmpOp} {id : String} (hop : ∀ a b, compareOp op a b = richCompare op a b) (O : OwnC X.K C) (M : OwnM X.K C (cmpInfo op).2.2 g) (slot : Slot "int" (cmpInfo op).2.1 id)
    (dec : ∀ {A : Around} {E : Value → Shared → Prop} {s : Shared} {i : Int} {t : Tok} {x : Addr} {ox : Obj} (Q' : Value → Shared → Prop), s.heap.get? x = some ox → ox.data = .plain → Q' .notImplemented s → wpAny (model X.prog X.w) A (call (.builtin id) [.int i t, .ref x]) Q' E s)
    (F : FnOk X.prog X.w X.K X.mg X.base CX k g fd ps sp) (hr : Room k X.A) (hb : Binds X.K fd ps []) (hx : Passes CX X E) : OpR X (compareOp op) (rOwnI C sp E) := by
  intro pins s σ H x y v u Q I rx ry h
  obtain ⟨⟨i, rfl⟩, ⟨b, dy, gs, rfl, hb'⟩, q⟩ := h
  obtain ⟨t, rfl⟩ := rx
  cases (show u = Value.ref b from ry)
  obtain ⟨mB, OM', _⟩ := ins_get I.hok hb'
  obtain ⟨od', J', _⟩ := OM'.look
  have run := run_fn (us := [.ref b, .int i t]) (vs := [.ref b, .int i]) F hr hb .nil hx I (.cons rfl (.cons ⟨t, rfl⟩ .nil)) (by simpa using q)
  rw [hop]
  refine cmpI_K hr.units0 I.kIn J' M.at_ M.fn O.subI slot (fun Q' q' => dec Q' J'.at_ rfl q') (wpAny_mono run (fun w s' z => ?_) fun _ _ e => e)
  obtain ⟨z', H', I', rz, qz⟩ := z
  exact cmpback rz ⟨z', H', I', rz, qz⟩
end
end DL

set_option Elab.async false
set_option linter.all false
set_option maxRecDepth 100000
/-! Rules: each piece of the text by data. -/
namespace DL
open PySem PySem.Spec PyProof.Rows L2
abbrev OD := D → D → MS → (D → MS → Prop) → Prop
abbrev UD := D → MS → (D → MS → Prop) → Prop
abbrev LD := List D → MS → (D → MS → Prop) → Prop
def SndR (mg : MG) (r : R2) (o : OD) : Prop := ∀ A S H x y dx dy Q Q', Rep mg A S H → Is mg A H x dx → Is mg A H y dy → o dx dy S Q' → EndV mg A H Q Q' → r x y H Q
def SndU (mg : MG) (r : V → Hp → VK → Prop) (o : UD) : Prop := ∀ A S H x dx Q Q', Rep mg A S H → Is mg A H x dx → o dx S Q' → EndV mg A H Q Q' → r x H Q
def SndC (mg : MG) (r : List V → Hp → VK → Prop) (o : LD) : Prop := ∀ A S H xs ds Q Q', Rep mg A S H → IsL mg A H xs ds → o ds S Q' → EndV mg A H Q Q' → r xs H Q
def wOp (o : OD) (wa wb : WD) : WD := fun ρ S Q => wa ρ S fun x S1 => wb ρ S1 fun y S2 => o x y S2 Q
def wUn (o : UD) (wa : WD) : WD := fun ρ S Q => wa ρ S fun x S1 => o x S1 Q
def wNil : WL := fun _ S Q => Q [] S
def wCons (wa : WD) (wr : WL) : WL := fun ρ S Q => wa ρ S fun x S1 => wr ρ S1 fun xs S2 => Q (x :: xs) S2
def wCB (o : LD) (wl : WL) : WD := fun ρ S Q => wl ρ S fun xs S1 => o xs S1 Q
section
variable {mg : MG} {ta tb te : TE} {wa wb we : WD} {t : TA} {wl : WL} {r : R2} {o : OD}
theorem snd_op (hr : SndR mg r o) (ha : SndE mg ta wa) (hb : SndE mg tb wb) : SndE mg (tOp r ta tb) (wOp o wa wb) := by
  intro A S σ H ρ Q Q' R E h k
  refine ha A S σ H ρ _ _ R E h fun x S1 A1 vx H1 g1 R1 hx h1 => ?_
  refine hb A1 S1 σ H1 ρ _ _ R1 (E.mono g1) h1 fun y S2 A2 vy H2 g2 R2 hy h2 => ?_
  exact hr A2 S2 H2 vx vy x y Q Q' R2 (hx.mono g2) hy h2 (k.mono (g1.trans g2))
theorem snd_un {r : V → Hp → VK → Prop} {o : UD} (hr : SndU mg r o) (ha : SndE mg ta wa) : SndE mg (tUn r ta) (wUn o wa) := by
  intro A S σ H ρ Q Q' R E h k
  exact ha A S σ H ρ _ _ R E h fun x S1 A1 vx H1 g1 R1 hx h1 => hr A1 S1 H1 vx x Q Q' R1 hx h1 (k.mono g1)
theorem snd_nil : SndA mg tNil wNil := fun A S σ H ρ Q Q' R E h k => k [] S A [] H .refl R .nil h
theorem snd_cons (ha : SndE mg ta wa) (hr : SndA mg t wl) : SndA mg (tCons ta t) (wCons wa wl) := by
  intro A S σ H ρ Q Q' R E h k
  refine ha A S σ H ρ _ _ R E h fun x S1 A1 vx H1 g1 R1 hx h1 => ?_
  refine hr A1 S1 σ H1 ρ _ _ R1 (E.mono g1) h1 fun xs S2 A2 vxs H2 g2 R2 hxs h2 => ?_
  exact k (x :: xs) S2 A2 (vx :: vxs) H2 (g1.trans g2) R2 (.cons (hx.mono g2) hxs) h2
theorem snd_cb {r : List V → Hp → VK → Prop} {o : LD} (hr : SndC mg r o) (hl : SndA mg t wl) : SndE mg (tCB r t) (wCB o wl) := by
  intro A S σ H ρ Q Q' R E h k
  exact hl A S σ H ρ _ _ R E h fun xs S1 A1 vxs H1 g1 R1 hxs h1 => hr A1 S1 H1 vxs xs Q Q' R1 hxs h1 (k.mono g1)
theorem SndR.or {r' : R2} {o' : OD} (h : SndR mg r o) (h' : SndR mg r' o') : SndR mg (fun x y H Q => r x y H Q ∨ r' x y H Q) (fun x y S Q => o x y S Q ∨ o' x y S Q) := by
  intro A S H x y dx dy Q Q' R hx hy q k
  rcases q with q | q
  · exact .inl (h A S H x y dx dy Q Q' R hx hy q k)
  · exact .inr (h' A S H x y dx dy Q Q' R hx hy q k)
/-- a reading by data may be weakened -/
theorem SndR.imp {o' : OD} (h : SndR mg r o) (i : ∀ x y S Q, o' x y S Q → o x y S Q) : SndR mg r o' := fun A S H x y dx dy Q Q' R hx hy q k => h A S H x y dx dy Q Q' R hx hy (i _ _ _ _ q) k
end
/-! ### ints -/
def oI (C : Int → Int → Prop) (g : Int → Int → D) : OD := fun x y S Q => match x, y with
  | .int i, .int j => C i j ∧ Q (g i j) S
  | _, _ => False
def oI0 (g : Int → Int → D) : OD := fun x y S Q => match x, y with
  | .int i, .int j => Q (g i j) S
  | _, _ => False
def oU (g : Int → D) : UD := fun x S Q => match x with
  | .int i => Q (g i) S
  | _ => False
section
variable {mg : MG}
theorem snd_rI {C : Int → Int → Prop} {g : Int → Int → V} {g' : Int → Int → D} (hg : ∀ i j A H, Is mg A H (g i j) (g' i j)) : SndR mg (rI C g) (oI C g') := by
  intro A S H x y dx dy Q Q' R hx hy q k
  cases hx <;> cases hy <;> first | exact q.elim | skip
  exact ⟨_, _, rfl, rfl, q.1, k _ S A _ H .refl R (hg _ _ _ _) q.2⟩
theorem snd_rI0 {g : Int → Int → V} {g' : Int → Int → D} (hg : ∀ i j A H, Is mg A H (g i j) (g' i j)) : SndR mg (rI0 g) (oI0 g') := by
  intro A S H x y dx dy Q Q' R hx hy q k
  cases hx <;> cases hy <;> first | exact q.elim | skip
  exact ⟨_, _, rfl, rfl, k _ S A _ H .refl R (hg _ _ _ _) q⟩
theorem snd_rU {g : Int → V} {g' : Int → D} (hg : ∀ i A H, Is mg A H (g i) (g' i)) : SndU mg (rU g) (oU g') := by
  intro A S H x dx Q Q' R hx q k
  cases hx <;> first | exact q.elim | skip
  exact ⟨_, rfl, k _ S A _ H .refl R (hg _ _ _) q⟩
/-- // and % by any number but 0 -/
def CDivWN (_ j : Int) : Prop := j ≠ 0 ∧ j.natAbs.log2 < 9000
theorem op_fdivWN {X : Cx} : OpR X (binaryOp .FloorDiv) (rI CDivWN fun i j => .int (i.fdiv j)) := opI fun _ _ _ _ _ _ _ hc q => floordiv_int hc.1 q (.inl (PyProof.noPylong_of_log2 hc.2))
end
section
variable {X : Cx} {a b c : Expr} {ta tb tc : TE} {wa wb wc : WD} {pos : Pos}
theorem d_op {op : Operator} {r : R2} {o : OD} (ho : OpR X (binaryOp op) r) (hs : SndR X.G r o) (ha : PD X a ta wa) (hb : PD X b tb wb) : PD X (.BinOp a op b pos) (tOp r ta tb) (wOp o wa wb) := ⟨pe_op ho ha.pe hb.pe, snd_op hs ha.sd hb.sd⟩
theorem d_un {op : UnaryOp} {r : V → Hp → VK → Prop} {o : UD} (ho : UnR X (unaryOp op) r) (hs : SndU X.G r o) (ha : PD X a ta wa) : PD X (.UnaryOp op a pos) (tUn r ta) (wUn o wa) := ⟨pe_un ho ha.pe, snd_un hs ha.sd⟩
theorem d_cmp {op : CmpOp} {r : R2} {o : OD} (ho : OpR X (compareOp op) r) (hs : SndR X.G r o) (ha : PD X a ta wa) (hb : PD X b tb wb) (hm : behindInMarks op b = false) : PD X (.Compare a [op] [b] pos) (tOp r ta tb) (wOp o wa wb) :=
  ⟨pe_cmpR ho ha.pe hb.pe hm, snd_op hs ha.sd hb.sd⟩
/-- a value that is a truth value, as a test -/
def wTest (w : WD) : WB := fun ρ S Q => w ρ S fun x S1 => match x with
  | .bl k => Q k S1
  | _ => False
theorem snd_test {mg : MG} {t : TE} {w : WD} (h : SndE mg t w) : SndT mg (tTest t) (wTest w) := by
  intro A S σ H ρ Q Q' R E hw k
  refine h A S σ H ρ _ _ R E hw fun x S1 A1 vx H1 g1 R1 hx h1 => ?_
  cases hx <;> first | exact h1.elim | skip
  exact ⟨_, rfl, k _ S1 A1 H1 g1 R1 h1⟩
theorem dt_cmp {op : CmpOp} {r : R2} {o : OD} (ho : OpR X (compareOp op) r) (hs : SndR X.G r o) (ha : PD X a ta wa) (hb : PD X b tb wb) (hm : behindInMarks op b = false) : PDT X (.Compare a [op] [b] pos) (tTest (tOp r ta tb)) (wTest (wOp o wa wb)) :=
  ⟨pt_cmpR ho ha.pe hb.pe hm, snd_test (snd_op hs ha.sd hb.sd)⟩
theorem dt_val {e : Expr} {t : TE} {w : WD} (h : PD X e t w) (he : ∀ whole, isTrue e X.env whole = (do let v ← whole; standAt e.pos; holding [v] (truthy v)) := by intro _; rfl) : PDT X e (tB t) (wTest w) := ⟨pt_val h.pe he, snd_test h.sd⟩
/-- a op b op' c -/
def wChain (o o' : OD) (wa wb wc : WD) : WD := fun ρ S Q => wa ρ S fun x S1 => wb ρ S1 fun y S2 => o x y S2 fun z S3 => match z with
  | .bl k => if k = true then wc ρ S3 fun w' S4 => o' y w' S4 Q else Q (.bl false) S3
  | _ => False
theorem snd_chain {mg : MG} {r r' : R2} {o o' : OD} (hr : SndR mg r o) (hr' : SndR mg r' o') (ha : SndE mg ta wa) (hb : SndE mg tb wb) (hc : SndE mg tc wc) : SndE mg (tChain r r' ta tb tc) (wChain o o' wa wb wc) := by
  intro A S σ H ρ Q Q' R E h k
  refine ha A S σ H ρ _ _ R E h fun x S1 A1 vx H1 g1 R1 hx h1 => ?_
  refine hb A1 S1 σ H1 ρ _ _ R1 (E.mono g1) h1 fun y S2 A2 vy H2 g2 R2 hy h2 => ?_
  refine hr A2 S2 H2 vx vy x y _ _ R2 (hx.mono g2) hy h2 fun z S3 A3 vz H3 g3 R3 hz h3 => ?_
  cases hz <;> first | exact h3.elim | skip
  rename_i kb
  refine ⟨kb, rfl, ?_⟩
  cases kb with
  | false =>
    exact iteF (k _ S3 A3 _ H3 (g1.trans (g2.trans g3)) R3 (.bl false) (by simpa using h3))
  | true =>
    refine iteT ?_
    have h3 : wc ρ S3 (fun w' S4 => o' y w' S4 Q') := by simpa using h3
    refine hc A3 S3 σ H3 ρ _ _ R3 (E.mono (g1.trans (g2.trans g3))) h3 fun w' S4 A4 vw H4 g4 R4 hw h4 => ?_
    exact hr' A4 S4 H4 vy vw y w' Q Q' R4 (hy.mono (g3.trans g4)) hw h4 (k.mono (g1.trans (g2.trans (g3.trans g4))))
theorem d_chain {op op' : CmpOp} {r r' : R2} {o o' : OD} (ho : OpR X (compareOp op) r) (hs : SndR X.G r o) (ho' : OpR X (compareOp op') r') (hs' : SndR X.G r' o') (ha : PD X a ta wa) (hb : PD X b tb wb) (hc : PD X c tc wc)
    (hm : lastMarks [op, op'] [b, c] = false := by with_unfolding_all rfl) : PD X (.Compare a [op, op'] [b, c] pos) (tChain r r' ta tb tc) (wChain o o' wa wb wc) := ⟨pe_chain ho ho' ha.pe hb.pe hc.pe hm, snd_chain hs hs' ha.sd hb.sd hc.sd⟩
theorem dt_chain {op op' : CmpOp} {r r' : R2} {o o' : OD} (ho : OpR X (compareOp op) r) (hs : SndR X.G r o) (ho' : OpR X (compareOp op') r') (hs' : SndR X.G r' o') (ha : PD X a ta wa) (hb : PD X b tb wb) (hc : PD X c tc wc)
    (hm : lastMarks [op, op'] [b, c] = false := by with_unfolding_all rfl) : PDT X (.Compare a [op, op'] [b, c] pos) (tTest (tChain r r' ta tb tc)) (wTest (wChain o o' wa wb wc)) := ⟨pt_chain ho ho' ha.pe hb.pe hc.pe hm, snd_test (snd_chain hs hs' ha.sd hb.sd hc.sd)⟩
/-! ### and, or, not -/
variable {tA tB' : TT} {wA wB : WB} {rest : List Expr}
def wAnd (t u : WB) : WB := fun ρ S Q => t ρ S fun c S1 => if c = true then u ρ S1 Q else Q false S1
def wOr (t u : WB) : WB := fun ρ S Q => t ρ S fun c S1 => if c = true then Q true S1 else u ρ S1 Q
def wNot (t : WB) : WB := fun ρ S Q => t ρ S fun c S1 => Q (!c) S1
theorem dw_and1 (ha : PDT X a tA wA) : PDW X (.BoolOp .And [a] pos) tA wA := ⟨pw_and1 ha.pe, ha.sd⟩
theorem dw_or1 (ha : PDT X a tA wA) : PDW X (.BoolOp .Or [a] pos) tA wA := ⟨pw_or1 ha.pe, ha.sd⟩
theorem dw_and (ha : PDT X a tA wA) (hb : PDW X (.BoolOp .And (b :: rest) pos) tB' wB) : PDW X (.BoolOp .And (a :: b :: rest) pos) (tAnd tA tB') (wAnd wA wB) := by
  refine ⟨pw_and ha.pe hb.pe, fun A S σ H ρ Q Q' R E h k => ?_⟩
  refine ha.sd A S σ H ρ _ _ R E h fun c S1 A1 H1 g1 R1 h1 => ?_
  cases c with
  | true => exact iteT (hb.sd A1 S1 σ H1 ρ _ _ R1 (E.mono g1) (by rw [if_pos rfl] at h1; exact h1) (k.mono g1))
  | false => exact iteF (k _ S1 A1 H1 g1 R1 (by rw [if_neg Bool.false_ne_true] at h1; exact h1))
theorem dw_or (ha : PDT X a tA wA) (hb : PDW X (.BoolOp .Or (b :: rest) pos) tB' wB) : PDW X (.BoolOp .Or (a :: b :: rest) pos) (tOr tA tB') (wOr wA wB) := by
  refine ⟨pw_or ha.pe hb.pe, fun A S σ H ρ Q Q' R E h k => ?_⟩
  refine ha.sd A S σ H ρ _ _ R E h fun c S1 A1 H1 g1 R1 h1 => ?_
  cases c with
  | true => exact iteT (k _ S1 A1 H1 g1 R1 (by rw [if_pos rfl] at h1; exact h1))
  | false => exact iteF (hb.sd A1 S1 σ H1 ρ _ _ R1 (E.mono g1) (by rw [if_neg Bool.false_ne_true] at h1; exact h1) (k.mono g1))
theorem PDW.pt {e : Expr} (h : PDW X e tA wA) : PDT X e tA wA := ⟨h.pe.pt, h.sd⟩
theorem dt_not (ha : PDT X a tA wA) : PDT X (.UnaryOp .Not a pos) (tNot tA) (wNot wA) := ⟨pt_not ha.pe, fun A S σ H ρ Q Q' R E h k => ha.sd A S σ H ρ _ _ R E h fun c S1 A1 H1 g1 R1 h1 => k _ S1 A1 H1 g1 R1 h1⟩
def wAndV (wa wb : WD) : WD := fun ρ S Q => wa ρ S fun x S1 => match x with
  | .bl c => if c = true then wb ρ S1 Q else Q (.bl false) S1
  | _ => False
def wOrV (wa wb : WD) : WD := fun ρ S Q => wa ρ S fun x S1 => match x with
  | .bl c => if c = true then Q (.bl true) S1 else wb ρ S1 Q
  | _ => False
def wNotV (wa : WD) : WD := fun ρ S Q => wa ρ S fun x S1 => match x with
  | .bl c => Q (.bl (!c)) S1
  | _ => False
theorem d_one {op} {t : TE} {w : WD} (h : PD X a t w) : PD X (.BoolOp op [a] pos) t w := ⟨pe_one h.pe, h.sd⟩
theorem d_and (ha : PD X a ta wa) (hb : PD X (.BoolOp .And (b :: rest) pos) tb wb) : PD X (.BoolOp .And (a :: b :: rest) pos) (tAndV ta tb) (wAndV wa wb) := by
  refine ⟨pe_and ha.pe hb.pe, fun A S σ H ρ Q Q' R E h k => ?_⟩
  refine ha.sd A S σ H ρ _ _ R E h fun x S1 A1 vx H1 g1 R1 hx h1 => ?_
  cases hx <;> first | exact h1.elim | skip
  rename_i c
  refine ⟨c, rfl, ?_⟩
  cases c with
  | true => exact iteT (hb.sd A1 S1 σ H1 ρ _ _ R1 (E.mono g1) (by simpa using h1) (k.mono g1))
  | false => exact iteF (k _ S1 A1 _ H1 g1 R1 (.bl false) (by simpa using h1))
theorem d_or (ha : PD X a ta wa) (hb : PD X (.BoolOp .Or (b :: rest) pos) tb wb) : PD X (.BoolOp .Or (a :: b :: rest) pos) (tOrV ta tb) (wOrV wa wb) := by
  refine ⟨pe_or ha.pe hb.pe, fun A S σ H ρ Q Q' R E h k => ?_⟩
  refine ha.sd A S σ H ρ _ _ R E h fun x S1 A1 vx H1 g1 R1 hx h1 => ?_
  cases hx <;> first | exact h1.elim | skip
  rename_i c
  refine ⟨c, rfl, ?_⟩
  cases c with
  | true => exact iteT (k _ S1 A1 _ H1 g1 R1 (.bl true) (by simpa using h1))
  | false => exact iteF (hb.sd A1 S1 σ H1 ρ _ _ R1 (E.mono g1) (by simpa using h1) (k.mono g1))
theorem d_not (ha : PD X a ta wa) : PD X (.UnaryOp .Not a pos) (tNotV ta) (wNotV wa) := by
  refine ⟨pe_not ha.pe, fun A S σ H ρ Q Q' R E h k => ?_⟩
  refine ha.sd A S σ H ρ _ _ R E h fun x S1 A1 vx H1 g1 R1 hx h1 => ?_
  cases hx <;> first | exact h1.elim | skip
  exact ⟨_, rfl, k _ S1 A1 _ H1 g1 R1 (.bl _) h1⟩
def wIf (t : WB) (wa wb : WD) : WD := fun ρ S Q => t ρ S fun c S1 => if c = true then wa ρ S1 Q else wb ρ S1 Q
theorem d_if {c : Expr} (hc : PDT X c tA wA) (ha : PD X a ta wa) (hb : PD X b tb wb) : PD X (.IfExp c a b pos) (tIf tA ta tb) (wIf wA wa wb) := by
  refine ⟨pe_ifExp hc.pe ha.pe hb.pe, fun A S σ H ρ Q Q' R E h k => ?_⟩
  refine hc.sd A S σ H ρ _ _ R E h fun c S1 A1 H1 g1 R1 h1 => ?_
  cases c with
  | true => exact iteT (ha.sd A1 S1 σ H1 ρ _ _ R1 (E.mono g1) (by rw [if_pos rfl] at h1; exact h1) (k.mono g1))
  | false => exact iteF (hb.sd A1 S1 σ H1 ρ _ _ R1 (E.mono g1) (by rw [if_neg Bool.false_ne_true] at h1; exact h1) (k.mono g1))
end
/-! ### displays -/
section
variable {X : Cx} {e : Expr} {es : List Expr} {te : TE} {we : WD} {t : TA} {wl : WL} {pos : Pos}
theorem da_nil : PDA X [] tNil wNil := ⟨pa_nil, snd_nil⟩
theorem da_cons (ha : PD X e te we) (hr : PDA X es t wl) (hs : starEach (e :: es) X.env = (false, eval e X.env) :: starEach es X.env := by rfl) : PDA X (e :: es) (tCons te t) (wCons we wl) := ⟨pa_cons ha.pe hr.pe hs, snd_cons ha.sd hr.sd⟩
def wTup (wl : WL) : WD := fun ρ S Q => wl ρ S fun xs S1 => xs.length ≤ sizeLine ∧ Q (.tup xs) S1
def wLst (wl : WL) : WD := fun ρ S Q => wl ρ S fun xs S1 => xs.length ≤ sizeLine ∧ Q (.lst xs) S1
/-- a list that may change -/
def wLstM (wl : WL) : WD := fun ρ S Q => wl ρ S fun xs S1 => xs.length ≤ sizeLine ∧ Q (.mut S1.length) (S1 ++ [.l xs])
theorem d_tup {x1} (h : PDA X es t wl) : PD X (.Tuple es x1 pos) (tTup t) (wTup wl) := by
  refine ⟨pe_tup h.pe, fun A S σ H ρ Q Q' R E hw k => ?_⟩
  refine h.sd A S σ H ρ _ _ R E hw fun xs S1 A1 vxs H1 g1 R1 hxs h1 => ⟨by rw [hxs.length]; exact h1.1, fun p hp => ?_⟩
  have g := grow_new (o := .tup vxs) R1 hp
  exact k _ S1 A1 _ _ (g1.trans g) (R1.new hp) (.tup (R1.fresh hp) (.inl upd_same) (hxs.mono g)) h1.2
theorem d_lst (h : PDA X es t wl) : PD X (.List es pos) (tLst t) (wLst wl) := by
  refine ⟨pe_lst h.pe, fun A S σ H ρ Q Q' R E hw k => ?_⟩
  refine h.sd A S σ H ρ _ _ R E hw fun xs S1 A1 vxs H1 g1 R1 hxs h1 => ⟨by rw [hxs.length]; exact h1.1, fun p hp => ?_⟩
  have g := grow_new (o := .lst vxs) R1 hp
  exact k _ S1 A1 _ _ (g1.trans g) (R1.new hp) (.lst (R1.fresh hp) upd_same (hxs.mono g)) h1.2
theorem d_lstM (h : PDA X es t wl) : PD X (.List es pos) (tLst t) (wLstM wl) := by
  refine ⟨pe_lst h.pe, fun A S σ H ρ Q Q' R E hw k => ?_⟩
  refine h.sd A S σ H ρ _ _ R E hw fun xs S1 A1 vxs H1 g1 R1 hxs h1 => ⟨by rw [hxs.length]; exact h1.1, fun p hp => ?_⟩
  refine k _ _ (A1 ++ [p]) _ _ (g1.trans (grow_mut R1 hp)) (R1.newMut hp hxs) (.mut ?_) h1.2
  rw [← R1.len, List.getElem?_append_right (Nat.le_refl _), Nat.sub_self]
  rfl
end
end DL

set_option Elab.async false
set_option linter.all false
set_option maxRecDepth 100000
/-! Rules: subscripts, targets, statements, loops, comprehensions, calls. -/
namespace DL
open PySem PySem.Spec PyProof.Rows L2
/-! ### subscripts -/
def oIx : OD := fun x y S Q => match x, y with
  | .lst ds, .int i => match atI ds i with | some d => Q d S | none => False
  | .scr ds, .int i => match atI ds i with | some d => Q d S | none => False
  | .tup ds, .int i => match atI ds i with | some d => Q d S | none => False
  | .tpk ds, .int i => match atI ds i with | some d => Q d S | none => False
  | .mut m, .int i => match S[m]? with | some (.l ds) => (match atI ds i with | some d => Q d S | none => False) | _ => False
  | .str z, .int i => z.length ≤ sizeLine ∧ ∃ c, atI z.cps.toList i = some c ∧ Q (.str ⟨#[c]⟩) S
  | _, _ => False
section
variable {mg : MG} {A : List Addr} {S : MS} {H : Hp}
theorem IsL.atI {vs : List V} {ds : List D} {i : Int} {d : D} (l : IsL mg A H vs ds) (e : L2.atI ds i = some d) : ∃ v, L2.atI vs i = some v ∧ Is mg A H v d := by
  unfold L2.atI at e ⊢
  rw [l.length]
  cases q : ixN ds.length i with
  | none => rw [q] at e; cases e
  | some j =>
    rw [q] at e
    exact l.get e
theorem snd_ix : SndR mg (rIx mg.K) oIx := by
  intro A S H x y dx dy Q Q' R hx hy q k
  cases hy with
  | int i =>
    cases hx with
    | str z =>
      obtain ⟨hz, c, e, q⟩ := q
      exact .inr (.inr ⟨_, _, c, rfl, rfl, hz, e, k _ S A _ H .refl R (.str _) q⟩)
    | @tup a vs ds n r l =>
      unfold oIx at q
      dsimp only at q
      split at q
      · rename_i d e
        obtain ⟨v, e', hv⟩ := l.atI e
        exact .inr (.inl ⟨a, vs, i, v, rfl, rfl, .inl r, e', k d S A v H .refl R hv q⟩)
      · exact q.elim
    | @tupK a vs ds r l =>
      unfold oIx at q
      dsimp only at q
      split at q
      · rename_i d e
        obtain ⟨v, e', hv⟩ := l.atI e
        exact .inr (.inl ⟨a, vs, i, v, rfl, rfl, r _, e', k d S A v H .refl R hv q⟩)
      · exact q.elim
    | @lst a vs ds n r l =>
      unfold oIx at q
      dsimp only at q
      split at q
      · rename_i d e
        obtain ⟨v, e', hv⟩ := l.atI e
        exact .inl ⟨a, vs, i, v, rfl, rfl, .of r, e', k d S A v H .refl R hv q⟩
      · exact q.elim
    | @scr a vs ds n r l =>
      unfold oIx at q
      dsimp only at q
      split at q
      · rename_i d e
        obtain ⟨v, e', hv⟩ := l.atI e
        exact .inl ⟨a, vs, i, v, rfl, rfl, .inl r, e', k d S A v H .refl R hv q⟩
      · exact q.elim
    | @scrK a vs ds r l =>
      unfold oIx at q
      dsimp only at q
      split at q
      · rename_i d e
        obtain ⟨v, e', hv⟩ := l.atI e
        exact .inl ⟨a, vs, i, v, rfl, rfl, r H, e', k d S A v H .refl R hv q⟩
      · exact q.elim
    | @«mut» a m ea =>
      unfold oIx at q
      dsimp only at q
      split at q
      · rename_i ds es
        split at q
        · rename_i d e
          obtain ⟨vs, h1, l⟩ := R.at_ m a (.l ds) ea es
          obtain ⟨v, e', hv⟩ := l.atI e
          exact .inl ⟨a, vs, i, v, rfl, rfl, .of h1, e', k d S A v H .refl R hv q⟩
        · exact q.elim
      · exact q.elim
    | _ => exact q.elim
  | _ => cases hx <;> exact q.elim
end
theorem d_ix {X : Cx} {a b : Expr} {ta tb : TE} {wa wb : WD} {pos : Pos} (ha : PD X a ta wa) (hb : PD X b tb wb) (hs : PlainIx b := by intro _ _; rfl) : PD X (.Subscript a b pos) (tOp (rIx X.G.K) ta tb) (wOp oIx wa wb) := ⟨pe_ix ix_seq ha.pe hb.pe hs, snd_op snd_ix ha.sd hb.sd⟩

/-! ### targets -/
abbrev WG := D → DEnv → MS → (DEnv → MS → Prop) → Prop
abbrev WGs := List D → DEnv → MS → (DEnv → MS → Prop) → Prop
def SndG (mg : MG) (g : TG) (w : WG) : Prop := ∀ A S σ H ρ v d Q Q', Rep mg A S H → EnvD mg A H σ ρ → Is mg A H v d → w d ρ S Q' → EndN mg A H Q Q' → g v σ H Q
def SndGs (mg : MG) (g : TGs) (w : WGs) : Prop := ∀ A S σ H ρ vs ds Q Q', Rep mg A S H → EnvD mg A H σ ρ → IsL mg A H vs ds → w ds ρ S Q' → EndN mg A H Q Q' → g vs σ H Q
structure PDG (X : Cx) (e : Expr) (t : TG) (w : WG) : Prop where
  pe : PG X e t
  sd : SndG X.G t w
structure PDGs (X : Cx) (es : List Expr) (t : TGs) (w : WGs) : Prop where
  pe : PGs X es t
  sd : SndGs X.G t w
def gwName (i : Nat) : WG := fun d ρ S Q => Q (ρ.set i (some d)) S
def gwNil : WGs := fun ds ρ S Q => match ds with
  | [] => Q ρ S
  | _ => False
def gwCons (w : WG) (r : WGs) : WGs := fun ds ρ S Q => match ds with
  | d :: ds => w d ρ S fun ρ1 S1 => r ds ρ1 S1 Q
  | [] => False
def gwTup (n : Nat) (ws : WGs) : WG := fun d ρ S Q => match d with
  | .tup ds => ds.length = n ∧ ws ds ρ S Q
  | _ => False
def gwSub (wo wi : WD) : WG := fun d ρ S Q => wo ρ S fun o S1 => wi ρ S1 fun i S2 => match o, i with
  | .mut m, .int k => ∃ ds j, S2[m]? = some (.l ds) ∧ ixN ds.length k = some j ∧ Q ρ (S2.set m (.l (ds.set j d)))
  | _, _ => False
section
variable {X : Cx} {pos : Pos}
theorem sndg_name {mg : MG} {i : Nat} : SndG mg (gName i) (gwName i) := fun A S σ H ρ v d Q Q' R E hv q k => k _ S A _ H .refl R (E.set i hv) q
theorem dg_name {i : Nat} {x : Str} (hN : X.N.Nodup) (hi : X.N[i]? = some x := by rfl) (hx : Loc X.env.scope x := by first | exact Or.inl rfl | exact Or.inr rfl) (hf : X.fn x = true ∨ X.env.scope.names.lookup x = some .local := by first | exact .inl rfl | exact .inr rfl) : PDG X (.Name x pos) (gName i) (gwName i) :=
  ⟨pg_name hN hi hx hf, sndg_name⟩
theorem dgs_nil : PDGs X [] gNil gwNil := ⟨pgs_nil, fun A S σ H ρ vs ds Q Q' R E hv q k => by
  cases hv with
  | nil => exact ⟨rfl, k _ S A _ H .refl R E q⟩
  | cons _ _ => exact q.elim⟩
theorem dgs_cons {e : Expr} {es : List Expr} {t : TG} {u : TGs} {w : WG} {ws : WGs} (h1 : PDG X e t w) (h2 : PDGs X es u ws)
    (hs : (assignEach (e :: es) X.env).map (·.2) = assign e X.env :: (assignEach es X.env).map (·.2) := by rfl) : PDGs X (e :: es) (gCons t u) (gwCons w ws) := by
  refine ⟨pgs_cons h1.pe h2.pe hs, fun A S σ H ρ vs ds Q Q' R E hv q k => ?_⟩
  cases hv with
  | nil => exact q.elim
  | cons hv tv =>
    refine ⟨_, _, rfl, h1.sd A S σ H ρ _ _ _ _ R E hv q fun ρ1 S1 A1 σ1 H1 g1 R1 E1 q1 => ?_⟩
    exact h2.sd A1 S1 σ1 H1 ρ1 _ _ _ _ R1 E1 (tv.mono g1) q1 (k.mono g1)
theorem dg_tup {es : List Expr} {n0 : Nat} {t : TGs} {ws : WGs} {n : Nat} (hc : X.calm = true) (h : PDGs X es t ws)
    (hn : (assignEach es X.env).length = n := by rfl) (hst : (assignEach es X.env).findIdx? (·.1) = none := by rfl) : PDG X (.Tuple es n0 pos) (gTup X.K n t) (gwTup n ws) := by
  refine ⟨pg_tup hc h.pe hn hst, fun A S σ H ρ v d Q Q' R E hv q k => ?_⟩
  cases hv <;> first | exact q.elim | skip
  rename_i a vs ds na r l
  exact ⟨a, vs, rfl, .inl r, by rw [l.length]; exact q.1, h.sd A S σ H ρ _ _ _ _ R E l q.2 k⟩
theorem dg_sub {o i : Expr} {to ti : TE} {wo wi : WD} (ho : PD X o to wo) (hi : PD X i ti wi)
    (ha : ∀ v, assign (.Subscript o i pos) X.env v = (do
      let ov ← holding [v] (eval o X.env)
      let iv ← holding [v, ov] (eval i X.env)
      standAt pos
      holding [v, ov, iv] (setItem ov iv v)
      release [v, ov, iv] []) := by intro _; rfl) : PDG X (.Subscript o i pos) (gSub to ti rSetL) (gwSub wo wi) := by
  refine ⟨pg_sub ho.pe hi.pe set_list ha, fun A S σ H ρ v d Q Q' R E hv q k => ?_⟩
  refine ho.sd A S σ H ρ _ _ R E q fun o S1 A1 vo H1 g1 R1 hoo q1 => ?_
  refine hi.sd A1 S1 σ H1 ρ _ _ R1 (E.mono g1) q1 fun i S2 A2 vi H2 g2 R2 hi2 q2 => ?_
  have ho2 := hoo.mono g2
  cases ho2 <;> cases hi2 <;> first | exact q2.elim | skip
  rename_i a m ea i
  obtain ⟨ds, j, e1, e2, q2⟩ := q2
  obtain ⟨vs, h1, l⟩ := R2.at_ m a (.l ds) ea e1
  have l2 : IsL X.G A2 H2 (vs.set j v) (ds.set j d) := l.set (hv.mono (g1.trans g2)) j
  refine ⟨a, vs, i, j, rfl, rfl, h1, by rw [l.length]; exact e2, ?_⟩
  have g3 : Grow A A2 H (upd H2 a (.lst (vs.set j v))) := (g1.trans g2).trans (grow_write ea)
  exact k ρ _ A2 σ _ g3 (R2.write ea l2) (E.mono g3) q2
end

/-! ### statements -/
def sNext : WS := fun DD ρ S => DD.nx ρ S
def sSeq (t u : WS) : WS := fun DD ρ S => t { DD with nx := u DD } ρ S
def sBreak : WS := fun DD ρ S => DD.bk ρ S
def sCont : WS := fun DD ρ S => DD.ct ρ S
def sDrop (w : WD) : WS := fun DD ρ S => w ρ S fun _ S1 => DD.nx ρ S1
def sRet (w : WD) : WS := fun DD ρ S => w ρ S DD.rt
def sRetN : WS := fun DD _ S => DD.rt .non S
def sIf (c : WB) (t u : WS) : WS := fun DD ρ S => c ρ S fun b S1 => if b = true then t DD ρ S1 else u DD ρ S1
def sNever : WS := fun _ _ _ => False
def sAsg (w : WD) (g : WG) : WS := fun DD ρ S => w ρ S fun x S1 => g x ρ S1 DD.nx
def sPar (i j : Nat) (wl : WL) : WS := fun DD ρ S => wl ρ S fun ds S1 => match ds with
  | [d, e] => DD.nx ((ρ.set i (some d)).set j (some e)) S1
  | _ => False
def sWhile (c : WB) (b : WS) : WS := fun DD ρ S => ∃ W : Nat → DEnv → MS → Prop, (∃ m, W m ρ S) ∧ ∀ m ρ S, W m ρ S →
  c ρ S fun bl S1 => if bl = true then b { DD with nx := fun ρ' S' => ∃ m', m' < m ∧ W m' ρ' S', ct := fun ρ' S' => ∃ m', m' < m ∧ W m' ρ' S', bk := DD.nx } ρ S1 else DD.nx ρ S1
section
variable {X : Cx} {st : Stmt} {rest : List Stmt} {t u : TS} {w w' : WS} {e : Expr} {te : TE} {we : WD} {pos : Pos}
theorem dss_nil : PDSs X [] tNext sNext := ⟨pss_nil, fun A S σ H ρ D D' R E h k => k.nx ρ S A σ H .refl R E h⟩
theorem dss_cons (h1 : PDS X st t w) (h2 : PDSs X rest u w') : PDSs X (st :: rest) (tSeq t u) (sSeq w w') := by
  refine ⟨pss_cons h1.pe h2.pe, fun A S σ H ρ D D' R E h k => ?_⟩
  refine h1.sd A S σ H ρ _ _ R E h ⟨fun ρ1 S1 A1 σ1 H1 g1 R1 E1 q1 => ?_, k.rt, k.bk, k.ct⟩
  exact h2.sd A1 S1 σ1 H1 ρ1 D D' R1 E1 q1 (k.mono g1)
theorem dss_one (h1 : PDS X st t w) : PDSs X [st] t w := ⟨pss_one h1.pe, h1.sd⟩
theorem ds_pass : PDS X (.Pass pos) tNext sNext := ⟨ps_pass, fun A S σ H ρ D D' R E h k => k.nx ρ S A σ H .refl R E h⟩
theorem ds_break : PDS X (.Break pos) tBreak sBreak := ⟨ps_break, fun A S σ H ρ D D' R E h k => k.bk ρ S A σ H .refl R E h⟩
theorem ds_cont : PDS X (.Continue pos) tCont sCont := ⟨ps_continue, fun A S σ H ρ D D' R E h k => k.ct ρ S A σ H .refl R E h⟩
theorem ds_expr (he : PD X e te we) (hs : swapsWith e none pos.line X.env = pure false := by rfl) : PDS X (.Expr e pos) (tDrop te) (sDrop we) :=
  ⟨ps_expr he.pe hs, fun A S σ H ρ D D' R E h k => he.sd A S σ H ρ _ _ R E h fun d S1 A1 v H1 g1 R1 _ q1 => k.nx ρ S1 A1 σ H1 g1 R1 (E.mono g1) q1⟩
theorem ds_ret (he : PD X e te we) : PDS X (.Return (some e) pos) (tRet te) (sRet we) := ⟨ps_ret he.pe, fun A S σ H ρ D D' R E h k => he.sd A S σ H ρ _ _ R E h k.rt⟩
theorem ds_retN : PDS X (.Return none pos) tRetN sRetN := ⟨ps_retN, fun A S σ H ρ D D' R E h k => k.rt .non S A .non H .refl R .non h⟩
theorem ds_if {c : Expr} {a b : List Stmt} {tc : TT} {wc : WB} (hc : PDT X c tc wc) (ha : PDSs X a t w) (hb : PDSs X b u w') : PDS X (.If c a b pos) (tIfS tc t u) (sIf wc w w') := by
  refine ⟨ps_if hc.pe ha.pe hb.pe, fun A S σ H ρ D D' R E h k => ?_⟩
  refine hc.sd A S σ H ρ _ _ R E h fun b S1 A1 H1 g1 R1 q1 => ?_
  cases b with
  | true => exact iteT (ha.sd A1 S1 σ H1 ρ D D' R1 (E.mono g1) (by rw [if_pos rfl] at q1; exact q1) (k.mono g1))
  | false => exact iteF (hb.sd A1 S1 σ H1 ρ D D' R1 (E.mono g1) (by rw [if_neg Bool.false_ne_true] at q1; exact q1) (k.mono g1))
theorem ds_never : PDS X st tNever sNever := ⟨ps_never, fun _ _ _ _ _ _ _ _ _ h _ => h.elim⟩
theorem dss_never {sts : List Stmt} : PDSs X sts tNever sNever := ⟨pss_never, fun _ _ _ _ _ _ _ _ _ h _ => h.elim⟩
theorem ds_asg {tg : Expr} {g : TG} {wg : WG} (he : PD X e te we) (hg : PDG X tg g wg) (hs : swapsWithSole [tg] e pos.line X.env = pure false := by rfl) (hw : swappedStores [tg] e X.env = pure none := by rfl)
    (h1 : (assignEach [tg] X.env).map (·.2) = [assign tg X.env] := by rfl) : PDS X (.Assign [tg] e pos) (tAsg te g) (sAsg we wg) := by
  refine ⟨ps_asg he.pe hg.pe hs hw h1, fun A S σ H ρ D D' R E h k => ?_⟩
  exact he.sd A S σ H ρ _ _ R E h fun d S1 A1 v H1 g1 R1 hv q1 => hg.sd A1 S1 σ H1 ρ v d _ _ R1 (E.mono g1) hv q1 (k.nx.mono g1)
theorem ds_set {i : Nat} {x : Str} {pos' : Pos} (hN : X.N.Nodup) (he : PD X e te we) (hi : X.N[i]? = some x := by rfl) (hx : Loc X.env.scope x := by first | exact Or.inl rfl | exact Or.inr rfl) (hs : swapsWith e (some (.Name x pos')) pos.line X.env = pure false := by rfl) (hf : X.fn x = true ∨ X.env.scope.names.lookup x = some .local := by first | exact .inl rfl | exact .inr rfl) :
    PDS X (.Assign [.Name x pos'] e pos) (tAsg te (gName i)) (sAsg we (gwName i)) := by
  refine ⟨ps_set hN hi hx he.pe hs hf, fun A S σ H ρ D D' R E h k => ?_⟩
  exact he.sd A S σ H ρ _ _ R E h fun d S1 A1 v H1 g1 R1 hv q1 => sndg_name A1 S1 σ H1 ρ v d _ _ R1 (E.mono g1) hv q1 (k.nx.mono g1)
theorem ds_par {i j : Nat} {x y : Str} {a b : Expr} {ta : TA} {wa : WL} {px py pt : Pos} {kt k2 pt2} (hc : X.calm = true) (hN : X.N.Nodup) (ha : PDA X [a, b] ta wa) (hi : X.N[i]? = some x := by rfl) (hj : X.N[j]? = some y := by rfl) (hij : i ≠ j := by decide)
    (hx : X.env.scope.names.lookup x = some .local := by rfl) (hy : X.env.scope.names.lookup y = some .local := by rfl)
    (hw : swappedStores [.Tuple [.Name x px, .Name y py] kt pt] (.Tuple [a, b] k2 pt2) X.env = pure (some [x, y]) := by rfl)
    (hs : swapsWithSole [.Tuple [.Name x px, .Name y py] kt pt] (.Tuple [a, b] k2 pt2) pos.line X.env = pure false := by rfl) :
    PDS X (.Assign [.Tuple [.Name x px, .Name y py] kt pt] (.Tuple [a, b] k2 pt2) pos) (tPar i j ta) (sPar i j wa) := by
  refine ⟨ps_par hc hN hi hj hij hx hy ha.pe hw hs, fun A S σ H ρ D D' R E h k => ?_⟩
  refine ha.sd A S σ H ρ _ _ R E h fun ds S1 A1 vs H1 g1 R1 hv q1 => ?_
  cases hv with
  | nil => exact q1.elim
  | cons h1 tv =>
    cases tv with
    | nil => exact q1.elim
    | cons h2 tv2 =>
      cases tv2 with
      | cons _ _ => exact q1.elim
      | nil => exact ⟨_, _, rfl, k.nx _ S1 A1 _ H1 g1 R1 (((E.mono g1).set i h1).set j h2) q1⟩
theorem ds_while {c : Expr} {body : List Stmt} {tc : TT} {tb : TS} {wc : WB} {wb : WS} (hp : PassesOwn (model X.prog X.w) X.A X.env X.xe) (hc : PDT X c tc wc) (hb : PDSs X body tb wb) : PDS X (.While c body [] pos) (tWhile tc tb) (sWhile wc wb) := by
  refine ⟨ps_while hp hc.pe hb.pe, fun A S σ H ρ D D' R E h k => ?_⟩
  obtain ⟨W, ⟨m0, w0⟩, turn⟩ := h
  refine ⟨fun m σ1 H1 => ∃ A1 S1 ρ1, Grow A A1 H H1 ∧ Rep X.G A1 S1 H1 ∧ EnvD X.G A1 H1 σ1 ρ1 ∧ W m ρ1 S1, ⟨m0, A, S, ρ, .refl, R, E, w0⟩, ?_⟩
  rintro m σ1 H1 ⟨A1, S1, ρ1, g1, R1, E1, w1⟩
  refine hc.sd A1 S1 σ1 H1 ρ1 _ _ R1 E1 (turn m ρ1 S1 w1) fun b S2 A2 H2 g2 R2 q2 => ?_
  cases b with
  | false => exact iteF (k.nx ρ1 S2 A2 σ1 H2 (g1.trans g2) R2 (E1.mono g2) (by simpa using q2))
  | true =>
    refine iteT ⟨fun σ' H' => ∃ m', m' < m ∧ ∃ A1 S1 ρ1, Grow A A1 H H' ∧ Rep X.G A1 S1 H' ∧ EnvD X.G A1 H' σ' ρ1 ∧ W m' ρ1 S1, fun σ' H' z => z, ?_⟩
    have q2 := (if_pos rfl).mp q2
    have nx : EndN X.G A2 H2 (fun σ' H' => ∃ m', m' < m ∧ ∃ A1 S1 ρ1, Grow A A1 H H' ∧ Rep X.G A1 S1 H' ∧ EnvD X.G A1 H' σ' ρ1 ∧ W m' ρ1 S1) (fun ρ' S' => ∃ m', m' < m ∧ W m' ρ' S') :=
      fun ρ' S' A' σ' H' g' R' E' ⟨m', l, z⟩ => ⟨m', l, A', S', ρ', (g1.trans g2).trans g', R', E', z⟩
    exact hb.sd A2 S2 σ1 H2 ρ1 _ _ R2 (E1.mono g2) q2 ⟨nx, k.rt.mono (g1.trans g2), k.nx.mono (g1.trans g2), nx⟩
end
end DL

set_option Elab.async false
set_option linter.all false
set_option maxRecDepth 100000
/-! Rules: what is walked, for, comprehensions of lists and of dicts. -/
namespace DL
open PySem PySem.Spec PyProof.Rows L2
/-! ### what is walked -/
/-- an iterator gives these items, while ok holds of the store -/
structure Fol (mg : MG) (J : It) (A1 : List Addr) (H1 : Hp) (items : List D) (ok : MS → Prop) : Prop where
  go : ∀ (i : Nat) (d : D) A S H, Grow A1 A H1 H → Rep mg A S H → ok S → items[i]? = some d → J.go i H ∧ ∀ x H', J.yld i H x H' → Grow A A H H' ∧ Rep mg A S H' ∧ Is mg A H' x d
  stop : ∀ A S H, Grow A1 A H1 H → Rep mg A S H → ok S → J.stop items.length H
abbrev WIt := DEnv → MS → (List D → (MS → Prop) → MS → Prop) → Prop
def SndI (mg : MG) (ti : TI) (wi : WIt) : Prop := ∀ A S σ H ρ (Q : It → Hp → Prop) (Q' : List D → (MS → Prop) → MS → Prop), Rep mg A S H → EnvD mg A H σ ρ → wi ρ S Q' →
  (∀ items ok S1 A1 J H1, Grow A A1 H H1 → Rep mg A1 S1 H1 → Fol mg J A1 H1 items ok → Q' items ok S1 → Q J H1) → ti σ H Q
structure PDI (X : Cx) (tg iter : Expr) (t : TI) (w : WIt) : Prop where
  pe : PI X tg iter t
  sd : SndI X.G t w
theorem fol_lst {mg : MG} {A1 : List Addr} {H1 : Hp} {a : Addr} {vs : List V} {ds : List D} (sq : ∀ A2 H2, Grow A1 A2 H1 H2 → SqL mg.K H2 a vs) (l : IsL mg A1 H1 vs ds) : Fol mg (Itl mg.K a) A1 H1 ds fun _ => True := by
  refine ⟨fun i d A S H g R _ e => ?_, fun A S H g R _ => ⟨vs, sq A H g, by rw [l.length]; exact Nat.le_refl _⟩⟩
  obtain ⟨v, h1, h2⟩ := l.get e
  refine ⟨⟨vs, v, sq A H g, h1⟩, fun x H' y => ?_⟩
  obtain ⟨rfl, y⟩ := y
  have := y vs (sq A _ g)
  rw [h1] at this
  cases this
  exact ⟨.refl, R, h2.mono g⟩
theorem fol_tup {mg : MG} {A1 : List Addr} {H1 : Hp} {a : Addr} {vs : List V} {ds : List D} (sq : ∀ A2 H2, Grow A1 A2 H1 H2 → SqT mg.K H2 a vs) (l : IsL mg A1 H1 vs ds) : Fol mg (Itt mg.K a) A1 H1 ds fun _ => True := by
  refine ⟨fun i d A S H g R _ e => ?_, fun A S H g R _ => ⟨vs, sq A H g, by rw [l.length]; exact Nat.le_refl _⟩⟩
  obtain ⟨v, h1, h2⟩ := l.get e
  refine ⟨⟨vs, v, sq A H g, h1⟩, fun x H' y => ?_⟩
  obtain ⟨rfl, y⟩ := y
  have := y vs (sq A _ g)
  rw [h1] at this
  cases this
  exact ⟨.refl, R, h2.mono g⟩
theorem fol_mut {mg : MG} {A1 : List Addr} {H1 : Hp} {a : Addr} {m : Nat} {ds : List D} (ea : A1[m]? = some a) : Fol mg (Itl mg.K a) A1 H1 ds fun S2 => S2[m]? = some (.l ds) := by
  refine ⟨fun i d A S H g R ok e => ?_, fun A S H g R ok => ?_⟩
  · obtain ⟨vs, hv, l⟩ := R.at_ m a (.l ds) (g.pre _ _ ea) ok
    obtain ⟨v, h1, h2⟩ := l.get e
    refine ⟨⟨vs, v, .of hv, h1⟩, fun x H' y => ?_⟩
    obtain ⟨rfl, y⟩ := y
    have := y vs (.of hv)
    rw [h1] at this
    cases this
    exact ⟨.refl, R, h2⟩
  · obtain ⟨vs, hv, l⟩ := R.at_ m a (.l ds) (g.pre _ _ ea) ok
    exact ⟨vs, .of hv, by rw [l.length]; exact Nat.le_refl _⟩
/-- a list's items -/
def wiL (we : WD) : WIt := fun ρ S Q => we ρ S fun d S1 => match d with
  | .lst ds => Q ds (fun _ => True) S1
  | .scr ds => Q ds (fun _ => True) S1
  | .mut m => ∃ ds, S1[m]? = some (.l ds) ∧ Q ds (fun S2 => S2[m]? = some (.l ds)) S1
  | _ => False
/-- a tuple's items -/
def wiT (we : WD) : WIt := fun ρ S Q => we ρ S fun d S1 => match d with
  | .tup ds => Q ds (fun _ => True) S1
  | .tpk ds => Q ds (fun _ => True) S1
  | _ => False
def rangeD (lo : Int) (n : Nat) : List D := (List.range n).map fun i : Nat => .int (lo + i)
def wiR (wl : WL) : WIt := fun ρ S Q => wl ρ S fun ds S1 => match ds with
  | [.int j] => (-(2 ^ 62) ≤ j ∧ j < 2 ^ 62) ∧ Q (rangeD 0 j.toNat) (fun _ => True) S1
  | _ => False
def wiR2 (wl : WL) : WIt := fun ρ S Q => wl ρ S fun ds S1 => match ds with
  | [.int i, .int j] => (-(2 ^ 62) ≤ i ∧ i < 2 ^ 62 ∧ -(2 ^ 62) ≤ j ∧ j < 2 ^ 62) ∧ Q (rangeD i (j - i).toNat) (fun _ => True) S1
  | _ => False
theorem fol_range {mg : MG} {A1 : List Addr} {H1 : Hp} {lo : Int} {n : Nat} : Fol mg (Itr lo n) A1 H1 (rangeD lo n) fun _ => True := by
  refine ⟨fun i d A S H g R _ e => ?_, fun A S H g R _ => by show n ≤ (rangeD lo n).length; unfold rangeD; simp⟩
  have hl := (List.getElem?_eq_some_iff.mp e).1
  unfold rangeD at hl e
  rw [List.length_map, List.length_range] at hl
  rw [List.getElem?_map, List.getElem?_range hl] at e
  cases e
  exact ⟨hl, fun x H' ⟨h1, h2⟩ => by subst h1 h2; exact ⟨.refl, R, .int _⟩⟩
section
variable {X : Cx} {tg e : Expr} {te : TE} {we : WD}
theorem ii_list (he : PD X e te we) : PDI X tg e (iList X.K te) (wiL we) := by
  refine ⟨pi_list he.pe, fun A S σ H ρ Q Q' R E h k => ?_⟩
  refine he.sd A S σ H ρ _ _ R E h fun d S1 A1 v H1 g1 R1 hv q1 => ?_
  cases hv with
  | @lst a vs ds na r l => exact ⟨a, rfl, ⟨vs, .of r⟩, k _ _ S1 A1 _ H1 g1 R1 (fol_lst (mg := X.G) (fun A2 H2 g => .of (g.keep _ _ na r).1) l) q1⟩
  | @scr a vs ds na r l => exact ⟨a, rfl, ⟨vs, .inl r⟩, k _ _ S1 A1 _ H1 g1 R1 (fol_lst (mg := X.G) (fun A2 H2 g => .inl (g.rd na r).2) l) q1⟩
  | @scrK a vs ds r l => exact ⟨a, rfl, ⟨vs, r _⟩, k _ _ S1 A1 _ H1 g1 R1 (fol_lst (mg := X.G) (fun A2 H2 g => r H2) l) q1⟩
  | @«mut» a m ea =>
    obtain ⟨ds, es, q1⟩ := q1
    obtain ⟨vs, h1, l⟩ := R1.at_ m a (.l ds) ea es
    exact ⟨a, rfl, ⟨vs, .of h1⟩, k _ _ S1 A1 _ H1 g1 R1 (fol_mut (mg := X.G) ea) q1⟩
  | _ => exact q1.elim
theorem ii_tup (he : PD X e te we) : PDI X tg e (iTup X.K te) (wiT we) := by
  refine ⟨pi_tup he.pe, fun A S σ H ρ Q Q' R E h k => ?_⟩
  refine he.sd A S σ H ρ _ _ R E h fun d S1 A1 v H1 g1 R1 hv q1 => ?_
  cases hv with
  | @tup a vs ds na r l => exact ⟨a, rfl, ⟨vs, .inl r⟩, k _ _ S1 A1 _ H1 g1 R1 (fol_tup (mg := X.G) (fun A2 H2 g => .inl (g.rd na r).2) l) q1⟩
  | @tupK a vs ds r l => exact ⟨a, rfl, ⟨vs, r _⟩, k _ _ S1 A1 _ H1 g1 R1 (fol_tup (mg := X.G) (fun A2 H2 g => r _) l) q1⟩
  | _ => exact q1.elim
theorem ii_range {a : Expr} {p pos2 : Pos} {ta : TA} {wa : WL} (hm : X.mg "range" = none) (ha : PDA X [a] ta wa) (hgl : Gl X "range" := by rfl) (hst : starEach [a] X.env = [(false, eval a X.env)] := by rfl) : PDI X tg (.Call (.Name "range" p) [a] [] pos2) (iRng1 ta) (wiR wa) := by
  refine ⟨pi_range1 hgl hm ha.pe hst, fun A S σ H ρ Q Q' R E h k => ?_⟩
  refine ha.sd A S σ H ρ _ _ R E h fun ds S1 A1 vs H1 g1 R1 hv q1 => ?_
  cases hv with
  | nil => exact q1.elim
  | cons h1 tv =>
    cases tv with
    | cons _ _ => cases h1 <;> exact q1.elim
    | nil =>
      cases h1 <;> first | exact q1.elim | skip
      rename_i j
      exact ⟨j, rfl, q1.1.1, q1.1.2, k _ _ S1 A1 _ H1 g1 R1 fol_range q1.2⟩
theorem ii_range2 {a b : Expr} {p pos2 : Pos} {ta : TA} {wa : WL} (hm : X.mg "range" = none) (ha : PDA X [a, b] ta wa) (hgl : Gl X "range" := by rfl) (hst : starEach [a, b] X.env = [(false, eval a X.env), (false, eval b X.env)] := by rfl) (hs2 : starEach [b] X.env = [(false, eval b X.env)] := by rfl) :
    PDI X tg (.Call (.Name "range" p) [a, b] [] pos2) (iRng2 ta) (wiR2 wa) := by
  refine ⟨pi_range2 hgl hm ha.pe hst hs2, fun A S σ H ρ Q Q' R E h k => ?_⟩
  refine ha.sd A S σ H ρ _ _ R E h fun ds S1 A1 vs H1 g1 R1 hv q1 => ?_
  match ds, q1, hv with
  | [.int i, .int j], q1, .cons h1 (.cons h2 .nil) =>
    cases h1; cases h2
    exact ⟨i, j, rfl, q1.1, k _ _ S1 A1 _ H1 g1 R1 fol_range q1.2⟩
end
/-! ### for -/
def forO (ok : MS → Prop) : List D → (D → DEnv → MS → (DEnv → MS → Prop) → Prop) → (DEnv → MS → Prop) → DEnv → MS → Prop
  | [], _, fin, ρ, S => ok S ∧ fin ρ S
  | d :: ds, step, fin, ρ, S => ok S ∧ step d ρ S fun ρ' S' => forO ok ds step fin ρ' S'
def forStep (wg : WG) (wb : WS) (DD : DEnds) : D → DEnv → MS → (DEnv → MS → Prop) → Prop := fun d ρ S nx => wg d ρ S fun ρ1 S1 => wb { DD with nx := nx, ct := nx, bk := DD.nx } ρ1 S1
def sForI (wi : WIt) (wg : WG) (wb : WS) : WS := fun DD ρ S => wi ρ S fun items ok S1 => forO ok items (forStep wg wb DD) DD.nx ρ S1
theorem forO_ok {ok : MS → Prop} {ds : List D} {step : D → DEnv → MS → (DEnv → MS → Prop) → Prop} {fin : DEnv → MS → Prop} {ρ : DEnv} {S : MS} (h : forO ok ds step fin ρ S) : ok S := by
  cases ds with
  | nil => exact h.1
  | cons _ _ => exact h.1
section
variable {X : Cx} {pos : Pos} {iter : Expr} {body : List Stmt} {tg : Expr} {g : TG} {wg : WG} {tb : TS} {wb : WS} {ti : TI} {wi : WIt}
theorem ds_for (hp : PassesOwn (model X.prog X.w) X.A X.env X.xe) (hc : X.calm = true) (hi : PDI X tg iter ti wi) (hg : PDG X tg g wg) (hb : PDSs X body tb wb)
    (hs : ∀ x, foldedSetIterable iter X.env x = pure x := by intro _; rfl) : PDS X (.For tg iter body [] pos) (tFor ti g tb) (sForI wi wg wb) := by
  refine ⟨ps_for hp hc hi.pe hg.pe hb.pe hs, fun A S σ H ρ D D' R E h k => ?_⟩
  refine hi.sd A S σ H ρ _ _ R E h fun ds ok S1 A1 J H1 g1 R1 fol q1 => ?_
  refine ⟨fun i mm σ2 H2 => mm = ds.length - i ∧ i ≤ ds.length ∧ ∃ A2 S2 ρ2, Grow A1 A2 H1 H2 ∧ Rep X.G A2 S2 H2 ∧ EnvD X.G A2 H2 σ2 ρ2 ∧ forO ok (ds.drop i) (forStep wg wb D') D'.nx ρ2 S2, ⟨ds.length, by simp, Nat.zero_le _, A1, S1, ρ, .refl, R1, E.mono g1, q1⟩, ?_⟩
  rintro i mm σ2 H2 ⟨rfl, hle, A2, S2, ρ2, g2, R2, E2, q2⟩
  have hok := forO_ok q2
  by_cases hlt : i < ds.length
  · rw [List.drop_eq_getElem_cons hlt] at q2
    obtain ⟨f1, f2⟩ := fol.go i ds[i] A2 S2 H2 g2 R2 hok (List.getElem?_eq_getElem hlt)
    refine .inr ⟨f1, fun σ' H' => ∃ A2 S2 ρ2, Grow A1 A2 H1 H' ∧ Rep X.G A2 S2 H' ∧ EnvD X.G A2 H' σ' ρ2 ∧ forO ok (ds.drop (i + 1)) (forStep wg wb D') D'.nx ρ2 S2, fun σ' H' z => ⟨ds.length - (i + 1), by omega, rfl, hlt, z⟩, fun x H' y => ?_⟩
    obtain ⟨gy, Ry, hx⟩ := f2 x H' y
    refine hg.sd A2 S2 σ2 H' ρ2 x _ _ _ Ry (E2.mono gy) hx q2.2 fun ρ3 S3 A3 σ3 H3 g3 R3 E3 q3 => ?_
    have nx : EndN X.G A3 H3 (fun σ2 H2 => ∃ A2 S2 ρ2, Grow A1 A2 H1 H2 ∧ Rep X.G A2 S2 H2 ∧ EnvD X.G A2 H2 σ2 ρ2 ∧ forO ok (ds.drop (i + 1)) (forStep wg wb D') D'.nx ρ2 S2) (fun ρ' S' => forO ok (ds.drop (i + 1)) (forStep wg wb D') D'.nx ρ' S') :=
      fun ρ' S' A' σ' H' g' R' E' z => ⟨A', S', ρ', ((g2.trans gy).trans g3).trans g', R', E', z⟩
    have kk := k.mono (g1.trans ((g2.trans gy).trans g3))
    exact hb.sd A3 S3 σ3 H3 ρ3 _ _ R3 E3 q3 ⟨nx, kk.rt, kk.nx, nx⟩
  · have e : i = ds.length := by omega
    subst e
    rw [List.drop_length] at q2
    exact .inl ⟨fol.stop A2 S2 H2 g2 R2 hok, k.nx ρ2 S2 A2 σ2 H2 (g1.trans g2) R2 E2 q2.2⟩
end

/-! ### comprehensions: what is made is an object that may change -/
def wYes : WB := fun _ S Q => Q true S
def wipeD (ρ : DEnv) : List Nat → DEnv
  | [] => ρ
  | v :: vs => (wipeD ρ vs).set v none
def lcStep (m : Nat) (vs : List Nat) (wg : WG) (wt : WB) (we : WD) (ρ : DEnv) : D → MS → (MS → Prop) → Prop := fun d S k => wg d (wipeD ρ vs) S fun ρ2 S2 => wt ρ2 S2 fun b S3 =>
  if b = true then we ρ2 S3 fun y S4 => ∃ acc, S4[m]? = some (.l acc) ∧ acc.length < sizeLine ∧ k (S4.set m (.l (acc ++ [y]))) else k S3
def keyD : Key → D
  | .inl i => .int i
  | .inr x => .str x
def putD (kvs : List (Key × D)) (k : Key) (v : D) : List (Key × D) :=
  if (kvs.any fun kv => decide (kv.1 = k)) = true then kvs.map (fun kv => if kv.1 = k then (kv.1, v) else kv) else kvs ++ [(k, v)]
def dcStep (m : Nat) (vs : List Nat) (wg : WG) (wt : WB) (wk wv : WD) (ρ : DEnv) : D → MS → (MS → Prop) → Prop := fun d S k => wg d (wipeD ρ vs) S fun ρ2 S2 => wt ρ2 S2 fun b S3 =>
  if b = true then wk ρ2 S3 fun y S4 => wv ρ2 S4 fun z S5 => ∃ kvs key, y = keyD key ∧ S5[m]? = some (.d kvs) ∧ kvs.length < sizeLine ∧ k (S5.set m (.d (putD kvs key z))) else k S3
def lcO (ok : MS → Prop) : List D → (D → MS → (MS → Prop) → Prop) → (MS → Prop) → MS → Prop
  | [], _, fin, S => ok S ∧ fin S
  | d :: ds, step, fin, S => ok S ∧ step d S fun S' => lcO ok ds step fin S'
theorem lcO_ok {ok : MS → Prop} {ds : List D} {step : D → MS → (MS → Prop) → Prop} {fin : MS → Prop} {S : MS} (h : lcO ok ds step fin S) : ok S := by
  cases ds with
  | nil => exact h.1
  | cons _ _ => exact h.1
def wLcI (wi : WIt) (vs : List Nat) (wg : WG) (wt : WB) (we : WD) : WD := fun ρ S Q => wi ρ S fun items ok S1 => lcO ok items (lcStep S1.length vs wg wt we ρ) (fun S' => Q (.mut S1.length) S') (S1 ++ [.l []])
def wDcI (wi : WIt) (vs : List Nat) (wg : WG) (wt : WB) (wk wv : WD) : WD := fun ρ S Q => wi ρ S fun items ok S1 => lcO ok items (dcStep S1.length vs wg wt wk wv ρ) (fun S' => Q (.mut S1.length) S') (S1 ++ [.d []])
/-- which targets a comprehension has: its own names alone -/
structure GOwn (vs : List Nat) (g : TG) : Prop where
  own : ∀ (v : V) (σ : L2.St) (H : Hp) (Q : L2.St → Hp → Prop), g v σ H Q → g v σ H fun σ2 H2 => wipe σ2 vs = wipe σ vs ∧ Q σ2 H2
theorem wipe_set_own {σ : L2.St} {i : Nat} {x : Option V} : ∀ {vs : List Nat}, i ∈ vs → wipe (σ.set i x) vs = wipe σ vs
  | [], h => by cases h
  | v :: vs, h => by
    unfold wipe
    by_cases hi : i ∈ vs
    · rw [wipe_set_own hi]
    · have e : i = v := by
        rcases List.mem_cons.mp h with h | h
        · exact h
        · exact absurd h hi
      subst e
      have : ∀ (vs : List Nat), i ∉ vs → wipe (σ.set i x) vs = (wipe σ vs).set i x := by
        intro vs
        induction vs with
        | nil => intro _; rfl
        | cons w ws ih =>
          intro hn
          unfold wipe
          rw [ih (fun z => hn (List.mem_cons_of_mem _ z)), List.set_comm _ _ (fun z => hn (by rw [z]; exact List.mem_cons_self))]
      rw [this vs hi, List.set_set]
theorem gown_name {i : Nat} {vs : List Nat} (h : i ∈ vs) : GOwn vs (gName i) := ⟨fun v σ H Q q => ⟨wipe_set_own h, q⟩⟩
theorem gown_two {K : PySem.W.Frag} {n i j : Nat} {vs : List Nat} (hi : i ∈ vs) (hj : j ∈ vs) : GOwn vs (gTup K n (gCons (gName i) (gCons (gName j) gNil))) := ⟨fun v σ H Q q => by
  obtain ⟨a, xs, e, h1, h2, x, r, e1, y, r2, e2, e3, q⟩ := q
  exact ⟨a, xs, e, h1, h2, x, r, e1, y, r2, e2, e3, by rw [wipe_set_own hj, wipe_set_own hi], q⟩⟩
theorem EnvD.wipe {mg : MG} {A : List Addr} {H : Hp} {σ : L2.St} {ρ : DEnv} (e : EnvD mg A H σ ρ) : ∀ vs : List Nat, EnvD mg A H (L2.wipe σ vs) (wipeD ρ vs)
  | [] => e
  | v :: vs => by
    have ih := EnvD.wipe e vs
    unfold L2.wipe wipeD
    refine ⟨by simp [ih.len], fun i d h => ?_⟩
    by_cases hi : v = i
    · subst hi
      by_cases hl : v < (wipeD ρ vs).length
      · rw [List.getElem?_set_self hl] at h; cases h
      · rw [List.getElem?_eq_none (by simp; omega)] at h; cases h
    · rw [List.getElem?_set_ne hi] at h ⊢
      exact ih.at_ i d h
section
variable {X : Cx} {elt kx vx tg iter : Expr} {ifs : List Expr} {scope : Scope} {own : List (Str × Nat)} {pos : Pos} {g : TG} {wg : WG} {tt : TT} {wt : WB} {te : TE} {we : WD}
structure PDTs (X : Cx) (ifs : List Expr) (t : TT) (w : WB) : Prop where
  pe : PTs X ifs t
  sd : SndT X.G t w
theorem dts_nil : PDTs X [] tYes wYes := ⟨pts_nil, fun A S σ H ρ Q Q' R E h k => k true S A H .refl R h⟩
theorem dts_one {c : Expr} {t : TT} {w : WB} (h : PDT X c t w) : PDTs X [c] t w := ⟨pts_one h.pe, h.sd⟩
/-- one turn -/
theorem lc_turn {mg : MG} {vs : List Nat} (sg : SndG mg g wg) (st : SndT mg tt wt) (se : SndE mg te we) (go : GOwn vs g) {A : List Addr} {S : MS} {H : Hp} {σ : L2.St} {ρ : DEnv} {x : V} {d : D} {m : Nat} {Dl : Addr} {k : MS → Prop} {Nx : Hp → Prop}
    (R : Rep mg A S H) (E : EnvD mg A H σ ρ) (hx : Is mg A H x d) (hm : A[m]? = some Dl) (q : lcStep m vs wg wt we ρ d S k) (hk : ∀ S' A' H', Grow A A' H H' → Rep mg A' S' H' → k S' → Nx H') :
    g x (wipe σ vs) H fun σ2 H2 => wipe σ2 vs = wipe σ vs ∧ tt σ2 H2 fun b H3 => if b = true then te σ2 H3 fun y H4 => ∃ acc, H4 Dl = some (.lst acc) ∧ acc.length < sizeLine ∧ Nx (upd H4 Dl (.lst (acc ++ [y]))) else Nx H3 := by
  have ww : wipe (wipe σ vs) vs = wipe σ vs := by
    have : ∀ (us : List Nat), (∀ u ∈ us, u ∈ vs) → wipe (wipe σ us) vs = wipe σ vs := by
      intro us
      induction us with
      | nil => intro _; rfl
      | cons u us ih =>
        intro hu
        show wipe ((wipe σ us).set u none) vs = _
        rw [wipe_set_own (hu u List.mem_cons_self), ih fun z hz => hu z (List.mem_cons_of_mem _ hz)]
    exact this vs fun _ h => h
  have h1 := sg A S (wipe σ vs) H (wipeD ρ vs) x d (fun σ2 H2 => tt σ2 H2 fun b H3 => if b = true then te σ2 H3 fun y H4 => ∃ acc, H4 Dl = some (.lst acc) ∧ acc.length < sizeLine ∧ Nx (upd H4 Dl (.lst (acc ++ [y]))) else Nx H3) _ R (E.wipe vs) hx q fun ρ2 S2 A2 σ2 H2 g2 R2 E2 q2 => ?_
  · have h2 := go.own _ _ _ _ h1
    rw [ww] at h2
    exact h2
  · refine st A2 S2 σ2 H2 ρ2 _ _ R2 E2 q2 fun b S3 A3 H3 g3 R3 q3 => ?_
    cases b with
    | false => exact iteF (hk S3 A3 H3 (g2.trans g3) R3 (by simpa using q3))
    | true =>
      refine iteT ?_
      have q3 := (if_pos rfl).mp q3
      refine se A3 S3 σ2 H3 ρ2 _ _ R3 (E2.mono g3) q3 fun y S4 A4 vy H4 g4 R4 hy q4 => ?_
      obtain ⟨acc, e1, hz, q5⟩ := q4
      have hm4 : A4[m]? = some Dl := g4.pre _ _ (g3.pre _ _ (g2.pre _ _ hm))
      obtain ⟨ws, h5, l5⟩ := R4.at_ m Dl (.l acc) hm4 e1
      refine ⟨ws, h5, by rw [l5.length]; exact hz, ?_⟩
      have gw := grow_write (H := H4) (o := .lst (ws ++ [vy])) hm4
      exact hk _ A4 _ ((g2.trans (g3.trans g4)).trans gw) (R4.write hm4 (l5.append (.cons hy .nil))) q5
end

section
variable {mg : MG} {A A' : List Addr} {S : MS} {H H' : Hp}
theorem IsK.append : ∀ {as bs : List (Key × V)} {cs ds : List (Key × D)}, IsK mg A H as cs → IsK mg A H bs ds → IsK mg A H (as ++ bs) (cs ++ ds)
  | _, _, _, _, .nil, q => q
  | _, _, _, _, .cons h t, q => .cons h (t.append q)
theorem IsK.any (k : Key) : ∀ {as : List (Key × V)} {cs : List (Key × D)}, IsK mg A H as cs → (as.any fun kv => decide (kv.1 = k)) = cs.any fun kv => decide (kv.1 = k)
  | _, _, .nil => rfl
  | _, _, .cons _ t => by rw [List.any_cons, List.any_cons, t.any k]
theorem IsK.upd {k : Key} {v : V} {d : D} (h : Is mg A H v d) : ∀ {as : List (Key × V)} {cs : List (Key × D)}, IsK mg A H as cs →
    IsK mg A H (as.map fun kv => if kv.1 = k then (kv.1, v) else kv) (cs.map fun kv => if kv.1 = k then (kv.1, d) else kv)
  | _, _, .nil => .nil
  | _, _, .cons (f := f) h0 t => by
    rw [List.map_cons, List.map_cons]
    by_cases e : f = k
    · rw [if_pos e, if_pos e]; exact .cons h (t.upd h)
    · rw [if_neg e, if_neg e]; exact .cons h0 (t.upd h)
theorem IsK.put {k : Key} {v : V} {d : D} {as : List (Key × V)} {cs : List (Key × D)} (l : IsK mg A H as cs) (h : Is mg A H v d) : IsK mg A H (L2.putK as k v) (putD cs k d) := by
  unfold L2.putK putD
  rw [l.any k]
  split
  · exact l.upd h
  · exact l.append (.cons h .nil)
theorem IsK.length : ∀ {as : List (Key × V)} {cs : List (Key × D)}, IsK mg A H as cs → as.length = cs.length
  | _, _, .nil => rfl
  | _, _, .cons _ t => congrArg Nat.succ t.length
theorem is_key {k : Key} {v : V} (h : Is mg A H v (keyD k)) : v = kV k := by
  cases k with
  | inl i => cases h; rfl
  | inr x => cases h; rfl
end
section
variable {X : Cx} {elt kx vx tg iter : Expr} {ifs : List Expr} {scope : Scope} {own : List (Str × Nat)} {pos : Pos} {g : TG} {wg : WG} {tt : TT} {wt : WB} {te tk tv : TE} {we wk wv : WD} {ti : TI} {wi : WIt}
theorem dc_turn {mg : MG} {vs : List Nat} (sg : SndG mg g wg) (st : SndT mg tt wt) (sk : SndE mg tk wk) (sv : SndE mg tv wv) (go : GOwn vs g) {A : List Addr} {S : MS} {H : Hp} {σ : L2.St} {ρ : DEnv} {x : V} {d : D} {m : Nat} {Dl : Addr} {k : MS → Prop} {Nx : Hp → Prop}
    (R : Rep mg A S H) (E : EnvD mg A H σ ρ) (hx : Is mg A H x d) (hm : A[m]? = some Dl) (q : dcStep m vs wg wt wk wv ρ d S k) (hk : ∀ S' A' H', Grow A A' H H' → Rep mg A' S' H' → k S' → Nx H') :
    g x (wipe σ vs) H fun σ2 H2 => wipe σ2 vs = wipe σ vs ∧ tt σ2 H2 fun b H3 => if b = true then tk σ2 H3 fun y H4 => tv σ2 H4 fun z H5 => ∃ kvs k, y = kV k ∧ H5 Dl = some (.dK kvs) ∧ kvs.length < sizeLine ∧ Nx (upd H5 Dl (.dK (putK kvs k z))) else Nx H3 := by
  have ww : wipe (wipe σ vs) vs = wipe σ vs := by
    have : ∀ (us : List Nat), (∀ u ∈ us, u ∈ vs) → wipe (wipe σ us) vs = wipe σ vs := by
      intro us
      induction us with
      | nil => intro _; rfl
      | cons u us ih =>
        intro hu
        show wipe ((wipe σ us).set u none) vs = _
        rw [wipe_set_own (hu u List.mem_cons_self), ih fun z hz => hu z (List.mem_cons_of_mem _ hz)]
    exact this vs fun _ h => h
  have h1 := sg A S (wipe σ vs) H (wipeD ρ vs) x d (fun σ2 H2 => tt σ2 H2 fun b H3 => if b = true then tk σ2 H3 fun y H4 => tv σ2 H4 fun z H5 => ∃ kvs k, y = kV k ∧ H5 Dl = some (.dK kvs) ∧ kvs.length < sizeLine ∧ Nx (upd H5 Dl (.dK (putK kvs k z))) else Nx H3) _ R (E.wipe vs) hx q fun ρ2 S2 A2 σ2 H2 g2 R2 E2 q2 => ?_
  · have h2 := go.own _ _ _ _ h1
    rw [ww] at h2
    exact h2
  · refine st A2 S2 σ2 H2 ρ2 _ _ R2 E2 q2 fun b S3 A3 H3 g3 R3 q3 => ?_
    cases b with
    | false => exact iteF (hk S3 A3 H3 (g2.trans g3) R3 (by simpa using q3))
    | true =>
      refine iteT ?_
      have q3 := (if_pos rfl).mp q3
      refine sk A3 S3 σ2 H3 ρ2 _ _ R3 (E2.mono g3) q3 fun y S4 A4 vy H4 g4 R4 hy q4 => ?_
      refine sv A4 S4 σ2 H4 ρ2 _ _ R4 (E2.mono (g3.trans g4)) q4 fun z S5 A5 vz H5 g5 R5 hz q5 => ?_
      obtain ⟨kds, key, rfl, e1, hl, q6⟩ := q5
      have hm5 : A5[m]? = some Dl := g5.pre _ _ (g4.pre _ _ (g3.pre _ _ (g2.pre _ _ hm)))
      obtain ⟨kvs, h5, l5⟩ := R5.at_ m Dl (.d kds) hm5 e1
      refine ⟨kvs, key, is_key (hy.mono g5), h5, by rw [l5.length]; exact hl, ?_⟩
      have gw := grow_write (H := H5) (o := .dK (putK kvs key vz)) hm5
      exact hk _ A5 _ ((g2.trans (g3.trans (g4.trans g5))).trans gw) (R5.writeD hm5 (l5.put hz)) q6
theorem d_lcI (hc : X.calm = true) (hN : X.N.Nodup) (hi : PDI X tg iter ti wi) (ok : BlkOk X.N X.env.scope scope own) (go : GOwn (own.map (·.2)) g)
    (hg : ∀ (s : Shared) (H : Hp) (C : Addr) (cl : List (Str × Addr)) (fp : List Addr), PDG (X.blk s H scope (compEnvC scope cl C X.env) fp) tg g wg) (ht : ∀ (s : Shared) (H : Hp) (C : Addr) (cl : List (Str × Addr)) (fp : List Addr), PDTs (X.blk s H scope (compEnvC scope cl C X.env) fp) ifs tt wt)
    (he : ∀ (s : Shared) (H : Hp) (C : Addr) (cl : List (Str × Addr)) (fp : List Addr), PD (X.blk s H scope (compEnvC scope cl C X.env) fp) elt te we) (hs : ∀ x, foldedSetIterable iter X.env x = pure x := by intro _; rfl) :
    PD X (.ListComp elt [⟨tg, iter, ifs, 0⟩] scope pos) (tLc ti g tt te (own.map (·.2))) (wLcI wi (own.map (·.2)) wg wt we) := by
  refine ⟨pe_lc hc hN hi.pe ok (fun s H C cl fp => (hg s H C cl fp).pe) (fun s H C cl fp => (ht s H C cl fp).pe) (fun s H C cl fp => (he s H C cl fp).pe) hs, fun A S σ H ρ Q Q' R E h k => ?_⟩
  have sg : SndG X.G g wg := (hg X.s_0 X.H_0 0 [] []).sd
  have st : SndT X.G tt wt := (ht X.s_0 X.H_0 0 [] []).sd
  have se : SndE X.G te we := (he X.s_0 X.H_0 0 [] []).sd
  refine hi.sd A S σ H ρ _ _ R E h fun ds ok S1 A1 J H1 g1 R1 fol q1 => fun Dl hD => ?_
  have gD := grow_mut (o := .lst []) R1 hD
  have RD := R1.newMut hD (vs := []) (ds := []) .nil
  have hm : (A1 ++ [Dl])[S1.length]? = some Dl := by rw [← R1.len, List.getElem?_append_right (Nat.le_refl _), Nat.sub_self]; rfl
  refine ⟨fun i mm H2 => mm = ds.length - i ∧ i ≤ ds.length ∧ ∃ A2 S2, Grow (A1 ++ [Dl]) A2 (upd H1 Dl (.lst [])) H2 ∧ Rep X.G A2 S2 H2 ∧ lcO ok (ds.drop i) (lcStep S1.length (own.map (·.2)) wg wt we ρ) (fun S' => Q' (.mut S1.length) S') S2, ⟨ds.length, by simp, Nat.zero_le _, A1 ++ [Dl], _, .refl, RD, q1⟩, ?_⟩
  rintro i mm H2 ⟨rfl, hle, A2, S2, g2, R2, q2⟩
  have hok := lcO_ok q2
  by_cases hlt : i < ds.length
  · rw [List.drop_eq_getElem_cons hlt] at q2
    obtain ⟨f1, f2⟩ := fol.go i ds[i] A2 S2 H2 (gD.trans g2) R2 hok (List.getElem?_eq_getElem hlt)
    refine .inr ⟨f1, fun H' => ∃ A2 S2, Grow (A1 ++ [Dl]) A2 (upd H1 Dl (.lst [])) H' ∧ Rep X.G A2 S2 H' ∧ lcO ok (ds.drop (i + 1)) (lcStep S1.length (own.map (·.2)) wg wt we ρ) (fun S' => Q' (.mut S1.length) S') S2, fun H' z => ⟨ds.length - (i + 1), by omega, rfl, hlt, z⟩, fun x H' y => ?_⟩
    obtain ⟨gy, Ry, hx⟩ := f2 x H' y
    exact lc_turn sg st se go Ry (E.mono (g1.trans (gD.trans (g2.trans gy)))) hx (g2.pre _ _ hm) q2.2 fun S' A' H' g' R' z => ⟨A', S', (g2.trans gy).trans g', R', z⟩
  · have e : i = ds.length := by omega
    subst e
    rw [List.drop_length] at q2
    exact .inl ⟨fol.stop A2 S2 H2 (gD.trans g2) R2 hok, k _ S2 A2 _ H2 (g1.trans (gD.trans g2)) R2 (.mut (g2.pre _ _ hm)) q2.2⟩
theorem d_dcI (hc : X.calm = true) (hN : X.N.Nodup) (hi : PDI X tg iter ti wi) (ok : BlkOk X.N X.env.scope scope own) (go : GOwn (own.map (·.2)) g)
    (hg : ∀ (s : Shared) (H : Hp) (C : Addr) (cl : List (Str × Addr)) (fp : List Addr), PDG (X.blk s H scope (compEnvC scope cl C X.env) fp) tg g wg) (ht : ∀ (s : Shared) (H : Hp) (C : Addr) (cl : List (Str × Addr)) (fp : List Addr), PDTs (X.blk s H scope (compEnvC scope cl C X.env) fp) ifs tt wt)
    (hk : ∀ (s : Shared) (H : Hp) (C : Addr) (cl : List (Str × Addr)) (fp : List Addr), PD (X.blk s H scope (compEnvC scope cl C X.env) fp) kx tk wk)
    (he : ∀ (s : Shared) (H : Hp) (C : Addr) (cl : List (Str × Addr)) (fp : List Addr), PD (X.blk s H scope (compEnvC scope cl C X.env) fp) vx tv wv) (hs : ∀ x, foldedSetIterable iter X.env x = pure x := by intro _; rfl) :
    PD X (.DictComp kx vx [⟨tg, iter, ifs, 0⟩] scope pos) (tDc ti g tt tk tv (own.map (·.2))) (wDcI wi (own.map (·.2)) wg wt wk wv) := by
  refine ⟨pe_dc hc hN hi.pe ok (fun s H C cl fp => (hg s H C cl fp).pe) (fun s H C cl fp => (ht s H C cl fp).pe) (fun s H C cl fp => (hk s H C cl fp).pe) (fun s H C cl fp => (he s H C cl fp).pe) hs, fun A S σ H ρ Q Q' R E h k => ?_⟩
  have sg : SndG X.G g wg := (hg X.s_0 X.H_0 0 [] []).sd
  have st : SndT X.G tt wt := (ht X.s_0 X.H_0 0 [] []).sd
  have sk : SndE X.G tk wk := (hk X.s_0 X.H_0 0 [] []).sd
  have se : SndE X.G tv wv := (he X.s_0 X.H_0 0 [] []).sd
  refine hi.sd A S σ H ρ _ _ R E h fun ds ok S1 A1 J H1 g1 R1 fol q1 => fun Dl hD => ?_
  have gD := grow_mut (o := .dK []) R1 hD
  have RD := R1.newMud hD (kvs := []) (kds := []) .nil
  have hm : (A1 ++ [Dl])[S1.length]? = some Dl := by rw [← R1.len, List.getElem?_append_right (Nat.le_refl _), Nat.sub_self]; rfl
  refine ⟨fun i mm H2 => mm = ds.length - i ∧ i ≤ ds.length ∧ ∃ A2 S2, Grow (A1 ++ [Dl]) A2 (upd H1 Dl (.dK [])) H2 ∧ Rep X.G A2 S2 H2 ∧ lcO ok (ds.drop i) (dcStep S1.length (own.map (·.2)) wg wt wk wv ρ) (fun S' => Q' (.mut S1.length) S') S2, ⟨ds.length, by simp, Nat.zero_le _, A1 ++ [Dl], _, .refl, RD, q1⟩, ?_⟩
  rintro i mm H2 ⟨rfl, hle, A2, S2, g2, R2, q2⟩
  have hok := lcO_ok q2
  by_cases hlt : i < ds.length
  · rw [List.drop_eq_getElem_cons hlt] at q2
    obtain ⟨f1, f2⟩ := fol.go i ds[i] A2 S2 H2 (gD.trans g2) R2 hok (List.getElem?_eq_getElem hlt)
    refine .inr ⟨f1, fun H' => ∃ A2 S2, Grow (A1 ++ [Dl]) A2 (upd H1 Dl (.dK [])) H' ∧ Rep X.G A2 S2 H' ∧ lcO ok (ds.drop (i + 1)) (dcStep S1.length (own.map (·.2)) wg wt wk wv ρ) (fun S' => Q' (.mut S1.length) S') S2, fun H' z => ⟨ds.length - (i + 1), by omega, rfl, hlt, z⟩, fun x H' y => ?_⟩
    obtain ⟨gy, Ry, hx⟩ := f2 x H' y
    exact dc_turn sg st sk se go Ry (E.mono (g1.trans (gD.trans (g2.trans gy)))) hx (g2.pre _ _ hm) q2.2 fun S' A' H' g' R' z => ⟨A', S', (g2.trans gy).trans g', R', z⟩
  · have e : i = ds.length := by omega
    subst e
    rw [List.drop_length] at q2
    exact .inl ⟨fol.stop A2 S2 H2 (gD.trans g2) R2 hok, k _ S2 A2 _ H2 (g1.trans (gD.trans g2)) R2 (.mut (g2.pre _ _ hm)) q2.2⟩
end
end DL

set_option Elab.async false
set_option linter.all false
set_option maxRecDepth 100000
/-! Rules: calls of defs, classes, built-ins; equality. -/
namespace DL
open PySem PySem.Spec PyProof.Rows L2
abbrev WF := List D → MS → (D → MS → Prop) → Prop
/-- a def's promise by data -/
def spW (mg : MG) (n : Nat) (w : WF) : Sp := fun vs H Q _ => ∃ A S ds Q', Rep mg A S H ∧ IsL mg A H vs ds ∧ ds.length = n ∧ w ds S Q' ∧ EndV mg A H Q Q'
theorem spW.len {mg : MG} {n : Nat} {w : WF} {vs : List V} {H : Hp} {Q : VK} {E : XK} (h : spW mg n w vs H Q E) : vs.length = n := by
  obtain ⟨A, S, ds, Q', R, l, e, _⟩ := h
  rw [l.length, e]
/-- a reading by data may be weakened -/
theorem spW.imp {mg : MG} {n : Nat} {w w' : WF} (i : ∀ ds S Q, w' ds S Q → w ds S Q) {vs : List V} {H : Hp} {Q : VK} {E : XK} (h : spW mg n w' vs H Q E) : spW mg n w vs H Q E := by
  obtain ⟨A, S, ds, Q', R, l, e, q, k⟩ := h
  exact ⟨A, S, ds, Q', R, l, e, i _ _ _ q, k⟩
def startD (N : List Str) (ds : List D) : DEnv := ds.map some ++ List.replicate (N.length - ds.length) none
theorem env_start {mg : MG} {A : List Addr} {H : Hp} {N : List Str} {vs : List V} {ds : List D} (l : IsL mg A H vs ds) : EnvD mg A H (L2.start N vs) (startD N ds) := by
  unfold L2.start startD
  refine ⟨by simp [l.length], fun i d h => ?_⟩
  by_cases hi : i < ds.length
  · rw [List.getElem?_append_left (by simpa using hi), List.getElem?_map] at h
    have hi2 : i < vs.length := by rw [l.length]; exact hi
    rw [List.getElem?_append_left (by simpa using hi2), List.getElem?_map]
    cases e : ds[i]? with
    | none => rw [e] at h; cases h
    | some d' =>
      rw [e] at h
      cases h
      obtain ⟨v, h1, h2⟩ := l.get e
      exact ⟨v, by rw [h1]; rfl, h2⟩
  · rw [List.getElem?_append_right (by simpa using hi), List.getElem?_replicate] at h
    split at h <;> cases h
section
variable {P : Program} {w : World} {K : PySem.W.Frag} {mg : Str → Option Value} {base : Heap}
/-- THE RULE for a def -/
theorem fnD {x qual : Str} {st : Stmt} {f : Addr} {fd : FuncData} {N ps : List Str} {k : Nat} {wf : WF} {ws : WS} (F : Fun K x qual st f fd) (S : FnScope N ps (defScope st))
    (hb : ∀ (cdv : Value) (A : Around) (outer : List Env) (s : Shared) (H : Hp) (E : XK), Room k (A.deeper (envOfC qual (defScope st) s.heap.objs.size f cdv)) →
      ∃ t, PDSs (cxOf CX0 P w K mg base N qual (defScope st) f cdv A outer s H E).nox (defBody st) t ws)
    (hw : ∀ ds S Q, ds.length = ps.length → wf ds S Q → ws { nx := fun _ S' => Q .non S', rt := Q } (startD N ds) S) : FnOk P w K mg base CX0 (k + 1) f fd ps (spW ⟨K, mg⟩ ps.length wf) := by
  refine F.ok S (fun vs H Q E h => h.len) fun cdv A outer s H vs Q E hr h => ?_
  obtain ⟨t, hp⟩ := hb cdv A outer s H E hr
  obtain ⟨A', S', ds, Q', R, l, e, q, k⟩ := h
  refine ⟨t, hp.pe, hp.sd A' S' (L2.start N vs) H (startD N ds) _ _ R (env_start l) (hw ds S' Q' e q) ⟨fun ρ1 S1 A1 σ1 H1 g1 R1 E1 q1 => k _ S1 A1 .non H1 g1 R1 .non q1, k, ?_, ?_⟩⟩
  · intro ρ1 S1 A1 σ1 H1 g1 R1 E1 q1
    exact q1.elim
  · intro ρ1 S1 A1 σ1 H1 g1 R1 E1 q1
    exact q1.elim
end
def wCall (n : Nat) (w : WF) (wl : WL) : WD := fun ρ S Q => wl ρ S fun ds S1 => ds.length = n ∧ w ds S1 Q
section
variable {X : Cx} {k n : Nat} {f C : Addr} {fd : FuncData} {ps : List Str} {w : WF} {x c : Str} {p pos : Pos} {e o : Expr} {es : List Expr} {t : TA} {wl : WL} {te : TE} {we : WD}
theorem d_call (F : FnOk X.prog X.w X.K X.mg X.base CX0 k f fd ps (spW X.G n w)) (hr : Room k X.A) (hm : X.mg x = some (.ref f)) (hk : PySem.W.keepIn X.K (.ref f) = true) (hb : Binds X.K fd ps [])
    (ha : PDA X (e :: es) t wl) (hg : Gl X x := by rfl) (hdb : (x == ("__debug__" : Str)) = false := by decide) (he : starEach (e :: es) X.env = (false, eval e X.env) :: starEach es X.env := by rfl) (hpl : (backTo pos (starEach es X.env)).any (·.1) = false := by rfl) :
    PD X (.Call (.Name x p) (e :: es) [] pos) (tCall (spW X.G n w) [] E0 t) (wCall n w wl) := by
  refine ⟨pe_call F hr hg hm hk hb .nil pass0 ha.pe hdb he hpl, fun A S σ H ρ Q Q' R E h k => ?_⟩
  refine ha.sd A S σ H ρ _ _ R E h fun ds S1 A1 vs H1 g1 R1 hv q1 => ?_
  refine ⟨A1, S1, ds, Q', R1, by rw [List.append_nil]; exact hv, q1.1, q1.2, k.mono g1⟩
/-- a property -/
def wProp (c : Str) (w : WF) (we : WD) : WD := fun ρ S Q => we ρ S fun x S1 => match x with
  | .ins c' fds => c' = c ∧ w [.ins c' fds] S1 Q
  | _ => False
theorem d_prop {f' : Str} {pa g : Addr} (he : PD X e te we) (hC : X.mg c = some (.ref C)) (cl : Cls X.K C) (hp : PropOf X.K C f' pa g) (F : FnOk X.prog X.w X.K X.mg X.base CX0 k g fd ps (spW X.G 1 w)) (hr : Room (k + 1) X.A) (hb : Binds X.K fd ps [])
    (hab : attributeBase e f' X.env (eval e X.env) = eval e X.env := by rfl) : PD X (.Attribute e f' pos) (tProp C (spW X.G 1 w) [] E0 te) (wProp c w we) := by
  refine ⟨pe_prop he.pe cl hp F hr hb .nil pass0 hab, fun A S σ H ρ Q Q' R E h k => ?_⟩
  refine he.sd A S σ H ρ _ _ R E h fun d S1 A1 v H1 g1 R1 hv q1 => ?_
  cases hv <;> first | exact q1.elim | skip
  rename_i a C' dx c' fs fds na ec r l
  obtain ⟨rfl, q1⟩ := q1
  have ec := (show X.mg _ = _ from ec)
  rw [hC] at ec
  cases ec
  exact ⟨a, dx, fs, rfl, r, A1, S1, [.ins c' fds], Q', R1, .cons (.ins na hC r l) .nil, rfl, q1, k.mono g1⟩
/-- an attribute -/
def wFld (c f : Str) (we : WD) : WD := fun ρ S Q => we ρ S fun x S1 => match x with
  | .ins c' fds => c' = c ∧ (match fds.lookup f with
    | some d => Q d S1
    | none => False)
  | _ => False
theorem d_fld {f' : Str} (he : PD X e te we) (hC : X.mg c = some (.ref C)) (cl : Cls X.K C) (na : NoAttr X.K C f') (hab : attributeBase e f' X.env (eval e X.env) = eval e X.env := by rfl) : PD X (.Attribute e f' pos) (tFld X.K te f') (wFld c f' we) := by
  refine ⟨pe_fld he.pe hab, fun A S σ H ρ Q Q' R E h k => ?_⟩
  refine he.sd A S σ H ρ _ _ R E h fun d S1 A1 v H1 g1 R1 hv q1 => ?_
  cases hv <;> first | exact q1.elim | skip
  rename_i a C' dx c' fs fds nA ec r l
  obtain ⟨rfl, q1⟩ := q1
  split at q1
  case h_2 => exact q1.elim
  rename_i d hd
  have ec := (show X.mg _ = _ from ec)
  rw [hC] at ec
  cases ec
  obtain ⟨v, h1, h2⟩ := l.lookup hd
  exact ⟨a, C, dx, fs, v, rfl, r, cl, na, h1, k d S1 A1 v H1 g1 R1 h2 q1⟩
/-- a new instance, whose __init__ stores what never changes -/
abbrev WI := List D → MS → (List (Str × D) → MS → Prop) → Prop
def spInit (mg : MG) (c : Str) (n : Nat) (w : WI) : Sp := fun vs H Q _ => ∃ x C dx A S vs' ds Q', vs = .ref x :: vs' ∧ mg.f c = some (.ref C) ∧ H x = some (.ins C dx []) ∧ x ∉ A ∧ Rep mg A S H ∧ IsL mg A H vs' ds ∧ ds.length = n ∧ w ds S Q' ∧
  ∀ fs fds H', (∀ b o, b ≠ x → H b = some o → H' b = some o) → H' x = some (.ins C dx fs) → IsF mg A H' fs fds → Q' fds S → Q .non H'
theorem spInit.len {mg : MG} {n : Nat} {w : WI} {vs : List V} {H : Hp} {Q : VK} {E : XK} (h : spInit mg c n w vs H Q E) : vs.length = n + 1 := by
  obtain ⟨x, C, dx, A, S, vs', ds, Q', rfl, _, _, _, _, l, e, _⟩ := h
  rw [List.length_cons, l.length, e]
def wMake (c : Str) (n : Nat) (w : WI) (dds : List D) (wl : WL) : WD := fun ρ S Q => wl ρ S fun ds S1 => (ds ++ dds).length = n ∧ w (ds ++ dds) S1 fun fds S2 => Q (.ins c fds) S2
theorem made {mg : MG} {A : List Addr} {S : MS} {H : Hp} {x dx C : Addr} {vs : List V} {ds : List D} {w : WI} {Q : VK} {Q' : D → MS → Prop} (R : Rep mg A S H) (hC : mg.f c = some (.ref C)) (l : IsL mg A H vs ds) (hn : ds.length = n) (hw : w ds S fun fds S2 => Q' (.ins c fds) S2) (k : EndV mg A H Q Q')
    (hx : H x = none) (hd : H dx = none) (ne : dx ≠ x) : spInit mg c n w (.ref x :: vs) (upd (upd H dx (.own x)) x (.ins C dx [])) (fun v H2 => v = .non ∧ Q (.ref x) H2) E0 := by
  have hx1 : upd H dx (.own x) x = none := by rw [upd_ne (Ne.symm ne)]; exact hx
  have g1 := grow_new (o := .own x) R hd
  have R1 := R.new (o := .own x) hd
  have g2 := grow_new (o := .ins C dx []) R1 hx1
  have R2 := R1.new (o := .ins C dx []) hx1
  have g := g1.trans g2
  refine ⟨x, C, dx, A, S, vs, ds, _, rfl, hC, upd_same, R.fresh hx, R2, l.mono g, hn, hw, fun fs fds H' kp hx' lf q => ⟨rfl, ?_⟩⟩
  have nx : x ∉ A := R.fresh hx
  have kp' : ∀ b o, b ∉ A → H b = some o → H' b = some o ∧ b ∉ A := fun b o nb e => ⟨kp b o (ne_of_none e hx) (g.keep b o nb e).1, nb⟩
  have gg : Grow A A H H' := ⟨fun _ _ e => e, kp'⟩
  have R' : Rep mg A S H' := ⟨R.len, R.nd, fun i a o e1 e2 => (R.at_ i a o e1 e2).mono gg fun u hu => kp a u (fun z => nx (z ▸ List.mem_of_getElem? e1)) (by rw [upd_ne (ne_of_none hu hx), upd_ne (ne_of_none hu hd)]; exact hu)⟩
  exact k _ S A _ H' gg R' (.ins nx hC hx' lf) q
end
end DL

set_option Elab.async false
set_option linter.all false
set_option maxRecDepth 100000
/-! Rules: built-ins, own operators, equality. -/
namespace DL
open PySem PySem.Spec PyProof.Rows L2
section
variable {X : Cx} {k n : Nat} {f C : Addr} {fd : FuncData} {ps : List Str} {w : WF} {x c : Str} {p pos : Pos} {e o : Expr} {es : List Expr} {t : TA} {wl : WL} {te : TE} {we : WD} {id T : String} {r : List V → Hp → VK → Prop} {od : LD}
/-! ### a new instance -/
theorem d_make {wi : WI} {dvs : List V} {ds : List Value} {dds : List D} (M : Mk X.K C f) (F : FnOk X.prog X.w X.K X.mg X.base CX0 k f fd ps (spInit X.G x n wi)) (hr : Room (k + 1) X.A) (hm : X.mg x = some (.ref C)) (hb : Binds X.K fd ps ds) (hd : Vals dvs ds) (hdd : ∀ A H, IsL X.G A H dvs dds)
    (ha : PDA X (e :: es) t wl) (hg : Gl X x := by rfl) (hdb : (x == ("__debug__" : Str)) = false := by decide) (he : starEach (e :: es) X.env = (false, eval e X.env) :: starEach es X.env := by rfl) (hpl : (backTo pos (starEach es X.env)).any (·.1) = false := by rfl) :
    PD X (.Call (.Name x p) (e :: es) [] pos) (tMake C (spInit X.G x n wi) dvs E0 t) (wMake x n wi dds wl) := by
  refine ⟨pe_make M F hr hg hm hb hd pass0 ha.pe hdb he hpl, fun A S σ H ρ Q Q' R E h k => ?_⟩
  refine ha.sd A S σ H ρ _ _ R E h fun ds S1 A1 vs H1 g1 R1 hv q1 => ?_
  intro a dx na nd ne
  exact made R1 hm (hv.append (hdd A1 H1)) q1.1 q1.2 (k.mono g1) na nd ne
/-! ### built-ins by their names -/
theorem d_callB (hc : CallR X (.builtin id) r) (hs : SndC X.G r od) (hm : X.mg x = none) (ha : PDA X (e :: es) t wl) (hg : Gl X x := by rfl) (hv : bootBuiltins x = some (.builtin id) := by decide +kernel) (hn : x ≠ "__name__" := by decide) (hdb : (x == ("__debug__" : Str)) = false := by decide)
    (he : starEach (e :: es) X.env = (false, eval e X.env) :: starEach es X.env := by rfl) (hpl : (backTo pos (starEach es X.env)).any (·.1) = false := by rfl) : PD X (.Call (.Name x p) (e :: es) [] pos) (tCB r t) (wCB od wl) := ⟨pe_callB hc hg hm hv ha.pe hn hdb he hpl, snd_cb hs ha.sd⟩
theorem d_callTy (hc : CallR X (.type T) r) (hs : SndC X.G r od) (hm : X.mg x = none) (ha : PDA X (e :: es) t wl) (hg : Gl X x := by rfl) (hv : bootBuiltins x = some (.type T) := by decide +kernel) (hn : x ≠ "__name__" := by decide) (hdb : (x == ("__debug__" : Str)) = false := by decide)
    (he : starEach (e :: es) X.env = (false, eval e X.env) :: starEach es X.env := by rfl) (hpl : (backTo pos (starEach es X.env)).any (·.1) = false := by rfl) : PD X (.Call (.Name x p) (e :: es) [] pos) (tCB r t) (wCB od wl) := ⟨pe_callTy hc hg hm hv ha.pe hn hdb he hpl, snd_cb hs ha.sd⟩
theorem d_callF (hc : CallR X (.builtin id) r) (hs : SndC X.G r od) (hm : X.mg x = some (.builtin id)) (ha : PDA X (e :: es) t wl) (hg : Gl X x := by rfl) (hdb : (x == ("__debug__" : Str)) = false := by decide)
    (he : starEach (e :: es) X.env = (false, eval e X.env) :: starEach es X.env := by rfl) (hpl : (backTo pos (starEach es X.env)).any (·.1) = false := by rfl) : PD X (.Call (.Name x p) (e :: es) [] pos) (tCB r t) (wCB od wl) := ⟨pe_callBfun hc hg hm ha.pe hdb he hpl, snd_cb hs ha.sd⟩
theorem CallR.or {f : Value} {r r' : List V → Hp → VK → Prop} (h : CallR X f r) (h' : CallR X f r') : CallR X f (fun xs H Q => r xs H Q ∨ r' xs H Q) := by
  intro pins s σ H vs us Q I rv q
  rcases q with q | q
  · exact h pins s σ H vs us Q I rv q
  · exact h' pins s σ H vs us Q I rv q
theorem UnR.or {f : Value → Sem Value} {r r' : V → Hp → VK → Prop} (h : UnR X f r) (h' : UnR X f r') : UnR X f (fun x H Q => r x H Q ∨ r' x H Q) := by
  intro pins s σ H x v Q I rv q
  rcases q with q | q
  · exact h pins s σ H x v Q I rv q
  · exact h' pins s σ H x v Q I rv q
theorem SndC.or {mg : MG} {r r' : List V → Hp → VK → Prop} {o o' : LD} (h : SndC mg r o) (h' : SndC mg r' o') : SndC mg (fun xs H Q => r xs H Q ∨ r' xs H Q) (fun xs S Q => o xs S Q ∨ o' xs S Q) := by
  intro A S H x dx Q Q' R hx q k
  rcases q with q | q
  · exact .inl (h A S H x dx Q Q' R hx q k)
  · exact .inr (h' A S H x dx Q Q' R hx q k)
theorem SndC.imp {mg : MG} {r : List V → Hp → VK → Prop} {o o' : LD} (h : SndC mg r o) (i : ∀ xs S Q, o' xs S Q → o xs S Q) : SndC mg r o' := fun A S H x dx Q Q' R hx q k => h A S H x dx Q Q' R hx (i _ _ _ q) k
theorem SndU.or {mg : MG} {r r' : V → Hp → VK → Prop} {o o' : UD} (h : SndU mg r o) (h' : SndU mg r' o') : SndU mg (fun x H Q => r x H Q ∨ r' x H Q) (fun x S Q => o x S Q ∨ o' x S Q) := by
  intro A S H x dx Q Q' R hx q k
  rcases q with q | q
  · exact .inl (h A S H x dx Q Q' R hx q k)
  · exact .inr (h' A S H x dx Q Q' R hx q k)
theorem SndU.imp {mg : MG} {r : V → Hp → VK → Prop} {o o' : UD} (h : SndU mg r o) (i : ∀ x S Q, o' x S Q → o x S Q) : SndU mg r o' := fun A S H x dx Q Q' R hx q k => h A S H x dx Q Q' R hx (i _ _ _ q) k
end
section
variable {mg : MG}
theorem IsL.one {A : List Addr} {H : Hp} {vs : List V} {d : D} (l : IsL mg A H vs [d]) : ∃ v, vs = [v] ∧ Is mg A H v d := by
  cases l with
  | cons h t => cases t; exact ⟨_, rfl, h⟩
theorem IsL.two {A : List Addr} {H : Hp} {vs : List V} {d e : D} (l : IsL mg A H vs [d, e]) : ∃ v w, vs = [v, w] ∧ Is mg A H v d ∧ Is mg A H w e := by
  cases l with
  | cons h t => obtain ⟨w, rfl, h2⟩ := t.one; exact ⟨_, _, rfl, h, h2⟩
/-- int(n), int(flag) -/
def oInt1 : LD := fun ds S Q => match ds with
  | [.int i] => Q (.int i) S
  | [.bl b] => Q (.int (if b then 1 else 0)) S
  | _ => False
theorem snd_int1 : SndC mg (fun xs H Q => (∃ i, xs = [.int i] ∧ Q (.int i) H) ∨ ∃ k, xs = [.bl k] ∧ Q (.int (if k then 1 else 0)) H) oInt1 := by
  intro A S H xs ds Q Q' R l q k
  cases l with
  | nil => exact q.elim
  | cons h t =>
    cases t with
    | cons _ _ => cases h <;> exact q.elim
    | nil =>
      cases h <;> first | exact q.elim | skip
      · exact .inr ⟨_, rfl, k _ S A _ H .refl R (.int _) q⟩
      · exact .inl ⟨_, rfl, k _ S A _ H .refl R (.int _) q⟩
def oAbsI : LD := fun ds S Q => match ds with
  | [.int i] => Q (.int (if i < 0 then -i else i)) S
  | _ => False
theorem snd_absI : SndC mg (fun xs H Q => ∃ i, xs = [.int i] ∧ Q (.int (if i < 0 then -i else i)) H) oAbsI := by
  intro A S H xs ds Q Q' R l q k
  cases l with
  | nil => exact q.elim
  | cons h t =>
    cases t with
    | cons _ _ => cases h <;> exact q.elim
    | nil =>
      cases h <;> first | exact q.elim | skip
      exact ⟨_, rfl, k _ S A _ H .refl R (.int _) q⟩
def oLen : LD := fun ds S Q => match ds with
  | [.lst es] => Q (.int es.length) S
  | [.scr es] => Q (.int es.length) S
  | [.tup es] => Q (.int es.length) S
  | [.mut m] => ∃ es, S[m]? = some (.l es) ∧ Q (.int es.length) S
  | _ => False
theorem snd_len : SndC mg (fun xs H Q => ∃ p ys, xs = [.ref p] ∧ (SqL mg.K H p ys ∨ SqT mg.K H p ys) ∧ Q (.int ys.length) H) oLen := by
  intro A S H xs ds Q Q' R l q k
  cases l with
  | nil => exact q.elim
  | cons h t =>
    cases t with
    | cons _ _ => cases h <;> exact q.elim
    | nil =>
      cases h <;> first | exact q.elim | skip
      · rename_i a vs ds n r l
        exact ⟨a, vs, rfl, .inr (.inl r), by rw [l.length]; exact k _ S A _ H .refl R (.int _) q⟩
      · rename_i a vs ds n r l
        exact ⟨a, vs, rfl, .inl (.of r), by rw [l.length]; exact k _ S A _ H .refl R (.int _) q⟩
      · rename_i a vs ds n r l
        exact ⟨a, vs, rfl, .inl (.inl r), by rw [l.length]; exact k _ S A _ H .refl R (.int _) q⟩
      · rename_i a vs ds r l
        exact ⟨a, vs, rfl, .inl (r H), by rw [l.length]; exact k _ S A _ H .refl R (.int _) q⟩
      · rename_i a m ea
        obtain ⟨es, hs, q⟩ := q
        obtain ⟨vs, h1, l⟩ := R.at_ m a (.l es) ea hs
        exact ⟨a, vs, rfl, .inl (.of h1), by rw [l.length]; exact k _ S A _ H .refl R (.int _) q⟩
def oGcd : LD := fun ds S Q => match ds with
  | [.int a, .int b] => Q (.int ((Nat.gcd a.natAbs b.natAbs : Nat) : Int)) S
  | _ => False
theorem snd_gcd : SndC mg rGcd oGcd := by
  intro A S H xs ds Q Q' R l q k
  match ds, q, l with
  | [.int a, .int b], q, l =>
    obtain ⟨v, w, rfl, h1, h2⟩ := l.two
    cases h1; cases h2
    exact ⟨a, b, rfl, k _ S A _ H .refl R (.int _) q⟩
def oMax2 : LD := fun ds S Q => match ds with
  | [.int a, .int b] => Q (.int (if b > a then b else a)) S
  | _ => False
def oMin2 : LD := fun ds S Q => match ds with
  | [.int a, .int b] => Q (.int (if b < a then b else a)) S
  | _ => False
theorem snd_max2 : SndC mg (fun xs H Q => ∃ i j, xs = [.int i, .int j] ∧ Q (.int (if j > i then j else i)) H) oMax2 := by
  intro A S H xs ds Q Q' R l q k
  match ds, q, l with
  | [.int a, .int b], q, l =>
    obtain ⟨v, w, rfl, h1, h2⟩ := l.two
    cases h1; cases h2
    exact ⟨a, b, rfl, k _ S A _ H .refl R (.int _) q⟩
theorem snd_min2 : SndC mg (fun xs H Q => ∃ i j, xs = [.int i, .int j] ∧ Q (.int (if j < i then j else i)) H) oMin2 := by
  intro A S H xs ds Q Q' R l q k
  match ds, q, l with
  | [.int a, .int b], q, l =>
    obtain ⟨v, w, rfl, h1, h2⟩ := l.two
    cases h1; cases h2
    exact ⟨a, b, rfl, k _ S A _ H .refl R (.int _) q⟩
/-- divmod by a positive divisor -/
def oDivmod : LD := fun ds S Q => match ds with
  | [.int i, .int j] => (0 < j ∧ j.natAbs.log2 < 9000) ∧ Q (.tup [.int (i / j), .int (i % j)]) S
  | _ => False
theorem snd_divmod : SndC mg (fun xs H Q => ∃ i j, xs = [.int i, .int j] ∧ CDivP i j ∧ ∀ p, H p = none → Q (.ref p) (upd H p (.tup [.int (i / j), .int (i % j)]))) oDivmod := by
  intro A S H xs ds Q Q' R l q k
  match ds, q, l with
  | [.int i, .int j], q, l =>
    obtain ⟨v, w, rfl, h1, h2⟩ := l.two
    cases h1; cases h2
    refine ⟨i, j, rfl, ⟨q.1.1, PyProof.noPylong_of_log2 q.1.2⟩, fun p hp => ?_⟩
    exact k _ S A _ _ (grow_new R hp) (R.new hp) (.tup (R.fresh hp) (.inl upd_same) (.cons (.int _) (.cons (.int _) .nil))) q.2
/-- all of a list of truths -/
def bls : List D → Option (List Bool)
  | [] => some []
  | .bl b :: ds => (bls ds).map (b :: ·)
  | _ => none
theorem IsL.bls {A : List Addr} {H : Hp} : ∀ {vs : List V} {ds : List D} {bs : List Bool}, IsL mg A H vs ds → DL.bls ds = some bs → vs = bs.map V.bl
  | _, _, _, .nil, e => by cases e; rfl
  | _, _, bs, .cons h t, e => by
    cases h <;> first | (cases e; done) | skip
    rename_i b
    cases q : DL.bls _ with
    | none => rw [DL.bls, q] at e; cases e
    | some cs => rw [DL.bls, q] at e; cases e; rw [IsL.bls t q]; rfl
def oAll : LD := fun ds S Q => match ds with
  | [.lst es] => ∃ bs, bls es = some bs ∧ Q (.bl (bs.all id)) S
  | [.mut m] => ∃ es bs, S[m]? = some (.l es) ∧ bls es = some bs ∧ Q (.bl (bs.all id)) S
  | _ => False
theorem snd_all {K : PySem.W.Frag} : SndC mg (rAll K) oAll := by
  intro A S H xs ds Q Q' R l q k
  cases l with
  | nil => exact q.elim
  | cons h t =>
    cases t with
    | cons _ _ => cases h <;> exact q.elim
    | nil =>
      cases h <;> first | exact q.elim | skip
      · rename_i a vs ds n r l
        obtain ⟨bs, e, q⟩ := q
        exact ⟨a, bs, rfl, by rw [← l.bls e]; exact .of r, k _ S A _ H .refl R (.bl _) q⟩
      · rename_i a m ea
        obtain ⟨es, bs, hs, e, q⟩ := q
        obtain ⟨vs, h1, l⟩ := R.at_ m a (.l es) ea hs
        exact ⟨a, bs, rfl, by rw [← l.bls e]; exact .of h1, k _ S A _ H .refl R (.bl _) q⟩
/-- str(n) -/
def oStrI : LD := fun ds S Q => match ds with
  | [.int i] => i.natAbs.log2 < 1920 ∧ Q (.str (toString i)) S
  | _ => False
theorem snd_strI : SndC mg (fun xs H Q => ∃ i, xs = [.int i] ∧ i.natAbs.log2 < 1920 ∧ Q (.str (toString i)) H) oStrI := by
  intro A S H xs ds Q Q' R l q k
  cases l with
  | nil => exact q.elim
  | cons h t =>
    cases t with
    | cons _ _ => cases h <;> exact q.elim
    | nil =>
      cases h <;> first | exact q.elim | skip
      exact ⟨_, rfl, q.1, k _ S A _ H .refl R (.str _) q.2⟩

/-! ### own operators -/
def oOwnB (c : Str) (w : WF) : OD := fun x y S Q => (∃ fds, x = .ins c fds) ∧ ((∃ fds, y = .ins c fds) ∨ ∃ i, y = .int i) ∧ w [x, y] S Q
def oOwnI (c : Str) (w : WF) : OD := fun x y S Q => (∃ i, x = .int i) ∧ (∃ fds, y = .ins c fds) ∧ w [y, x] S Q
def oOwnU (c : Str) (w : WF) : UD := fun x S Q => (∃ fds, x = .ins c fds) ∧ w [x] S Q
def oOwnL (c : Str) (w : WF) : LD := fun ds S Q => match ds with
  | [x] => (∃ fds, x = .ins c fds) ∧ w [x] S Q
  | _ => False
theorem Is.insOf {A : List Addr} {H : Hp} {c : Str} {C : Addr} {v : V} {fds : List (Str × D)} (h : Is mg A H v (.ins c fds)) (hC : mg.f c = some (.ref C)) : Ins C H v := by
  cases h with
  | ins n e r l => rw [hC] at e; cases e; exact ⟨_, _, _, rfl, r⟩
theorem Is.intOf {A : List Addr} {H : Hp} {v : V} {i : Int} (h : Is mg A H v (.int i)) : v = .int i := by cases h; rfl
theorem snd_ownB {c : Str} {C : Addr} {w : WF} {E : XK} (hC : mg.f c = some (.ref C)) : SndR mg (rOwnB C (spW mg 2 w) E) (oOwnB c w) := by
  intro A S H x y dx dy Q Q' R hx hy q k
  obtain ⟨⟨fds, rfl⟩, hyy, q⟩ := q
  refine ⟨hx.insOf hC, ?_, A, S, [_, dy], Q', R, .cons hx (.cons hy .nil), rfl, q, k⟩
  rcases hyy with ⟨fds', rfl⟩ | ⟨i, rfl⟩
  · exact .inl (hy.insOf hC)
  · exact .inr ⟨i, hy.intOf⟩
theorem snd_ownI {c : Str} {C : Addr} {w : WF} {E : XK} (hC : mg.f c = some (.ref C)) : SndR mg (rOwnI C (spW mg 2 w) E) (oOwnI c w) := by
  intro A S H x y dx dy Q Q' R hx hy q k
  obtain ⟨⟨i, rfl⟩, ⟨fds, rfl⟩, q⟩ := q
  exact ⟨⟨i, hx.intOf⟩, hy.insOf hC, A, S, [_, _], Q', R, .cons hy (.cons hx .nil), rfl, q, k⟩
theorem snd_ownU {c : Str} {C : Addr} {w : WF} {E : XK} (hC : mg.f c = some (.ref C)) : SndU mg (rOwnU C (spW mg 1 w) E) (oOwnU c w) := by
  intro A S H x dx Q Q' R hx q k
  obtain ⟨⟨fds, rfl⟩, q⟩ := q
  exact ⟨hx.insOf hC, A, S, [_], Q', R, .cons hx .nil, rfl, q, k⟩
end

/-! ### == and != of data -/
mutual
def dat (S : MS) : D → Option PyData
  | .non => some .none
  | .bl b => some (.bool b)
  | .int i => some (.int i)
  | .str x => some (.str x)
  | .tup ds => (datL S ds).map .tuple
  | .lst ds => (datL S ds).map .list
  | _ => none
def datL (S : MS) : List D → Option (List PyData)
  | [] => some []
  | d :: ds => match dat S d, datL S ds with
    | some a, some l => some (a :: l)
    | _, _ => none
end
/-- with a list that may change at the top -/
def datM (S : MS) : D → Option PyData
  | .mut m => match S[m]? with | some (.l ds) => (datL S ds).map .list | _ => none
  | d => dat S d
section
variable {mg : MG} {A : List Addr} {S : MS} {H : Hp} {K : PySem.W.Frag}
mutual
theorem Is.dp : ∀ {v : V} {d : D} {p : PyData}, Is mg A H v d → dat S d = some p → Dp K H v p
  | _, _, _, .non, e => by cases e; exact .non
  | _, _, _, .bl b, e => by cases e; exact .bl b
  | _, _, _, .int i, e => by cases e; exact .int i
  | _, _, _, .str x, e => by cases e; exact .str x
  | _, _, _, .ty n, e => by cases e
  | _, _, _, .cls _, e => by cases e
  | _, _, p, .tup n r l, e => by
    rw [dat] at e
    cases q : datL S _ with
    | none => rw [q] at e; cases e
    | some ps => rw [q] at e; cases e; exact .tup (.inl r) (IsL.dp l q)
  | _, _, _, .tupK _ _, e => by cases e
  | _, _, p, .lst n r l, e => by
    rw [dat] at e
    cases q : datL S _ with
    | none => rw [q] at e; cases e
    | some ps => rw [q] at e; cases e; exact .lst (.of r) (IsL.dp l q)
  | _, _, p, .scr n r l, e => by cases e
  | _, _, p, .scrK r l, e => by cases e
  | _, _, _, .ins _ _ _ _, e => by cases e
  | _, _, _, .mut _, e => by cases e
  | _, _, _, .obj _, e => by cases e
  | _, _, _, .dct _ _ _, e => by cases e
  | _, _, _, .exc _ _ _, e => by cases e
  | _, _, _, .err _ _ _ _ _ _, e => by cases e
  | _, _, _, .err0 _ _ _, e => by cases e
theorem IsL.dp : ∀ {vs : List V} {ds : List D} {ps : List PyData}, IsL mg A H vs ds → datL S ds = some ps → DpAll K H vs ps
  | _, _, _, .nil, e => by cases e; exact .nil
  | _, _, _, .cons h t, e => by
    rw [datL] at e
    split at e
    · rename_i a l h1 h2
      cases e
      exact .cons (Is.dp h h1) (IsL.dp t h2)
    · cases e
end
theorem Is.dpM {v : V} {d : D} {p : PyData} (R : Rep mg A S H) (h : Is mg A H v d) (e : datM S d = some p) : Dp K H v p := by
  cases d with
  | «mut» m =>
    cases h with
    | «mut» ea =>
      rw [datM] at e
      split at e
      · rename_i ds q
        obtain ⟨vs, h1, l⟩ := R.at_ m _ (.l ds) ea q
        cases q2 : datL S ds with
        | none => rw [q2] at e; cases e
        | some ps => rw [q2] at e; cases e; exact .lst (.of h1) (IsL.dp l q2)
      · cases e
  | non => exact Is.dp (S := S) h e
  | bl b => exact Is.dp (S := S) h e
  | int i => exact Is.dp (S := S) h e
  | str x => exact Is.dp (S := S) h e
  | ty n => exact Is.dp (S := S) h e
  | cls c => exact Is.dp (S := S) h e
  | tup ds => exact Is.dp (S := S) h e
  | tpk ds => exact Is.dp (S := S) h e
  | lst ds => exact Is.dp (S := S) h e
  | scr ds => exact Is.dp (S := S) h e
  | ins c fs => exact Is.dp (S := S) h e
  | obj a => exact Is.dp (S := S) h e
  | err c fs => exact Is.dp (S := S) h e
  | dct ks => exact Is.dp (S := S) h e
  | exc a d fs => exact Is.dp (S := S) h e
end
def oEqD : OD := fun x y S Q => ∃ d e, datM S x = some d ∧ datM S y = some e ∧ SeqAt.shaped d = true ∧ SeqAt.shaped e = true ∧ Q (.bl (PyData.eqv d e)) S
def oNeD : OD := fun x y S Q => ∃ d e, datM S x = some d ∧ datM S y = some e ∧ SeqAt.shaped d = true ∧ SeqAt.shaped e = true ∧ Q (.bl (!PyData.eqv d e)) S
theorem snd_eqD {mg : MG} {K : PySem.W.Frag} : SndR mg (rEqD K) oEqD := by
  intro A S H x y dx dy Q Q' R hx hy ⟨d, e, h1, h2, s1, s2, q⟩ k
  exact ⟨d, e, hx.dpM R h1, hy.dpM R h2, s1, s2, k _ S A _ H .refl R (.bl _) q⟩
theorem snd_neD {mg : MG} {K : PySem.W.Frag} : SndR mg (rNeD K) oNeD := by
  intro A S H x y dx dy Q Q' R hx hy ⟨d, e, h1, h2, s1, s2, q⟩ k
  exact ⟨d, e, hx.dpM R h1, hy.dpM R h2, s1, s2, k _ S A _ H .refl R (.bl _) q⟩
/-! ### texts, lists put together -/
def oCatS : OD := fun x y S Q => match x, y with
  | .str i, .str j => i.length + j.length ≤ sizeLine ∧ Q (.str (i ++ j)) S
  | _, _ => False
theorem snd_catS {mg : MG} : SndR mg (fun x y H Q => ∃ i j, x = .str i ∧ y = .str j ∧ i.length + j.length ≤ sizeLine ∧ Q (.str (i ++ j)) H) oCatS := by
  intro A S H x y dx dy Q Q' R hx hy q k
  cases hx <;> cases hy <;> first | exact q.elim | skip
  exact ⟨_, _, rfl, rfl, q.1, k _ S A _ H .refl R (.str _) q.2⟩
/-- the m-th object that may change, a list -/
def lsAt (S : MS) (m : Nat) : Option (List D) := match S[m]? with
  | some (.l ds) => some ds
  | _ => none
theorem lsAt_of {S : MS} {m : Nat} {ds : List D} (h : S[m]? = some (.l ds)) : lsAt S m = some ds := by
  unfold lsAt
  rw [h]
theorem lsAt_eq {S : MS} {m : Nat} {ds : List D} (h : lsAt S m = some ds) : S[m]? = some (.l ds) := by
  unfold lsAt at h
  split at h
  · rename_i e q
    cases h
    exact q
  · cases h
/-- what a list holds -/
def itemsD (S : MS) : D → Option (List D)
  | .lst ds => some ds
  | .mut m => lsAt S m
  | _ => none
/-- xs + ys, the result never changes (oCatL) or may change (oCatLM) -/
def oCatL : OD := fun x y S Q => ∃ ds es, itemsD S x = some ds ∧ itemsD S y = some es ∧ ds.length + es.length ≤ sizeLine ∧ Q (.lst (ds ++ es)) S
def oCatLM : OD := fun x y S Q => ∃ ds es, itemsD S x = some ds ∧ itemsD S y = some es ∧ ds.length + es.length ≤ sizeLine ∧ Q (.mut S.length) (S ++ [.l (ds ++ es)])
theorem Is.items {mg : MG} {A : List Addr} {S : MS} {H : Hp} {x : V} {d : D} {ds : List D} (R : Rep mg A S H) (h : Is mg A H x d) (e : itemsD S d = some ds) : ∃ a vs, x = .ref a ∧ H a = some (.lst vs) ∧ IsL mg A H vs ds := by
  cases h with
  | @lst a vs es n r l => cases e; exact ⟨a, vs, rfl, r, l⟩
  | @«mut» a m ea =>
    obtain ⟨vs, h1, l⟩ := R.at_ m a (.l ds) ea (lsAt_eq e)
    exact ⟨a, vs, rfl, h1, l⟩
  | _ => cases e
theorem snd_catL {mg : MG} : SndR mg rCat oCatL := by
  intro A S H x y dx dy Q Q' R hx hy q k
  obtain ⟨ds, es, h1, h2, hz, q⟩ := q
  obtain ⟨a, vs, rfl, e1, l1⟩ := hx.items R h1
  obtain ⟨b, ws, rfl, e2, l2⟩ := hy.items R h2
  refine ⟨a, b, vs, ws, rfl, rfl, e1, e2, by rw [l1.length, l2.length]; exact hz, fun p hp => ?_⟩
  have g := grow_new (o := .lst (vs ++ ws)) R hp
  exact k _ S A _ _ g (R.new hp) (.lst (R.fresh hp) upd_same ((l1.append l2).mono g)) q
theorem snd_catLM {mg : MG} : SndR mg rCat oCatLM := by
  intro A S H x y dx dy Q Q' R hx hy q k
  obtain ⟨ds, es, h1, h2, hz, q⟩ := q
  obtain ⟨a, vs, rfl, e1, l1⟩ := hx.items R h1
  obtain ⟨b, ws, rfl, e2, l2⟩ := hy.items R h2
  refine ⟨a, b, vs, ws, rfl, rfl, e1, e2, by rw [l1.length, l2.length]; exact hz, fun p hp => ?_⟩
  have g := grow_mut (o := .lst (vs ++ ws)) R hp
  refine k _ _ (A ++ [p]) _ _ g (R.newMut hp (l1.append l2)) (.mut ?_) q
  rw [← R.len, List.getElem?_append_right (Nat.le_refl _), Nat.sub_self]
  rfl
/-! ### append -/
section
variable {X : Cx} {o e : Expr} {es : List Expr} {to : TE} {wo : WD} {t : TA} {wl : WL} {apos cpos : Pos}
def wAppend (wo : WD) (wl : WL) : WD := fun ρ S Q => wo ρ S fun o S1 => match o with
  | .mut m => (∃ ds0, S1[m]? = some (.l ds0)) ∧ wl ρ S1 fun ds S2 => match ds with
    | [d] => ∃ acc, S2[m]? = some (.l acc) ∧ acc.length < sizeLine ∧ Q .non (S2.set m (.l (acc ++ [d])))
    | _ => False
  | _ => False
theorem d_append (ho : PD X o to wo) (ha : PDA X (e :: es) t wl)
    (hbase : attributeBase o "append" X.env (eval o X.env) = eval o X.env := by rfl)
    (hfew : ((backTo cpos (starEach (e :: es) X.env)).all (fun x => !x.1) && (backToKw cpos (keywordEach [] X.env)).all (fun x => x.1.isSome)
      && decide ((e :: es).length + ([] : List Keyword).length + (if ([] : List Keyword).isEmpty then 0 else 1) < 30)) = true := by rfl)
    (hline : (apos.endLine == cpos.line) = true := by rfl) (hs : starEach (e :: es) X.env = (false, eval e X.env) :: starEach es X.env := by rfl) (hplain : (backTo cpos (starEach es X.env)).any (·.1) = false := by rfl) :
    PD X (.Call (.Attribute o "append" apos) (e :: es) [] cpos) (tBM X.K "list" rAppend to t) (wAppend wo wl) := by
  refine ⟨pe_bm PySem.F.plainAttrs_list PySem.F.slot_list_append PySem.F.type_list_append mt_append ho.pe ha.pe hbase hfew hline hs hplain, fun A S σ H ρ Q Q' R E h k => ?_⟩
  refine ho.sd A S σ H ρ _ _ R E h fun o S1 A1 v H1 g1 R1 hv q1 => ?_
  cases hv <;> first | exact q1.elim | skip
  rename_i a m ea
  obtain ⟨⟨es0, he0⟩, q1⟩ := q1
  obtain ⟨vs0, h0, _⟩ := R1.at_ m a (.l es0) ea he0
  refine ⟨.inl ⟨rfl, _, .of h0⟩, ?_⟩
  refine ha.sd A1 S1 σ H1 ρ _ _ R1 (E.mono g1) q1 fun ds S2 A2 vs H2 g2 R2 hvs q2 => ?_
  match ds, hvs, q2 with
  | [d], hvs, q2 =>
    obtain ⟨v, rfl, hv⟩ := hvs.one
    obtain ⟨acc, e1, hz, q3⟩ := q2
    have ea2 := g2.pre _ _ ea
    obtain ⟨ws, h5, l5⟩ := R2.at_ m a (.l acc) ea2 e1
    refine ⟨a, ws, v, rfl, rfl, h5, by rw [l5.length]; exact hz, ?_⟩
    have gw := grow_write (H := H2) (o := .lst (ws ++ [v])) ea2
    exact k _ _ A2 _ _ ((g1.trans g2).trans gw) (R2.write ea2 (l5.append (.cons hv .nil))) .non q3
end
end DL

set_option Elab.async false
set_option linter.all false
set_option maxRecDepth 100000
/-! Rules: isinstance, texts of own objects, f-strings, slices, truth. -/
namespace DL
open PySem PySem.Spec PyProof.Rows L2
/-! ### isinstance -/
inductive TyK where
  | ty (n : String) | cls (c : Str)
def tyOf : D → Option TyK
  | .non => some (.ty "NoneType")
  | .bl _ => some (.ty "bool")
  | .int _ => some (.ty "int")
  | .str _ => some (.ty "str")
  | .tup _ => some (.ty "tuple")
  | .lst _ => some (.ty "list")
  | .ins c _ => some (.cls c)
  | .dct _ => some (.ty "dict")
  | _ => none
/-- the type of what stands in the store, too -/
def tyS (S : MS) : D → Option TyK
  | .non => some (.ty "NoneType")
  | .bl _ => some (.ty "bool")
  | .int _ => some (.ty "int")
  | .str _ => some (.ty "str")
  | .tup _ => some (.ty "tuple")
  | .lst _ => some (.ty "list")
  | .ins c _ => some (.cls c)
  | .dct _ => some (.ty "dict")
  | .mut m => match S[m]? with
    | some (.l _) => some (.ty "list")
    | some (.d _) => some (.ty "dict")
    | some (.i c _) => some (.cls c)
    | none => none
  | _ => none
def clOf : D → Option TyK
  | .ty n => some (.ty n)
  | .cls c => some (.cls c)
  | _ => none
def ValK (mg : MG) : TyK → Value → Prop
  | .ty n, v => v = .type n
  | .cls c, v => mg.f c = some v ∧ ∃ C, v = .ref C
/-- what isinstance asks of an instance's class -/
structure InsT (K : PySem.W.Frag) (C : Addr) : Prop where
  cl : Cls K C
  ha : PySem.W.findIn K (.ref C) "__class__" = some (some (.builtin "object.__class__"))
  hn : PySem.W.specialIn K (.builtin "object.__class__") "__get__" = some (some (.builtin "getset_descriptor.__get__"))
  htk : PySem.W.takesIn K (.builtin "object.__class__") = some true
  hm : PySem.W.mroIn K C (.type "object") = some true
structure IsiT (K : PySem.W.Frag) (mg : MG) (kt : TyK → TyK → Option Bool) : Prop where
  ok : ∀ a b r va vb, kt a b = some r → ValK mg a va → ValK mg b vb → PySem.W.kitOne K va vb = some r
  ins : ∀ c b r C, kt (.cls c) b = some r → mg.f c = some (.ref C) → InsT K C
def oIsi (kt : TyK → TyK → Option Bool) : LD := fun ds S Q => match ds with
  | [x, c] => match tyS S x, clOf c with
    | some a, some b => (match kt a b with | some r => Q (.bl r) S | none => False)
    | _, _ => False
  | _ => False
theorem snd_isi {K : PySem.W.Frag} {mg : MG} {kt : TyK → TyK → Option Bool} (T : IsiT K mg kt) : SndC mg (rIsi K) (oIsi kt) := by
  intro A S H xs ds Q Q' R l q k
  match ds, q, l with
  | [x, c], q, l =>
    obtain ⟨v, w, rfl, hx, hc⟩ := l.two
    have q : ∃ a b r, tyS S x = some a ∧ clOf c = some b ∧ kt a b = some r ∧ Q' (.bl r) S := by
      unfold oIsi at q
      dsimp only at q
      split at q
      · rename_i a b e1 e2
        split at q
        · rename_i r e3
          exact ⟨a, b, r, e1, e2, e3, q⟩
        · exact q.elim
      · exact q.elim
    obtain ⟨a, b, r, e1, e2, e3, q⟩ := q
    have hb : ∃ vb, ValK mg b vb ∧ ClsV w vb := by
      cases hc with
      | ty n => cases e2; exact ⟨_, rfl, .ty _⟩
      | cls e => cases e2; exact ⟨_, ⟨e, _, rfl⟩, .own _⟩
      | _ => cases e2
    obtain ⟨vb, vb1, vb2⟩ := hb
    have hq : Q (.bl r) H := k _ S A _ H .refl R (.bl _) q
    have fin : ∀ va, ValK mg a va → TyX K H v va → rIsi K [v, w] H Q := fun va h1 h2 => ⟨v, w, va, vb, r, rfl, vb2, h2, T.ok a b r va vb e3 h1 vb1, hq⟩
    cases hx with
    | non => cases e1; exact fin _ rfl (.base .non)
    | bl b => cases e1; exact fin _ rfl (.base (.bl _))
    | int i => cases e1; exact fin _ rfl (.base (.int _))
    | str x => cases e1; exact fin _ rfl (.base (.str _))
    | tup n rd l =>
      cases e1
      rcases rd with rd | ⟨o, rd⟩
      · exact fin _ rfl (.base (.tup rd))
      · exact fin _ rfl (.fTuple rd)
    | lst n rd l => cases e1; exact fin _ rfl (.base (.lst rd))
    | tupK rd l => cases e1
    | scr n rd l => cases e1
    | scrK r l => cases e1
    | ins n e rd l =>
      cases e1
      have t := T.ins _ _ _ _ e3 e
      exact fin _ ⟨e, _, rfl⟩ (.base (.ins rd t.cl t.ha t.hn t.htk t.hm))
    | «mut» ea =>
      unfold tyS at e1
      dsimp only at e1
      split at e1
      · rename_i es he
        cases e1
        obtain ⟨vs, h1, _⟩ := R.at_ _ _ (.l es) ea he
        exact fin _ rfl (.base (.lst h1))
      · rename_i es he
        cases e1
        obtain ⟨vs, h1, _⟩ := R.at_ _ _ (.d es) ea he
        exact fin _ rfl (.base (.dK h1))
      · rename_i c' es he
        cases e1
        obtain ⟨C, dx, vs, eC, h1, _⟩ := R.at_ _ _ (.i c' es) ea he
        have t := T.ins _ _ _ _ e3 eC
        exact fin _ ⟨eC, _, rfl⟩ (.base (.ins h1 t.cl t.ha t.hn t.htk t.hm))
      · cases e1
    | ty n => cases e1
    | cls e => cases e1
    | obj a => cases e1
    | dct n rd l =>
      cases e1
      rcases rd with rd | ⟨o, rd⟩
      · exact fin _ rfl (.base (.dK rd))
      · exact fin _ rfl (.fDict rd)
    | exc n rd l => cases e1
    | err n nd e ra rd l => cases e1
    | err0 n e ra => cases e1
/-! ### abs, str, repr of an own object -/
section
variable {X : Cx} {k : Nat} {C g : Addr} {fd : FuncData} {ps : List Str} {sp : Sp}
theorem run_at {pins : List (Addr × Obj)} {σ : L2.St} {H : Hp} {s : Shared} {Q : VK} {us : List Value} {vs : List V} {A : Around} (F : FnOk X.prog X.w X.K X.mg X.base CX0 k g fd ps sp) (hr : Room k A) (he : Env0 X.prog X.w X.K X.mg X.base A X.stack s H) (hb : Binds X.K fd ps [])
    (I : Inv X pins σ H s) (r : Vals vs us) (h : sp vs H Q E0) : wpAny (model X.prog X.w) A (call (.ref g) us) (EP X pins σ Q) X.xe s := by
  have hl : us.length = ps.length := by rw [← r.length]; exact F.len _ _ _ _ h
  refine wpAny_call (codeAny_mono (F.run A X.stack s H ⟨us, []⟩ us vs Q E0 hr he (by simpa using hb s us I.kIn (by simpa using hl)) r h) fun r s' hq => ?_)
  cases r with
  | error e => exact False.elim hq
  | ok fl =>
    cases fl with
    | ret u => exact I.after hq
    | next => exact False.elim hq
    | brk => exact False.elim hq
    | cont => exact False.elim hq
def rOwn1 (C : Addr) (sp : Sp) : List V → Hp → VK → Prop := fun xs H Q => ∃ a dx fs, xs = [V.ref a] ∧ H a = some (.ins C dx fs) ∧ sp [.ref a] H Q E0
def rOwnS (C : Addr) (sp : Sp) : List V → Hp → VK → Prop := fun xs H Q => ∃ a dx fs, xs = [V.ref a] ∧ H a = some (.ins C dx fs) ∧ sp [.ref a] H (fun v H' => (∃ z, v = .str z) ∧ Q v H') E0
theorem call_absOwn (M : OwnM X.K C "__abs__" g) (F : FnOk X.prog X.w X.K X.mg X.base CX0 k g fd ps sp) (hr : Room (k + 1) X.A) (hb : Binds X.K fd ps []) : CallR X (.builtin "abs") (rOwn1 C sp) := by
  intro pins s σ H xs us Q I r h
  obtain ⟨a, dx, fs, rfl, ha, q⟩ := h
  obtain ⟨u, rfl, ru⟩ := vals1 r
  cases (show u = Value.ref a from ru)
  obtain ⟨mA, OM, _⟩ := ins_get I.hok ha
  obtain ⟨od, J, _⟩ := OM.look
  refine Calls.call_function_entry kind_abs plain_abs entry_abs (args_abs _) ?_
  unfold Builtin.«abs»
  refine wpAny_bind (m := oneArg "abs" _) (wpAny_pure ?_)
  refine wpAny_bind (m := callSpecial? (.ref a) (Str.ofString "__abs__")) (PySem.W.special_fn I.kIn J M.at_ (beq_iff_eq.mp M.fn) ?_)
  refine wpAny_mono (run_at (us := [.ref a]) (vs := [.ref a]) (A := X.A.in1) F hr.in1 I.env0.in1 hb I (.cons rfl .nil) q) (fun w s' z => ?_) fun _ _ e => e
  exact wpAny_pure ⟨_, rfl, z⟩
theorem call_strOwn (M : OwnM X.K C "__str__" g) (F : FnOk X.prog X.w X.K X.mg X.base CX0 k g fd ps sp) (hr : Room (k + 2) X.A) (hb : Binds X.K fd ps []) : CallR X (.type "str") (rOwnS C sp) := by
  intro pins s σ H xs us Q I r h
  obtain ⟨a, dx, fs, rfl, ha, q⟩ := h
  obtain ⟨u, rfl, ru⟩ := vals1 r
  cases (show u = Value.ref a from ru)
  obtain ⟨mA, OM, _⟩ := ins_get I.hok ha
  obtain ⟨od, J, _⟩ := OM.look
  have hr2 : Room k X.A.in1.in1 := (show Room (k + 1) X.A.in1 from Room.in1 hr).in1
  refine PySem.W.kso_call hr2.units0 I.kIn J M.at_ M.fn ?_
  refine wpAny_mono (run_at (us := [.ref a]) (vs := [.ref a]) (A := X.A.in1.in1) F hr2 I.env0.in1.in1 hb I (.cons rfl .nil) q) (fun w s' z => ?_) fun _ _ e => e
  obtain ⟨v, H', I', rv, ⟨zz, rfl⟩, qq⟩ := z
  obtain ⟨t, rfl⟩ := (show ∃ t, w = Value.str zz t from rv)
  exact ⟨.str zz, H', I', ⟨t, rfl⟩, qq⟩
theorem call_reprOwn (M : OwnM X.K C "__repr__" g) (F : FnOk X.prog X.w X.K X.mg X.base CX0 k g fd ps sp) (hr : Room (k + 1) X.A) (hb : Binds X.K fd ps []) : CallR X (.builtin "repr") (rOwnS C sp) := by
  intro pins s σ H xs us Q I r h
  obtain ⟨a, dx, fs, rfl, ha, q⟩ := h
  obtain ⟨u, rfl, ru⟩ := vals1 r
  cases (show u = Value.ref a from ru)
  obtain ⟨mA, OM, _⟩ := ins_get I.hok ha
  obtain ⟨od, J, _⟩ := OM.look
  obtain ⟨m, hF⟩ := I.fr
  refine PySem.W.repr_K hr.in1.units0 hF I.ok.mod.kin J M.at_ M.fn ?_
  refine wpAny_mono (run_at (us := [.ref a]) (vs := [.ref a]) (A := X.A.in1) F hr.in1 I.env0.in1 hb I (.cons rfl .nil) q) (fun w s' z => ?_) fun _ _ e => e
  obtain ⟨v, H', I', rv, ⟨zz, rfl⟩, qq⟩ := z
  obtain ⟨t, rfl⟩ := (show ∃ t, w = Value.str zz t from rv)
  exact ⟨.str zz, H', I', ⟨t, rfl⟩, qq⟩
end
section
variable {mg : MG}
theorem snd_own1 {c : Str} {C : Addr} {w : WF} (hC : mg.f c = some (.ref C)) : SndC mg (rOwn1 C (spW mg 1 w)) (oOwnL c w) := by
  intro A S H xs ds Q Q' R l q k
  match ds, q, l with
  | [x], q, l =>
    obtain ⟨v, rfl, hx⟩ := l.one
    obtain ⟨⟨fds, rfl⟩, q⟩ := q
    obtain ⟨a, dx, fs, rfl, ha⟩ := hx.insOf hC
    exact ⟨a, dx, fs, rfl, ha, A, S, [_], Q', R, .cons hx .nil, rfl, q, k⟩
/-- its answer is a text -/
def oOwnS (c : Str) (w : WF) : LD := fun ds S Q => match ds with
  | [x] => (∃ fds, x = .ins c fds) ∧ w [x] S fun d S' => (∃ z, d = .str z) ∧ Q d S'
  | _ => False
theorem snd_ownS {c : Str} {C : Addr} {w : WF} (hC : mg.f c = some (.ref C)) : SndC mg (rOwnS C (spW mg 1 w)) (oOwnS c w) := by
  intro A S H xs ds Q Q' R l q k
  match ds, q, l with
  | [x], q, l =>
    obtain ⟨v, rfl, hx⟩ := l.one
    obtain ⟨⟨fds, rfl⟩, q⟩ := q
    obtain ⟨a, dx, fs, rfl, ha⟩ := hx.insOf hC
    refine ⟨a, dx, fs, rfl, ha, A, S, [_], _, R, .cons hx .nil, rfl, q, fun d S' A' v H' g R' hv qq => ?_⟩
    obtain ⟨⟨z, rfl⟩, qq⟩ := qq
    cases hv
    exact ⟨⟨z, rfl⟩, k _ S' A' _ H' g R' (.str z) qq⟩
end
/-! ### f-strings -/
def wFmt (we : WD) : WD := fun ρ S Q => we ρ S fun x S1 => match x with
  | .str y => y.length ≤ sizeLine ∧ Q (.str y) S1
  | .int i => i.natAbs.log2 < 1920 ∧ Q (.str (toString i)) S1
  | _ => False
def wJs : List WD → Str → DEnv → MS → (Str → MS → Prop) → Prop
  | [], acc, _, S, Q => Q acc S
  | w :: ws, acc, ρ, S, Q => w ρ S fun x S1 => match x with
    | .str y => (acc ++ y).length ≤ sizeLine ∧ wJs ws (acc ++ y) ρ S1 Q
    | _ => False
def wJoined (ws : List WD) : WD := fun ρ S Q => wJs ws Str.empty ρ S fun out S1 => Q (.str out) S1
section
variable {X : Cx} {pos : Pos}
theorem d_fmt {e : Expr} {te : TE} {we : WD} (he : PD X e te we) : PD X (.FormattedValue e (-1) none pos) (tFmt te) (wFmt we) := by
  refine ⟨pe_fmt he.pe, fun A S σ H ρ Q Q' R E h k => ?_⟩
  refine he.sd A S σ H ρ _ _ R E h fun d S1 A1 v H1 g1 R1 hv q1 => ?_
  cases hv <;> first | exact q1.elim | skip
  · exact .inr ⟨_, rfl, q1.1, k _ S1 A1 _ H1 g1 R1 (.str _) q1.2⟩
  · exact .inl ⟨_, rfl, q1.1, k _ S1 A1 _ H1 g1 R1 (.str _) q1.2⟩
inductive PDJ (X : Cx) : List Expr → List TE → List WD → Prop where
  | nil : PDJ X [] [] []
  | cons {e : Expr} {t : TE} {w : WD} {es : List Expr} {ts : List TE} {ws : List WD} (h : PD X e t w) (r : PDJ X es ts ws) : PDJ X (e :: es) (t :: ts) (w :: ws)
theorem PDJ.pj {es : List Expr} {ts : List TE} {ws : List WD} (h : PDJ X es ts ws) : PJ X es ts := by
  induction h with
  | nil => exact .nil
  | cons h _ ih => exact .cons h.pe ih
theorem PDJ.sd {es : List Expr} {ts : List TE} {ws : List WD} (h : PDJ X es ts ws) : ∀ (acc : Str) A S σ H ρ (Q : Str → Hp → Prop) (Q' : Str → MS → Prop), Rep X.G A S H → EnvD X.G A H σ ρ → wJs ws acc ρ S Q' →
    (∀ out S' A' H', Grow A A' H H' → Rep X.G A' S' H' → Q' out S' → Q out H') → tJs ts acc σ H Q := by
  induction h with
  | nil => intro acc A S σ H ρ Q Q' R E q k; exact k acc S A H .refl R q
  | cons h _ ih =>
    intro acc A S σ H ρ Q Q' R E q k
    refine h.sd A S σ H ρ _ _ R E q fun d S1 A1 v H1 g1 R1 hv q1 => ?_
    cases hv <;> first | exact q1.elim | skip
    exact ⟨_, rfl, q1.1, ih _ A1 S1 σ H1 ρ Q Q' R1 (E.mono g1) q1.2 fun out S' A' H' g R' z => k out S' A' H' (g1.trans g) R' z⟩
theorem d_joined {v1 v2 : Expr} {rest : List Expr} {ts : List TE} {ws : List WD} (h : PDJ X (v1 :: v2 :: rest) ts ws) : PD X (.JoinedStr (v1 :: v2 :: rest) pos) (fun σ H Q => tJs ts Str.empty σ H fun out H1 => Q (.str out) H1) (wJoined ws) :=
  ⟨pe_joined h.pj, fun A S σ H ρ Q Q' R E q k => h.sd Str.empty A S σ H ρ _ _ R E q fun out S' A' H' g R' z => k (.str out) S' A' _ H' g R' (.str out) z⟩
end
/-! ### slices of lists -/
def cutD (xs : List D) (lo hi : Option Int) : List D := (xs.drop (HT.sIx xs.length 0 lo)).take (HT.sIx xs.length xs.length hi - HT.sIx xs.length 0 lo)
theorem IsL.drop {mg : MG} {A : List Addr} {H : Hp} : ∀ {vs : List V} {ds : List D} (n : Nat), IsL mg A H vs ds → IsL mg A H (vs.drop n) (ds.drop n)
  | _, _, 0, l => l
  | _, _, _ + 1, .nil => .nil
  | _, _, n + 1, .cons _ t => IsL.drop n t
theorem IsL.take {mg : MG} {A : List Addr} {H : Hp} : ∀ {vs : List V} {ds : List D} (n : Nat), IsL mg A H vs ds → IsL mg A H (vs.take n) (ds.take n)
  | _, _, 0, _ => .nil
  | _, _, _ + 1, .nil => .nil
  | _, _, n + 1, .cons h t => .cons h (IsL.take n t)
theorem IsL.cut {mg : MG} {A : List Addr} {H : Hp} {vs : List V} {ds : List D} (lo hi : Option Int) (l : IsL mg A H vs ds) : IsL mg A H (cutV vs lo hi) (cutD ds lo hi) := by
  unfold cutV cutD
  rw [l.length]
  exact (l.drop _).take _
/-- xs[:n], n written -/
def wCutTo (we : WD) (n : Int) : WD := fun ρ S Q => we ρ S fun x S1 => match x with
  | .scr ds => Q (.lst (cutD ds none (some n))) S1
  | _ => False
theorem d_cutTo {X : Cx} {e : Expr} {te : TE} {we : WD} {n : Int} {j p1 p2 pos} (he : PD X e te we) : PD X (.Subscript e (.Slice none (some (.Constant (.int n) j p1)) none p2) pos) (tSl (rSlL X.K) te tNoPart (tPart (tC (.int n)))) (wCutTo we n) := by
  refine ⟨pe_slice sl_list he.pe po_none (po_some pe_int), fun A S σ H ρ Q Q' R E h k => ?_⟩
  refine he.sd A S σ H ρ _ _ R E h fun d S1 A1 v H1 g1 R1 hv q1 => ?_
  cases d <;> first | exact q1.elim | skip
  obtain ⟨a, vs, rfl, sq, l⟩ := hv.scrAt
  refine ⟨n, rfl, a, vs, rfl, sq _ _ .refl, fun p hp => ?_⟩
  have g := grow_new (o := .lst (cutV vs none (some n))) R1 hp
  exact k _ S1 A1 _ _ (g1.trans g) (R1.new hp) (.lst (R1.fresh hp) upd_same ((l.cut _ _).mono g)) q1
/-! ### truth -/
def wTruth (we : WD) : WB := fun ρ S Q => we ρ S fun x S1 => match x with
  | .non => Q false S1
  | .bl b => Q b S1
  | .int i => Q (i != 0) S1
  | .str y => y.length ≤ sizeLine ∧ Q ((y.length : Int) != 0) S1
  | .lst ds => Q (!ds.isEmpty) S1
  | .scr ds => Q (!ds.isEmpty) S1
  | .tup ds => Q (!ds.isEmpty) S1
  | .mut m => ∃ ds, S1[m]? = some (.l ds) ∧ Q (!ds.isEmpty) S1
  | _ => False
theorem isEmpty_isL {mg : MG} {A : List Addr} {H : Hp} {vs : List V} {ds : List D} (l : IsL mg A H vs ds) : vs.isEmpty = ds.isEmpty := by cases l <;> rfl
theorem dt_truth {X : Cx} {e : Expr} {te : TE} {we : WD} (he : PD X e te we) (hi : ∀ whole, isTrue e X.env whole = (do let v ← whole; standAt e.pos; holding [v] (truthy v)) := by intro _; rfl) :
    PDT X e (fun σ H Q => te σ H fun x H' => ∃ k, TruV X.K x H' k ∧ Q k H') (wTruth we) := by
  refine ⟨pt_truth he.pe hi, fun A S σ H ρ Q Q' R E h k => ?_⟩
  refine he.sd A S σ H ρ _ _ R E h fun d S1 A1 v H1 g1 R1 hv q1 => ?_
  cases hv <;> first | exact q1.elim | skip
  · exact ⟨false, rfl, k _ S1 A1 H1 g1 R1 q1⟩
  · exact ⟨_, rfl, k _ S1 A1 H1 g1 R1 q1⟩
  · exact ⟨_, rfl, k _ S1 A1 H1 g1 R1 q1⟩
  · exact ⟨_, ⟨q1.1, rfl⟩, k _ S1 A1 H1 g1 R1 q1.2⟩
  · rename_i a vs ds n r l
    exact ⟨!vs.isEmpty, .inr (.inl ⟨vs, .inl r, rfl⟩), by rw [isEmpty_isL l]; exact k _ S1 A1 H1 g1 R1 q1⟩
  · rename_i a vs ds n r l
    exact ⟨!vs.isEmpty, .inl ⟨vs, .of r, rfl⟩, by rw [isEmpty_isL l]; exact k _ S1 A1 H1 g1 R1 q1⟩
  · rename_i a vs ds n r l
    exact ⟨!vs.isEmpty, .inl ⟨vs, .inl r, rfl⟩, by rw [isEmpty_isL l]; exact k _ S1 A1 H1 g1 R1 q1⟩
  · rename_i a vs ds r l
    exact ⟨!vs.isEmpty, .inl ⟨vs, r _, rfl⟩, by rw [isEmpty_isL l]; exact k _ S1 A1 H1 g1 R1 q1⟩
  · rename_i a m ea
    obtain ⟨ds, hs, q⟩ := q1
    obtain ⟨vs, h1, l⟩ := R1.at_ m a (.l ds) ea hs
    exact ⟨!vs.isEmpty, .inl ⟨vs, .of h1, rfl⟩, by rw [isEmpty_isL l]; exact k _ S1 A1 H1 g1 R1 q⟩
end DL

set_option Elab.async false
set_option linter.all false
set_option maxRecDepth 100000
/-! The built-in names. -/
namespace DL
open PySem PySem.Spec PyProof.Rows L2
theorem bt_isinstance : bootBuiltins "isinstance" = some (.builtin "isinstance") := by decide +kernel
theorem bt_repr : bootBuiltins "repr" = some (.builtin "repr") := by decide +kernel
theorem bt_abs : bootBuiltins "abs" = some (.builtin "abs") := by decide +kernel
theorem bt_len : bootBuiltins "len" = some (.builtin "len") := by decide +kernel
theorem bt_max : bootBuiltins "max" = some (.builtin "max") := by decide +kernel
theorem bt_min : bootBuiltins "min" = some (.builtin "min") := by decide +kernel
theorem bt_divmod : bootBuiltins "divmod" = some (.builtin "divmod") := by decide +kernel
theorem bt_all : bootBuiltins "all" = some (.builtin "all") := by decide +kernel
theorem bt_int : bootBuiltins "int" = some (.type "int") := by decide +kernel
theorem bt_bool : bootBuiltins "bool" = some (.type "bool") := by decide +kernel
theorem bt_str : bootBuiltins "str" = some (.type "str") := by decide +kernel
theorem bt_list : bootBuiltins "list" = some (.type "list") := by decide +kernel
theorem bt_tuple : bootBuiltins "tuple" = some (.type "tuple") := by decide +kernel
end DL

set_option Elab.async false
set_option linter.all false
set_option maxRecDepth 100000
/-! One class beside the ints: operators by what stands on both sides. -/
namespace DL
open PySem PySem.Spec PyProof.Rows L2
abbrev OInt := Int → Int → MS → (D → MS → Prop) → Prop
def oJust (oi : OInt) : OD := fun x y S Q => match x, y with
  | .int i, .int j => oi i j S Q
  | _, _ => False
/-- ints by oi, an instance on the left by wl, on the right of an int by wr -/
def oU2 (oi : OInt) (c : Str) (wl wr : WF) : OD := fun x y S Q => match x, y with
  | .int i, .int j => oi i j S Q
  | .ins c' fs, .ins d gs => c' = c ∧ d = c ∧ wl [.ins c' fs, .ins d gs] S Q
  | .ins c' fs, .int i => c' = c ∧ wl [.ins c' fs, .int i] S Q
  | .int i, .ins d gs => d = c ∧ wr [.ins d gs, .int i] S Q
  | _, _ => False
def wNo : WF := fun _ _ _ => False
def rU2 (ri : L2.R2) (C : Addr) (mg : MG) (wl wr : WF) : L2.R2 := fun x y H Q => ri x y H Q ∨ rOwnB C (spW mg 2 wl) E0 x y H Q ∨ rOwnI C (spW mg 2 wr) E0 x y H Q
def rU1 (ri : L2.R2) (C : Addr) (mg : MG) (wl : WF) : L2.R2 := fun x y H Q => ri x y H Q ∨ rOwnB C (spW mg 2 wl) E0 x y H Q
theorem snd_U2 {mg : MG} {ri : L2.R2} {oi : OInt} {c : Str} {C : Addr} {wl wr : WF} (hi : SndR mg ri (oJust oi)) (hC : mg.f c = some (.ref C)) : SndR mg (rU2 ri C mg wl wr) (oU2 oi c wl wr) := by
  refine SndR.imp (SndR.or hi (SndR.or (snd_ownB hC) (snd_ownI hC))) fun x y S Q q => ?_
  cases x <;> cases y <;> first | exact q.elim | skip
  · exact .inl q
  · obtain ⟨rfl, q⟩ := q
    exact .inr (.inr ⟨⟨_, rfl⟩, ⟨_, rfl⟩, q⟩)
  · obtain ⟨rfl, q⟩ := q
    exact .inr (.inl ⟨⟨_, rfl⟩, .inr ⟨_, rfl⟩, q⟩)
  · obtain ⟨rfl, rfl, q⟩ := q
    exact .inr (.inl ⟨⟨_, rfl⟩, .inl ⟨_, rfl⟩, q⟩)
theorem snd_U1 {mg : MG} {ri : L2.R2} {oi : OInt} {c : Str} {C : Addr} {wl : WF} (hi : SndR mg ri (oJust oi)) (hC : mg.f c = some (.ref C)) : SndR mg (rU1 ri C mg wl) (oU2 oi c wl wNo) := by
  refine SndR.imp (SndR.or hi (snd_ownB hC)) fun x y S Q q => ?_
  cases x <;> cases y <;> first | exact q.elim | skip
  · exact .inl q
  · exact q.2.elim
  · obtain ⟨rfl, q⟩ := q
    exact .inr ⟨⟨_, rfl⟩, .inr ⟨_, rfl⟩, q⟩
  · obtain ⟨rfl, rfl, q⟩ := q
    exact .inr ⟨⟨_, rfl⟩, .inl ⟨_, rfl⟩, q⟩
/-- the ints' part -/
def iAdd : OInt := fun i j S Q => Q (.int (i + j)) S
def iSub : OInt := fun i j S Q => Q (.int (i - j)) S
def iMul : OInt := fun i j S Q => CMulW i j ∧ Q (.int (i * j)) S
def iFdiv : OInt := fun i j S Q => CDivWN i j ∧ Q (.int (i.fdiv j)) S
def iMod : OInt := fun i j S Q => j ≠ 0 ∧ Q (.int (i.fmod j)) S
def iEq : OInt := fun i j S Q => Q (.bl (decide (i = j))) S
def iNe : OInt := fun i j S Q => Q (.bl (!decide (i = j))) S
def iLt : OInt := fun i j S Q => Q (.bl (decide (i < j))) S
def iLe : OInt := fun i j S Q => Q (.bl (decide (i ≤ j))) S
def iGt : OInt := fun i j S Q => Q (.bl (decide (j < i))) S
def iGe : OInt := fun i j S Q => Q (.bl (decide (j ≤ i))) S
section
variable {mg : MG}
theorem snd_just0 {g : Int → Int → V} {g' : Int → Int → D} (hg : ∀ i j A H, Is mg A H (g i j) (g' i j)) : SndR mg (rI0 g) (oJust fun i j S Q => Q (g' i j) S) := SndR.imp (snd_rI0 hg) fun x y S Q q => by
  cases x <;> cases y <;> first | exact q.elim | exact q
theorem snd_justC {C : Int → Int → Prop} {g : Int → Int → V} {g' : Int → Int → D} (hg : ∀ i j A H, Is mg A H (g i j) (g' i j)) : SndR mg (rI C g) (oJust fun i j S Q => C i j ∧ Q (g' i j) S) := SndR.imp (snd_rI hg) fun x y S Q q => by
  cases x <;> cases y <;> first | exact q.elim | exact q
theorem snd_iAdd : SndR mg (rI0 fun i j => .int (i + j)) (oJust iAdd) := snd_just0 fun _ _ _ _ => .int _
theorem snd_iSub : SndR mg (rI0 fun i j => .int (i - j)) (oJust iSub) := snd_just0 fun _ _ _ _ => .int _
theorem snd_iMul : SndR mg (rI CMulW fun i j => .int (i * j)) (oJust iMul) := snd_justC fun _ _ _ _ => .int _
theorem snd_iFdiv : SndR mg (rI CDivWN fun i j => .int (i.fdiv j)) (oJust iFdiv) := snd_justC fun _ _ _ _ => .int _
theorem snd_iMod : SndR mg (rI (fun _ j => j ≠ 0) fun i j => .int (i.fmod j)) (oJust iMod) := snd_justC fun _ _ _ _ => .int _
theorem snd_iLt : SndR mg (rI0 fun i j => .bl (decide (i < j))) (oJust iLt) := snd_just0 fun _ _ _ _ => .bl _
theorem snd_iLe : SndR mg (rI0 fun i j => .bl (decide (i ≤ j))) (oJust iLe) := snd_just0 fun _ _ _ _ => .bl _
theorem snd_iGt : SndR mg (rI0 fun i j => .bl (decide (j < i))) (oJust iGt) := snd_just0 fun _ _ _ _ => .bl _
theorem snd_iGe : SndR mg (rI0 fun i j => .bl (decide (j ≤ i))) (oJust iGe) := snd_just0 fun _ _ _ _ => .bl _
/-- == and != of ints, of texts -/
theorem snd_iEq : SndR mg rEq (oJust iEq) := by
  intro A S H x y dx dy Q Q' R hx hy q k
  cases dx <;> cases dy <;> first | exact q.elim | skip
  cases hx; cases hy
  refine ⟨rfl, ?_⟩
  rename_i i j
  have e : decide (V.int i = V.int j) = decide (i = j) := by simp
  rw [e]
  exact k _ S A _ H .refl R (.bl _) q
theorem snd_iNe : SndR mg rNe (oJust iNe) := by
  intro A S H x y dx dy Q Q' R hx hy q k
  cases dx <;> cases dy <;> first | exact q.elim | skip
  cases hx; cases hy
  refine ⟨rfl, ?_⟩
  rename_i i j
  have e : decide (V.int i = V.int j) = decide (i = j) := by simp
  rw [e]
  exact k _ S A _ H .refl R (.bl _) q
/-- minus, abs -/
def oUn1 (oi : Int → MS → (D → MS → Prop) → Prop) (c : Str) (w : WF) : UD := fun x S Q => match x with
  | .int i => oi i S Q
  | .ins c' fs => c' = c ∧ w [.ins c' fs] S Q
  | _ => False
def rUn1 (ri : V → Hp → VK → Prop) (C : Addr) (mg : MG) (w : WF) : V → Hp → VK → Prop := fun x H Q => ri x H Q ∨ rOwnU C (spW mg 1 w) E0 x H Q
def iNeg : Int → MS → (D → MS → Prop) → Prop := fun i S Q => Q (.int (-i)) S
theorem snd_neg1 {c : Str} {C : Addr} {w : WF} (hC : mg.f c = some (.ref C)) : SndU mg (rUn1 (rU fun i => .int (-i)) C mg w) (oUn1 iNeg c w) := by
  refine SndU.imp (SndU.or (snd_rU (g' := fun i => .int (-i)) fun _ _ _ => .int _) (snd_ownU hC)) fun x S Q q => ?_
  cases x <;> first | exact q.elim | skip
  · exact .inl q
  · obtain ⟨rfl, q⟩ := q
    exact .inr ⟨⟨_, rfl⟩, q⟩
/-- a built-in of one value: of an int by oi, of an instance by w -/
def oL1 (oi : Int → MS → (D → MS → Prop) → Prop) (c : Str) (w : WF) : LD := fun ds S Q => match ds with
  | [.int i] => oi i S Q
  | [.ins c' fs] => c' = c ∧ w [.ins c' fs] S Q
  | _ => False
def iAbs : Int → MS → (D → MS → Prop) → Prop := fun i S Q => Q (.int (if i < 0 then -i else i)) S
def iStr : Int → MS → (D → MS → Prop) → Prop := fun i S Q => i.natAbs.log2 < 1920 ∧ Q (.str (toString i)) S
def rAbs1 (C : Addr) (mg : MG) (w : WF) : List V → Hp → VK → Prop := fun xs H Q => (∃ i, xs = [.int i] ∧ Q (.int (if i < 0 then -i else i)) H) ∨ rOwn1 C (spW mg 1 w) xs H Q
theorem snd_abs1 {c : Str} {C : Addr} {w : WF} (hC : mg.f c = some (.ref C)) : SndC mg (rAbs1 C mg w) (oL1 iAbs c w) := by
  refine SndC.imp (SndC.or snd_absI (snd_own1 hC)) fun xs S Q q => ?_
  match xs, q with
  | [.int i], q => exact .inl q
  | [.ins c' fs], q =>
    have q' : c' = c ∧ w [.ins c' fs] S Q := q
    obtain ⟨rfl, q'⟩ := q'
    exact .inr ⟨⟨_, rfl⟩, q'⟩
def oS1 (oi : Int → MS → (D → MS → Prop) → Prop) (c : Str) (w : WF) : LD := fun ds S Q => match ds with
  | [.int i] => oi i S Q
  | [.ins c' fs] => c' = c ∧ w [.ins c' fs] S fun d S' => match d with
    | .str z => Q (.str z) S'
    | _ => False
  | _ => False
def rStr1 (C : Addr) (mg : MG) (w : WF) : List V → Hp → VK → Prop := fun xs H Q => (∃ i, xs = [.int i] ∧ i.natAbs.log2 < 1920 ∧ Q (.str (toString i)) H) ∨ rOwnS C (spW mg 1 w) xs H Q
theorem snd_str1 {c : Str} {C : Addr} {w : WF} (hw : ∀ ds S Q Q', (∀ d S, Q d S → Q' d S) → w ds S Q → w ds S Q') (hC : mg.f c = some (.ref C)) : SndC mg (rStr1 C mg w) (oS1 iStr c w) := by
  refine SndC.imp (SndC.or snd_strI (snd_ownS hC)) fun xs S Q q => ?_
  match xs, q with
  | [.int i], q => exact .inl q
  | [.ins c' fs], q =>
    have q' : c' = c ∧ w [.ins c' fs] S (fun d S' => match d with
      | .str z => Q (.str z) S'
      | _ => False) := q
    obtain ⟨rfl, q'⟩ := q'
    refine .inr ⟨⟨_, rfl⟩, hw _ _ _ _ (fun d S h => ?_) q'⟩
    cases d <;> first | exact h.elim | exact ⟨⟨_, rfl⟩, h⟩
/-- repr of an instance alone -/
def oR1 (c : Str) (w : WF) : LD := fun ds S Q => match ds with
  | [.ins c' fs] => c' = c ∧ w [.ins c' fs] S fun d S' => match d with
    | .str z => Q (.str z) S'
    | _ => False
  | _ => False
theorem snd_repr1 {c : Str} {C : Addr} {w : WF} (hw : ∀ ds S Q Q', (∀ d S, Q d S → Q' d S) → w ds S Q → w ds S Q') (hC : mg.f c = some (.ref C)) : SndC mg (rOwnS C (spW mg 1 w)) (oR1 c w) := by
  refine SndC.imp (snd_ownS hC) fun xs S Q q => ?_
  match xs, q with
  | [.ins c' fs], q =>
    have q' : c' = c ∧ w [.ins c' fs] S (fun d S' => match d with
      | .str z => Q (.str z) S'
      | _ => False) := q
    obtain ⟨rfl, q'⟩ := q'
    refine ⟨⟨_, rfl⟩, hw _ _ _ _ (fun d S h => ?_) q'⟩
    cases d <;> first | exact h.elim | exact ⟨⟨_, rfl⟩, h⟩
end
section
variable {X : Cx}
/-- three names at once -/
theorem _root_.L2.CallR.orD {f : Value} {r r' : List V → Hp → VK → Prop} (h : CallR X f r) (h' : CallR X f r') : CallR X f (fun xs H Q => r xs H Q ∨ r' xs H Q) := DL.CallR.or h h'
end
end DL

set_option Elab.async false
set_option linter.all false
set_option maxRecDepth 100000
/-! Calls by two names, in the other order; three names at once. -/
namespace DL
open PySem PySem.Spec PyProof.Rows L2
structure PDK (X : Cx) (kws : List Keyword) (t : TA) (w : WL) : Prop where
  pe : PK X kws t
  sd : SndA X.G t w
section
variable {X : Cx} {CX : CXT} {k : Nat} {f C : Addr} {fd : FuncData} {ps ks : List Str} {sp : Sp} {E : XK} {x : Str} {p pos kpos : Pos} {kws : List Keyword} {t tk : TA} {g : List Value → List Value → List Value} {gV : List V → List V → List V} {nm : Option Str} {e : Expr} {te : TE} {we : WD} {wl : WL}
theorem pe_callK0 (F : FnOk X.prog X.w X.K X.mg X.base CX k f fd ps sp) (hr : Room k X.A) (hg : Gl X x) (hm : X.mg x = some (.ref f)) (hk : PySem.W.keepIn X.K (.ref f) = true) (hb : KBinds X.K fd ps ks g gV) (hx : Passes CX X E) (hkw : PK X kws tk)
    (hall : (backToKw pos (keywordEach kws X.env)).all (·.1.isSome) = true := by rfl) (hks : (backToKw pos (keywordEach kws X.env)).filterMap (·.1) = ks := by rfl) (hdb : (x == ("__debug__" : Str)) = false := by decide)
    (hpl : ((backTo pos (starEach [] X.env)).any (·.1) || (backToKw pos (keywordEach kws X.env)).any (·.1.isNone)) = false := by rfl) :
    PE X (.Call (.Name x p) [] kws pos) (tCallK sp gV E tNil tk) := by
  refine ⟨fun pins s σ H Q I h => ?_⟩
  refine wpAny_Call_Name_kw (ld_glob I hg hm ?_ hdb)
  refine PySem.W.callWith_KW0 (h₀ := X.base) I.ok.mod.kin hk hall ?_ hpl
  refine thn (hkw.run pos pins s σ H _ I h) fun ws s2 ⟨zs, H2, I2, rz, q2⟩ => ⟨I2.kIn, ?_⟩
  rw [hks]
  exact run_fnk (us := []) (vs := []) F hr hb hx I2 .nil rz q2
theorem dk_nil : PDK X [] tNil wNil := ⟨pk_nil, snd_nil⟩
theorem dk_cons (ha : PD X e te we) (hr : PDK X kws t wl) : PDK X (⟨nm, e, kpos⟩ :: kws) (tCons te t) (wCons we wl) := ⟨pk_cons ha.pe hr.pe, snd_cons ha.sd hr.sd⟩
/-- two values, the other way round -/
def swV : List V → List V → List V
  | [], [a, b] => [b, a]
  | _, _ => []
def swU : List Value → List Value → List Value
  | [], [a, b] => [b, a]
  | _, _ => []
def sw1V : List V → List V → List V
  | [x], [a, b] => [x, b, a]
  | _, _ => []
def sw1U : List Value → List Value → List Value
  | [x], [a, b] => [x, b, a]
  | _, _ => []
theorem sw_rel {vs zs : List V} {us ws : List Value} (r : Vals vs us) (rz : Vals zs ws) : Vals (swV vs zs) (swU us ws) := by
  cases r with
  | cons _ _ => exact .nil
  | nil =>
    cases rz with
    | nil => exact .nil
    | cons h1 t1 =>
      cases t1 with
      | nil => exact .nil
      | cons h2 t2 =>
        cases t2 with
        | nil => exact .cons h2 (.cons h1 .nil)
        | cons _ _ => exact .nil
theorem sw1_rel {vs zs : List V} {us ws : List Value} (r : Vals vs us) (rz : Vals zs ws) : Vals (sw1V vs zs) (sw1U us ws) := by
  cases r with
  | nil => exact .nil
  | cons h0 t0 =>
    cases t0 with
    | cons _ _ => exact .nil
    | nil =>
      cases rz with
      | nil => exact .nil
      | cons h1 t1 =>
        cases t1 with
        | nil => exact .nil
        | cons h2 t2 =>
          cases t2 with
          | nil => exact .cons h0 (.cons h2 (.cons h1 .nil))
          | cons _ _ => exact .nil
def wCallSw (w : WF) (wl : WL) : WD := fun ρ S Q => wl ρ S fun ds S1 => match ds with
  | [a, b] => w [b, a] S1 Q
  | _ => False
theorem d_callSw {w : WF} (F : FnOk X.prog X.w X.K X.mg X.base CX0 k f fd ps (spW X.G 2 w)) (hr : Room k X.A) (hm : X.mg x = some (.ref f)) (hk : PySem.W.keepIn X.K (.ref f) = true) (hb : KBinds X.K fd ps ks swU swV) (hkw : PDK X kws tk wl) (hg : Gl X x := by rfl)
    (hall : (backToKw pos (keywordEach kws X.env)).all (·.1.isSome) = true := by rfl) (hks : (backToKw pos (keywordEach kws X.env)).filterMap (·.1) = ks := by rfl) (hdb : (x == ("__debug__" : Str)) = false := by decide)
    (hpl : ((backTo pos (starEach [] X.env)).any (·.1) || (backToKw pos (keywordEach kws X.env)).any (·.1.isNone)) = false := by rfl) :
    PD X (.Call (.Name x p) [] kws pos) (tCallK (spW X.G 2 w) swV E0 tNil tk) (wCallSw w wl) := by
  refine ⟨pe_callK0 F hr hg hm hk hb pass0 hkw.pe hall hks hdb hpl, fun A S σ H ρ Q Q' R E h k => ?_⟩
  refine hkw.sd A S σ H ρ _ _ R E h fun ds S1 A1 vs H1 g1 R1 hv q1 => ?_
  match ds, hv, q1 with
  | [a, b], hv, q1 =>
    obtain ⟨v, w', rfl, h1, h2⟩ := hv.two
    exact ⟨A1, S1, [b, a], Q', R1, .cons h2 (.cons h1 .nil), rfl, q1, k.mono g1⟩
def wMakeSw (c : Str) (w : WI) (wl : WL) : WD := fun ρ S Q => wl ρ S fun ds S1 => match ds with
  | [a, b] => w [b, a] S1 fun fds S2 => Q (.ins c fds) S2
  | _ => False
theorem d_makeSw {wi : WI} (M : Mk X.K C f) (F : FnOk X.prog X.w X.K X.mg X.base CX0 k f fd ps (spInit X.G x 2 wi)) (hr : Room (k + 1) X.A) (hm : X.mg x = some (.ref C)) (hb : KBn X.K fd ps 1 ks sw1U sw1V) (hkw : PDK X kws tk wl) (hl : ks.length = 2 := by rfl) (hg : Gl X x := by rfl)
    (hall : (backToKw pos (keywordEach kws X.env)).all (·.1.isSome) = true := by rfl) (hks : (backToKw pos (keywordEach kws X.env)).filterMap (·.1) = ks := by rfl) (hdb : (x == ("__debug__" : Str)) = false := by decide)
    (hpl : ((backTo pos (starEach [] X.env)).any (·.1) || (backToKw pos (keywordEach kws X.env)).any (·.1.isNone)) = false := by rfl) :
    PD X (.Call (.Name x p) [] kws pos) (tMakeK C 0 ks.length (spInit X.G x 2 wi) sw1V E0 tNil tk) (wMakeSw x wi wl) := by
  refine ⟨pe_makeK0 M F hr hg hm hb pass0 hkw.pe hall hks hdb hpl, fun A S σ H ρ Q Q' R E h k => ?_⟩
  refine hkw.sd A S σ H ρ _ _ R E h fun ds S1 A1 vs H1 g1 R1 hv q1 => ?_
  match ds, hv, q1 with
  | [a, b], hv, q1 =>
    obtain ⟨v, w', rfl, h1, h2⟩ := hv.two
    refine ⟨rfl, hl.symm, fun y dx ny nd ne => ?_⟩
    exact made R1 hm (.cons h2 (.cons h1 .nil)) rfl q1 (k.mono g1) ny nd ne
end
end DL

set_option Elab.async false
set_option linter.all false
set_option maxRecDepth 100000
/-! Methods of own objects, of texts, of lists; bool(n); is None. -/
namespace DL
open PySem PySem.Spec PyProof.Rows L2
section
variable {X : Cx} {k n : Nat} {f C : Addr} {fd : FuncData} {ps : List Str} {w : WF} {x c m : Str} {p pos apos : Pos} {e o : Expr} {es : List Expr} {t : TA} {wl : WL} {te to : TE} {we wo : WD}
def wMeth (c m : Str) (n : Nat) (w : WF) (wo : WD) (wl : WL) : WD := fun ρ S Q => wo ρ S fun x S1 => match x with
  | .ins c' fs => c' = c ∧ fs.lookup m = none ∧ wl ρ S1 fun ds S2 => ds.length + 1 = n ∧ w (.ins c' fs :: ds) S2 Q
  | _ => False
theorem d_meth {pl : Sem Bool} (ho : PD X o to wo) (hC : X.mg c = some (.ref C)) (cl : Cls X.K C) (hm : Meth X.K C m f) (F : FnOk X.prog X.w X.K X.mg X.base CX0 k f fd ps (spW X.G n w)) (hr : Room k X.A) (hb : Binds X.K fd ps []) (ha : PDA X (e :: es) t wl)
    (hst : starEach (e :: es) X.env = (false, eval e X.env) :: starEach es X.env := by rfl) (hpl : (backTo pos (starEach es X.env)).any (·.1) = false := by rfl)
    (ht : eval (.Call (.Attribute o m apos) (e :: es) [] pos) X.env = (do
      let ov ← eval o X.env
      standAt apos.atName
      let (f, first) ← holding [ov] (getMethod ov m pl)
      callWith pos f first (backTo pos (starEach (e :: es) X.env)) (backToKw pos (keywordEach [] X.env))) := by rfl) :
    PD X (.Call (.Attribute o m apos) (e :: es) [] pos) (tMeth C m (spW X.G n w) [] E0 to t) (wMeth c m n w wo wl) := by
  refine ⟨pe_meth (pl := pl) ho.pe cl hm F hr hb .nil pass0 ha.pe hst hpl ht, fun A S σ H ρ Q Q' R E h k => ?_⟩
  refine ho.sd A S σ H ρ _ _ R E h fun d S1 A1 v H1 g1 R1 hv q1 => ?_
  cases hv <;> first | exact q1.elim | skip
  rename_i a C' dx c' fs fds na ec r l
  obtain ⟨rfl, hl, q1⟩ := q1
  have ec := (show X.mg _ = _ from ec)
  rw [hC] at ec
  cases ec
  refine ⟨a, dx, fs, rfl, r, l.no hl, ?_⟩
  refine ha.sd A1 S1 σ H1 ρ _ _ R1 (E.mono g1) q1 fun ds S2 A2 vs H2 g2 R2 hvs q2 => ?_
  exact ⟨A2, S2, .ins c' fds :: ds, Q', R2, by rw [List.append_nil]; exact .cons ((Is.ins na hC r l).mono g2) hvs, q2.1, q2.2, k.mono (g1.trans g2)⟩
def oBool1 : LD := fun ds S Q => match ds with
  | [.int i] => Q (.bl (i != 0)) S
  | [.bl b] => Q (.bl b) S
  | _ => False
theorem snd_bool1 {mg : MG} : SndC mg (fun xs H Q => (∃ i, xs = [.int i] ∧ Q (.bl (i != 0)) H) ∨ ∃ k, xs = [.bl k] ∧ Q (.bl k) H) oBool1 := by
  intro A S H xs ds Q Q' R l q k
  cases l with
  | nil => exact q.elim
  | cons h t =>
    cases t with
    | cons _ _ => cases h <;> exact q.elim
    | nil =>
      cases h <;> first | exact q.elim | skip
      · exact .inr ⟨_, rfl, k _ S A _ H .refl R (.bl _) q⟩
      · exact .inl ⟨_, rfl, k _ S A _ H .refl R (.bl _) q⟩
/-- x is None -/
def oIsN : OD := fun x y S Q => match y with
  | .non => (match x with
    | .non => Q (.bl true) S
    | .int _ => Q (.bl false) S
    | .bl _ => Q (.bl false) S
    | .str _ => Q (.bl false) S
    | .ins _ _ => Q (.bl false) S
    | .tup _ => Q (.bl false) S
    | .lst _ => Q (.bl false) S
    | _ => False)
  | _ => False
theorem snd_isN {mg : MG} : SndR mg (fun x y H Q => y = .non ∧ Q (.bl (decide (x = .non))) H) oIsN := by
  intro A S H x y dx dy Q Q' R hx hy q k
  cases hy <;> first | exact q.elim | skip
  refine ⟨rfl, ?_⟩
  cases hx <;> first | exact q.elim | skip
  all_goals exact k _ S A _ H .refl R (.bl _) q
/-! ### texts -/
def wM0 (g : Str → D) (wo : WD) : WD := fun ρ S Q => wo ρ S fun x S1 => match x with
  | .str a => Q (g a) S1
  | _ => False
def wM1 (c : Str → Str → Prop) (g : Str → Str → D) (wo we : WD) : WD := fun ρ S Q => wo ρ S fun x S1 => match x with
  | .str a => we ρ S1 fun y S2 => (match y with
    | .str b => c a b ∧ Q (g a b) S2
    | _ => False)
  | _ => False
theorem d_m0 {id : String} {name : Str} {g : Str → V} {g' : Str → D} (slot : Slot "str" name id) (ty : typeOf (.builtin id) = pure (.type "method_descriptor")) (rule : MtR X id (fun x xs H Q => ∃ a, x = .str a ∧ xs = [] ∧ True ∧ Q (g a) H)) (hg : ∀ a A H, Is X.G A H (g a) (g' a)) (ho : PD X o to wo)
    (hbase : attributeBase o name X.env (eval o X.env) = eval o X.env := by rfl) (hline : (apos.endLine == pos.line) = true := by rfl) : PD X (.Call (.Attribute o name apos) [] [] pos) (tM0 (fun x xs H Q => ∃ a, x = .str a ∧ xs = [] ∧ True ∧ Q (g a) H) to) (wM0 g' wo) := by
  refine ⟨pe_m0 slot ty rule ho.pe hbase hline, fun A S σ H ρ Q Q' R E h k => ?_⟩
  refine ho.sd A S σ H ρ _ _ R E h fun d S1 A1 v H1 g1 R1 hv q1 => ?_
  cases hv <;> first | exact q1.elim | skip
  exact ⟨⟨_, rfl⟩, _, rfl, rfl, trivial, k _ S1 A1 _ H1 g1 R1 (hg _ _ _) q1⟩
theorem d_m1 {id : String} {name : Str} {c : Str → Str → Prop} {g : Str → Str → V} {g' : Str → Str → D} {r : V → List V → Hp → VK → Prop} (slot : Slot "str" name id) (ty : typeOf (.builtin id) = pure (.type "method_descriptor")) (rule : MtR X id r) (hr : ∀ a b H Q, c a b → Q (g a b) H → r (.str a) [.str b] H Q) (hg : ∀ a b A H, Is X.G A H (g a b) (g' a b)) (ho : PD X o to wo) (he : PD X e te we)
    (hs : starEach [e] X.env = [(false, eval e X.env)] := by rfl) (hbase : attributeBase o name X.env (eval o X.env) = eval o X.env := by rfl) (hline : (apos.endLine == pos.line) = true := by rfl) :
    PD X (.Call (.Attribute o name apos) [e] [] pos) (tM1 r to te) (wM1 c g' wo we) := by
  refine ⟨pe_m1 slot ty rule ho.pe he.pe hs hbase hline, fun A S σ H ρ Q Q' R E h k => ?_⟩
  refine ho.sd A S σ H ρ _ _ R E h fun d S1 A1 v H1 g1 R1 hv q1 => ?_
  cases hv <;> first | exact q1.elim | skip
  refine ⟨⟨_, rfl⟩, ?_⟩
  refine he.sd A1 S1 σ H1 ρ _ _ R1 (E.mono g1) q1 fun d2 S2 A2 v2 H2 g2 R2 hv2 q2 => ?_
  cases hv2 <;> first | exact q2.elim | skip
  exact hr _ _ _ _ q2.1 (k _ S2 A2 _ H2 (g1.trans g2) R2 (hg _ _ _ _) q2.2)
def wPart (wo we : WD) : WD := wM1 (fun a b => (b.length == 0) = false ∧ a.length ≤ sizeLine) (fun a b => .tup [.str (Txt.partition a b).1, .str (Txt.partition a b).2.1, .str (Txt.partition a b).2.2]) wo we
theorem d_partition (ho : PD X o to wo) (he : PD X e te we) (hs : starEach [e] X.env = [(false, eval e X.env)] := by rfl) (hbase : attributeBase o "partition" X.env (eval o X.env) = eval o X.env := by rfl) (hline : (apos.endLine == pos.line) = true := by rfl) :
    PD X (.Call (.Attribute o "partition" apos) [e] [] pos) (tM1 (fun x xs H Q => ∃ a b, x = .str a ∧ xs = [.str b] ∧ (b.length == 0) = false ∧ a.length ≤ sizeLine ∧ ∀ p, H p = none → Q (.ref p) (upd H p (.tup [.str (Txt.partition a b).1, .str (Txt.partition a b).2.1, .str (Txt.partition a b).2.2]))) to te) (wPart wo we) := by
  refine ⟨pe_partition ho.pe he.pe hs hbase hline, fun A S σ H ρ Q Q' R E h k => ?_⟩
  refine ho.sd A S σ H ρ _ _ R E h fun d S1 A1 v H1 g1 R1 hv q1 => ?_
  cases hv <;> first | exact q1.elim | skip
  refine ⟨⟨_, rfl⟩, ?_⟩
  refine he.sd A1 S1 σ H1 ρ _ _ R1 (E.mono g1) q1 fun d2 S2 A2 v2 H2 g2 R2 hv2 q2 => ?_
  cases hv2 <;> first | exact q2.elim | skip
  rename_i a b
  refine ⟨_, _, rfl, rfl, q2.1.1, q2.1.2, fun p hp => ?_⟩
  have g := grow_new (o := .tup [.str (Txt.partition a b).1, .str (Txt.partition a b).2.1, .str (Txt.partition a b).2.2]) R2 hp
  exact k _ S2 A2 _ _ ((g1.trans g2).trans g) (R2.new hp) (.tup (R2.fresh hp) (.inl upd_same) (.cons (.str _) (.cons (.str _) (.cons (.str _) .nil)))) q2.2
/-! ### how often a truth stands in a list of them -/
def eqb (k : Bool) (v : Value) : Bool := match v with
  | .bool n => n == k
  | _ => false
theorem vals_bool : ∀ {bs : List Bool} {us : List Value}, Vals (bs.map V.bl) us → us = bs.map Value.bool
  | [], _, .nil => rfl
  | b :: bs, _, .cons h t => by
    rw [vals_bool t]
    cases (show _ = Value.bool b from h)
    rfl
theorem eqb_count {k : Bool} : ∀ bs : List Bool, (bs.map Value.bool).countP (eqb k) = bs.count k
  | [] => rfl
  | b :: bs => by
    rw [List.map_cons, List.countP_cons, List.count_cons, eqb_count bs]
    rfl
def rCntB (K : PySem.W.Frag) : V → List V → Hp → VK → Prop := fun x xs H Q => ∃ (p : Addr) (bs : List Bool) (k : Bool), x = .ref p ∧ xs = [.bl k] ∧ SqL K H p (bs.map V.bl) ∧ Q (.int (bs.count k : Nat)) H
theorem mt_lcountB : MtR X "list.count" (rCntB X.K) := fun pins s σ H x xs v us Q inv relx relxs hyp => by
  obtain ⟨l, truths, b, rfl, rfl, seq, fin⟩ := hyp
  cases relx
  obtain ⟨y, rfl, rely⟩ := relxs.one
  cases (show y = Value.bool b from rely)
  obtain ⟨held, relh, ⟨⟨kind, dict, dat, slots⟩, cap, here, hkind, hdict, hdat⟩, few⟩ := inv.list seq
  simp only at hkind hdat
  subst hkind hdat
  have flat := vals_bool relh
  have total : held.toArray.toList.countP (eqb b) = truths.count b := by
    rw [flat]
    exact eqb_count truths
  have facts := PySem.F.args_list_count_2 (.ref l) (.bool b)
  refine call_meets PySem.F.slot_list_count ⟨_, here, rfl⟩ PySem.F.entry_list_count facts (SeqAt.list_countAt l held.toArray cap dict slots (.bool b) (eqb b)) ⟨here, fun z hz => ?_, ?_⟩
  · have hz' : z ∈ held := by simpa using hz
    rw [flat] at hz'
    obtain ⟨t, _, rfl⟩ := List.mem_map.mp hz'
    exact SeqAt.EqAt.bool_bool t b
  · refine ⟨.int (truths.count b : Nat), H, inv.tok _, ⟨s.toks, ?_⟩, fin⟩
    show Value.int ((held.toArray.toList.countP (eqb b) : Nat) : Int) s.toks = Value.int ((truths.count b : Nat) : Int) s.toks
    rw [total]
def wCountB (wo we : WD) : WD := fun ρ S Q => wo ρ S fun x S1 => match x with
  | .lst ds => we ρ S1 fun y S2 => (match y with
    | .bl k => ∃ bs, bls ds = some bs ∧ Q (.int (bs.count k : Nat)) S2
    | _ => False)
  | _ => False
theorem d_countB (ho : PD X o to wo) (he : PD X e te we)
    (hbase : attributeBase o "count" X.env (eval o X.env) = eval o X.env := by rfl)
    (hfew : ((backTo pos (starEach [e] X.env)).all (fun x => !x.1) && (backToKw pos (keywordEach [] X.env)).all (fun x => x.1.isSome)
      && decide (([e] : List Expr).length + ([] : List Keyword).length + (if ([] : List Keyword).isEmpty then 0 else 1) < 30)) = true := by rfl)
    (hline : (apos.endLine == pos.line) = true := by rfl) (hs : starEach [e] X.env = (false, eval e X.env) :: starEach [] X.env := by rfl) (hplain : (backTo pos (starEach ([] : List Expr) X.env)).any (·.1) = false := by rfl) :
    PD X (.Call (.Attribute o "count" apos) [e] [] pos) (tBM X.K "list" (rCntB X.K) to (tCons te tNil)) (wCountB wo we) := by
  refine ⟨pe_bm PySem.F.plainAttrs_list PySem.F.slot_list_count PySem.F.type_list_count mt_lcountB ho.pe (pa_cons he.pe pa_nil hs) hbase hfew hline hs hplain, fun A S σ H ρ Q Q' R E h k => ?_⟩
  refine ho.sd A S σ H ρ _ _ R E h fun d S1 A1 v H1 g1 R1 hv q1 => ?_
  cases hv <;> first | exact q1.elim | skip
  rename_i a vs ds na r l
  refine ⟨.inl ⟨rfl, vs, .inl (.inl r)⟩, ?_⟩
  refine he.sd A1 S1 σ H1 ρ _ _ R1 (E.mono g1) q1 fun d2 S2 A2 v2 H2 g2 R2 hv2 q2 => ?_
  cases hv2 <;> first | exact q2.elim | skip
  obtain ⟨bs, hb, q2⟩ := q2
  have e1 := l.bls hb
  subst e1
  exact ⟨a, bs, _, rfl, rfl, .inl (.inl (g2.keep _ _ na r).1), k _ S2 A2 _ H2 (g1.trans g2) R2 (.int _) q2⟩
end
end DL

set_option Elab.async false
set_option linter.all false
set_option maxRecDepth 100000
/-! Defs whose promise wants that no repr is under way further down the stack. -/
namespace DL
open PySem PySem.Spec PyProof.Rows L2
structure FnG (P : Program) (w : World) (K : PySem.W.Frag) (mg : Str → Option Value) (base : Heap) (k : Nat) (f : Addr) (fd : FuncData) (ps : List Str) (sp : Sp) : Prop where
  lenG : ∀ vs H Q, sp vs H Q E0 → vs.length = ps.length
  runG : ∀ (A : Around) (outer : List Env) (s : Shared) (H : Hp) (g : Args) (us : List Value) (vs : List V) (Q : VK), Room k A → A.guards = some [] → Env0 P w K mg base A outer s H →
    BindsTo s fd g (ps.zip us) → Vals vs us → sp vs H Q E0 → codeAny (model P w) A (.call (.ref f) g) (CR CX0 outer P w H s Q E0) s
section
variable {P : Program} {w : World} {K : PySem.W.Frag} {mg : Str → Option Value} {base : Heap} {k : Nat} {f : Addr} {fd : FuncData} {ps : List Str} {sp sp' : Sp}
theorem FnG.of (F : FnOk P w K mg base CX0 k f fd ps sp) : FnG P w K mg base k f fd ps sp := ⟨fun vs H Q h => F.len vs H Q E0 h, fun A o s H g us vs Q hr _ => F.run A o s H g us vs Q E0 hr⟩
theorem FnG.impG (F : FnG P w K mg base k f fd ps sp) (i : ∀ vs H Q, sp' vs H Q E0 → sp vs H Q E0) : FnG P w K mg base k f fd ps sp' :=
  ⟨fun vs H Q h => F.lenG vs H Q (i _ _ _ h), fun A o s H g us vs Q a b c d e h => F.runG A o s H g us vs Q a b c d e (i _ _ _ h)⟩
theorem fnG {x qual : Str} {st : Stmt} {N : List Str} (F : Fun K x qual st f fd) (S : FnScope N ps (defScope st)) (hl : ∀ vs H Q, sp vs H Q E0 → vs.length = ps.length)
    (hb : ∀ (cdv : Value) (A : Around) (outer : List Env) (s : Shared) (H : Hp) (vs : List V) (Q : VK), Room k (A.deeper (envOfC qual (defScope st) s.heap.objs.size f cdv)) → A.guards = some [] → sp vs H Q E0 →
      ∃ t, PSs (cxOf CX0 P w K mg base N qual (defScope st) f cdv A outer s H E0).nox (defBody st) t ∧ t { nx := fun _ H' => Q .non H', rt := Q } (L2.start N vs) H) : FnG P w K mg base (k + 1) f fd ps sp := by
  obtain ⟨oc, od, kV, doc, pm, an, cdv, ct, osl, rfl, lk, hcd⟩ := F.ex
  refine ⟨hl, fun A outer s H g us vs Q hr hg e0 bd rv hs => ?_⟩
  have inK := e0.mod.kin.keeps fun b o e => (e0.bs b o e).1
  have nol := e0.mod.nolimit.keeps fun b o e => (e0.bs b o e).1
  refine codeAny_call_function hr.depth (inK _ _ lk) rfl S.co S.gen rfl (PySem.W.codeRec_of inK hcd) (bd _ _ _ _ ?_)
  refine wpAny_newFunctionEnv_cells S.kind (fun y hy => ?_) fun env he s1 ic => ?_
  · have hm : y.1 ∈ ps := (List.of_mem_zip (a := y.1) (b := y.2) hy).1
    exact (S.par y.1 hm).imp id fun q => ⟨q, PySem.W.cellsFrom_some _ _ _ (Or.inl q)⟩
  subst he
  obtain ⟨t, hp, q⟩ := hb cdv A outer s H vs Q (hr.deeper _) hg hs
  have J := inv_start (CX := CX0) (qual := qual) (f := f) (cd := cdv) (E := E0) S hr.hd e0 (hl _ _ _ hs) rv ic
  refine ⟨nol.keeps ic.toInCall.keep, codeAny_func (wpAny_mono (hp.nox.run [] s1 (L2.start N vs) H _ J q) (fun fl s' z => ?_) fun _ _ z => z)⟩
  cases fl with
  | brk => obtain ⟨_, _, _, n⟩ := z; exact (n : False).elim
  | cont => obtain ⟨_, _, _, n⟩ := z; exact (n : False).elim
  | next => obtain ⟨σ', H', I, n⟩ := z; exact ⟨V.non, H', I.os, I.bare, I.base, I.hok, rfl, n⟩
  | ret u => obtain ⟨v, σ', H', I, rr, n⟩ := z; exact ⟨v, H', I.os, I.bare, I.base, I.hok, rr, n⟩
/-- THE RULE for such a def, by data -/
theorem fnDG {x qual : Str} {st : Stmt} {N : List Str} {wf : WF} {ws : WS} (F : Fun K x qual st f fd) (S : FnScope N ps (defScope st))
    (hb : ∀ (cdv : Value) (A : Around) (outer : List Env) (s : Shared) (H : Hp), Room k (A.deeper (envOfC qual (defScope st) s.heap.objs.size f cdv)) → A.guards = some [] →
      ∃ t, PDSs (cxOf CX0 P w K mg base N qual (defScope st) f cdv A outer s H E0).nox (defBody st) t ws)
    (hw : ∀ ds S Q, ds.length = ps.length → wf ds S Q → ws { nx := fun _ S' => Q .non S', rt := Q } (startD N ds) S) : FnG P w K mg base (k + 1) f fd ps (spW ⟨K, mg⟩ ps.length wf) := by
  refine fnG F S (fun vs H Q h => h.len) fun cdv A outer s H vs Q hr hg h => ?_
  obtain ⟨t, hp⟩ := hb cdv A outer s H hr hg
  obtain ⟨A', S', ds, Q', R, l, e, q, kk⟩ := h
  refine ⟨t, hp.pe, hp.sd A' S' (L2.start N vs) H (startD N ds) _ _ R (env_start l) (hw ds S' Q' e q) ⟨fun ρ1 S1 A1 σ1 H1 g1 R1 E1 q1 => kk _ S1 A1 .non H1 g1 R1 .non q1, kk, ?_, ?_⟩⟩
  · intro ρ1 S1 A1 σ1 H1 g1 R1 E1 q1; exact q1.elim
  · intro ρ1 S1 A1 σ1 H1 g1 R1 E1 q1; exact q1.elim
end
section
variable {X : Cx} {k n : Nat} {f : Addr} {fd : FuncData} {ps : List Str} {sp : Sp} {w : WF} {x : Str} {p pos : Pos} {e : Expr} {es : List Expr} {t : TA} {wl : WL}
theorem run_G {pins : List (Addr × Obj)} {σ : L2.St} {H : Hp} {s : Shared} {Q : VK} {us : List Value} {vs : List V} (F : FnG X.prog X.w X.K X.mg X.base k f fd ps sp) (hr : Room k X.A) (hg : X.A.guards = some []) (hb : Binds X.K fd ps [])
    (I : Inv X pins σ H s) (r : Vals vs us) (h : sp vs H Q E0) : wpAny (model X.prog X.w) X.A (call (.ref f) us) (EP X pins σ Q) X.xe s := by
  have hl : (us ++ []).length = ps.length := by rw [List.append_nil, ← r.length]; exact F.lenG _ _ _ h
  have bt := hb s us I.kIn hl
  rw [List.append_nil] at bt
  refine wpAny_call (codeAny_mono (F.runG X.A X.stack s H ⟨us, []⟩ us vs Q hr hg I.env0 bt r h) fun z s' hz => ?_)
  match z, hz with
  | .ok (.ret u), hz => exact I.after hz
theorem pe_callG (F : FnG X.prog X.w X.K X.mg X.base k f fd ps sp) (hr : Room k X.A) (hgd : X.A.guards = some []) (hg : Gl X x) (hm : X.mg x = some (.ref f)) (hk : PySem.W.keepIn X.K (.ref f) = true) (hb : Binds X.K fd ps []) (ha : PA X (e :: es) t)
    (hdb : (x == ("__debug__" : Str)) = false) (he : starEach (e :: es) X.env = (false, eval e X.env) :: starEach es X.env) (hpl : (backTo pos (starEach es X.env)).any (·.1) = false) :
    PE X (.Call (.Name x p) (e :: es) [] pos) (fun σ H Q => t σ H fun vs H1 => sp vs H1 Q E0) := ⟨fun pins s σ H Q I h =>
  wpAny_Call_Name_kw (ld_glob I hg hm (PySem.W.callWith_K (h₀ := X.base) I.ok.mod.kin hk (thn (ha.run pos pins s σ H _ I h) fun us s1 z => by
    obtain ⟨vs, H1, I1, r, q⟩ := z
    exact ⟨I1.kIn, run_G F hr hgd hb I1 r q⟩) he hpl) hdb)⟩
theorem d_callG (F : FnG X.prog X.w X.K X.mg X.base k f fd ps (spW X.G n w)) (hr : Room k X.A) (hgd : X.A.guards = some []) (hm : X.mg x = some (.ref f)) (hk : PySem.W.keepIn X.K (.ref f) = true) (hb : Binds X.K fd ps [])
    (ha : PDA X (e :: es) t wl) (hg : Gl X x := by rfl) (hdb : (x == ("__debug__" : Str)) = false := by decide) (he : starEach (e :: es) X.env = (false, eval e X.env) :: starEach es X.env := by rfl) (hpl : (backTo pos (starEach es X.env)).any (·.1) = false := by rfl) :
    PD X (.Call (.Name x p) (e :: es) [] pos) (fun σ H Q => t σ H fun vs H1 => spW X.G n w vs H1 Q E0) (wCall n w wl) := by
  refine ⟨pe_callG F hr hgd hg hm hk hb ha.pe hdb he hpl, fun A S σ H ρ Q Q' R E h kk => ?_⟩
  exact ha.sd A S σ H ρ _ _ R E h fun ds S1 A1 vs H1 g1 R1 hv q1 => ⟨A1, S1, ds, Q', R1, hv, q1.1, q1.2, kk.mono g1⟩
theorem d_callGC {G' : MG} (F : FnG X.prog X.w X.K X.mg X.base k f fd ps (spW G' n w)) (hr : Room k X.A) (hgd : X.A.guards = some []) (hm : X.mg x = some (.ref f)) (hk : PySem.W.keepIn X.K (.ref f) = true) (hb : Binds X.K fd ps [])
    (ha : PDA X (e :: es) t wl) (hG : G' = X.G := by rfl) (hg : Gl X x := by rfl) (hdb : (x == ("__debug__" : Str)) = false := by decide) (he : starEach (e :: es) X.env = (false, eval e X.env) :: starEach es X.env := by rfl) (hpl : (backTo pos (starEach es X.env)).any (·.1) = false := by rfl) :
    PD X (.Call (.Name x p) (e :: es) [] pos) (fun σ H Q => t σ H fun vs H1 => spW G' n w vs H1 Q E0) (wCall n w wl) := by
  subst hG
  exact d_callG F hr hgd hm hk hb ha hg hdb he hpl
end
/-! ### the law's call -/
section
variable {P : Program} {w : World} {K : PySem.W.Frag} {mg mb : Str → Option Value} {k : Nat} {fa a : Addr} {fd : FuncData} {x : Str} {sp : Sp} {s1 : Shared} {vs : List Value} {ns : List Int}
theorem lawG (KX : K.In s1.heap) (nm : s1.heap.Ns mainGlobals mg) (nb : s1.heap.Ns builtinsNs mb) (bb : ∀ x : Str, x ≠ "__name__" → mb x = bootBuiltins x) (nl : s1.heap.NoLimit) (gn : s1.gens = #[])
    (ha : s1.heap.get? a = some { cls := .type "list", data := .seq vs.toArray }) (hi : IntsAre vs ns) (hz : ns.length ≤ sizeLine) (hr : Room k callerA)
    (F : ∀ base : Heap, K.In base → base.Ns mainGlobals mg → FnG P w K mg base k fa fd [x] sp) (bd : ∀ (s : Shared) (u : Value), BindsTo s fd ⟨[u], []⟩ [(x, u)])
    (hs : ∀ H : Hp, Only H → SqL K H a (ns.map V.int) → sp [.ref a] H (fun v _ => v = .bl true) E0) :
    codeAny (model P w) callerA (.call (.ref fa) ⟨[.ref a], []⟩) (fun r s' => r = .ok (.ret (.bool true)) ∧ OldK s1.heap s'.heap ∧ s'.os = s1.os ∧ AllBare s'.gens) s1 := by
  have rv := vals_ints hi
  have main : ∀ H : Hp, Only H → SqL K H a (ns.map V.int) → HOk P w H s1.heap → (∀ b, b ≠ a → H b = none) → (K.lookup a ≠ none → H a = none) →
      codeAny (model P w) callerA (.call (.ref fa) ⟨[.ref a], []⟩) (fun r s' => r = .ok (.ret (.bool true)) ∧ OldK s1.heap s'.heap ∧ s'.os = s1.os ∧ AllBare s'.gens) s1 := by
    intro H only sq ok far own
    have keepN : ∀ {b : Addr} {m : Str → Option Value}, s1.heap.Ns b m → (hidT s1.heap H).Ns b m := by
      rintro b m ⟨o, es, ep, e, d, r⟩
      have hb : b ≠ a := by
        rintro rfl
        rw [ha] at e
        cases e
        exact nomatch (show Data.seq vs.toArray _ = Data.dict es ep from d)
      exact ⟨o, es, ep, hidT_get e (far b hb), d, r⟩
    have kin : K.In (hidT s1.heap H) := by
      intro b o e
      refine hidT_get (KX b o e) ?_
      by_cases hb : b = a
      · subst hb
        exact own (by rw [e]; simp)
      · exact far b hb
    have md : Mod K mg (hidT s1.heap H) := by
      obtain ⟨mc, l1, l2⟩ := nl
      exact ⟨kin, keepN nm, ⟨mb, keepN nb, bb⟩, mc, keepN l1, l2⟩
    have env : Env0 P w K mg (hidT s1.heap H) callerA [] s1 H := ⟨rfl, md, fun _ _ e => of_hidT e, Nat.le_of_eq (hidT_size _ _), trivial, fun _ hb => (by cases hb), ok, .of_eq gn⟩
    have run := (F _ kin (keepN nm)).runG callerA [] s1 H ⟨[.ref a], []⟩ [.ref a] [.ref a] _ hr rfl env (bd s1 (.ref a)) (.cons rfl .nil) (hs H only sq)
    refine codeAny_mono run fun r s' h => ?_
    match r, h with
    | .ok (.ret u), ⟨v, H', os, bare, un, ok', ru, q⟩ =>
      cases (show v = .bl true from q)
      cases (show u = Value.bool true from ru)
      refine ⟨rfl, OldK.of_keep fun b o e => ?_, os, bare⟩
      by_cases hn : H b = none
      · exact un.keep b o e hn (fun z => by cases z) (fun z => by cases z)
      · obtain ⟨ob, xs, fz⟩ := (only b).resolve_left hn
        have k1 := (ok b _ fz).1
        have k2 := (ok' b _ (un.frzs b ob _ fz)).1
        rw [e] at k1
        cases k1
        exact k2
  by_cases hk : K.lookup a = none
  · let H : Hp := fun b => if b = a then some (.frz { cls := .type "list", data := .seq vs.toArray } (.lst (ns.map V.int))) else none
    have at_a : H a = some (.frz { cls := .type "list", data := .seq vs.toArray } (.lst (ns.map V.int))) := if_pos rfl
    have no : ∀ b, b ≠ a → H b = none := fun b hb => if_neg hb
    refine main H (fun b => ?_) (.inl (.inr ⟨_, at_a⟩)) (fun b u z => ?_) no (fun z => absurd hk z)
    · by_cases hb : b = a
      · rw [hb]; exact .inr ⟨_, _, at_a⟩
      · exact .inl (no b hb)
    · by_cases hb : b = a
      · subst hb
        rw [at_a] at z
        cases z
        exact ⟨ha, by simpa using hz, vs, _, rv, ha⟩
      · rw [no b hb] at z
        cases z
  · obtain ⟨o, e⟩ : ∃ o, K.lookup a = some o := by
      cases h : K.lookup a with
      | none => exact absurd h hk
      | some o => exact ⟨o, rfl⟩
    have e' := KX a o e
    rw [ha] at e'
    cases e'
    have lv : vs.length ≤ sizeLine := by rw [hi.length]; exact hz
    exact main (fun _ => none) (fun _ => .inl rfl) (.inr ⟨_, vs.toArray, _, e, rfl, rfl, rfl, by simpa using lv, by simpa using rv⟩) (fun b u z => by cases (show (none : Option HO) = some u from z)) (fun _ _ => rfl) fun _ => rfl
end
theorem walkG {l : PySem.W.OpenLaw} {n k : Nat} {q : Program} {loose : List Str} {XP : (Str → Option Value) → Heap → Prop} {YP : World → Heap → Prop} {d : DefRec} {K : Params → PySem.W.Frag} {sp : World → Sp} {x : Str}
    (hn : l.most = some n) (hz : n ≤ sizeLine) (hd : d.params.defaults = []) (hr : Room k callerA) (hY : ∀ (w : World) (h : Heap), YP w h → (K w.params).In h)
    (F : ∀ (w : World) (mg : Str → Option Value) (fa : Addr) (h : Heap), (K w.params).In h → h.Ns mainGlobals mg → mg d.name = some (.ref fa) →
      ∃ fd : FuncData, (∀ (s : Shared) (u : Value), BindsTo s fd ⟨[u], []⟩ [(x, u)]) ∧ ∀ base : Heap, (K w.params).In base → base.Ns mainGlobals mg → FnG l.prog w (K w.params) mg base k fa fd [x] (sp w))
    (hs : ∀ (w : World) (H : Hp) (a : Addr) (ns : List Int), ns.length ≤ n → Only H → SqL (K w.params) H a (ns.map V.int) → sp w [.ref a] H (fun v _ => v = .bl true) E0) :
    PySem.W.WalkO q loose XP YP l.row.toRowW d [] (fun f vs => PySem.call f vs) := by
  refine Att.attach_call hn hd fun w s0 s1 mg mb fa o pm cd doc a vs ns G Y ho hdd hcd hmg hobj hints hl hg => ?_
  obtain ⟨fd, hb, hF⟩ := F w mg fa _ (hY w _ Y) G.T.g hmg
  exact lawG (hY w _ Y) G.T.g G.T.b G.T.builtins G.T.nolimit hg hobj hints (Nat.le_trans hl hz) hr hF hb fun H h1 h2 => hs w H a ns hl h1 h2
end DL

set_option Elab.async false
set_option linter.all false
set_option maxRecDepth 100000
/-! repr of data, truth of own objects, own comparisons with anything, written dicts. -/
namespace DL
open PySem PySem.Spec PyProof.Rows L2
/-! ### repr -/
structure Shows (d : PyData) : Prop where
  ok : d.showable = true
  nod : d.hasDict = false
  dp : d.depth ≤ 100
  sz : d.shown.length ≤ sizeLine
def rReprD (K : PySem.W.Frag) : List V → Hp → VK → Prop := fun xs H Q => ∃ x d, xs = [x] ∧ Dp K H x d ∧ Shows d ∧ Q (.str d.shown) H
section
variable {X : Cx} {k : Nat}
theorem call_reprD (hr : Room k X.A) (hg : X.A.guards = some []) : CallR X (.builtin "repr") (rReprD X.K) := by
  intro pins s σ H xs us Q I r h
  obtain ⟨x, d, rfl, hd, sh, q⟩ := h
  obtain ⟨u, rfl, ru⟩ := vals1 r
  have un := hr.un
  have low : ∀ {n : Nat}, n ≤ 101 → X.A.units + n < cLine := fun h => by omega
  cases hd with
  | non => cases (show u = Value.none from ru); exact PySem.P.repr_of_none ⟨.str _, H, I.tok _, ⟨_, rfl⟩, q⟩
  | bl b => cases (show u = Value.bool b from ru); exact PySem.P.repr_of_bool ⟨.str _, H, I.tok _, ⟨_, rfl⟩, q⟩
  | int i =>
    obtain ⟨t, rfl⟩ := (show ∃ t, u = Value.int i t from ru)
    exact PySem.P.repr_of_int (by simpa [PyData.showable] using sh.ok) ⟨.str _, H, I.tok _, ⟨_, rfl⟩, q⟩
  | str y =>
    obtain ⟨t, rfl⟩ := (show ∃ t, u = Value.str y t from ru)
    exact PySem.P.repr_of_str ⟨.str _, H, I.tok _, ⟨_, rfl⟩, q⟩ (by simpa [PyData.shown] using sh.sz)
  | @lst a zs ds hs ha =>
    obtain ⟨as, rd⟩ := Dp.reads I _ _ u (.lst hs ha) ru
    cases (show u = Value.ref a from ru)
    exact repr_of_reads' rd sh.ok (PyData.noDict_hsm sh.nod) hg (low (Nat.succ_le_succ sh.dp)) (fun _ _ e => e) (fun h' v tk hk => ⟨.str _, H, I.kept hk, ⟨v, rfl⟩, q⟩) sh.sz
  | @tup a zs ds hs ha =>
    obtain ⟨as, rd⟩ := Dp.reads I _ _ u (.tup hs ha) ru
    cases (show u = Value.ref a from ru)
    exact repr_of_reads' rd sh.ok (PyData.noDict_hsm sh.nod) hg (low (Nat.succ_le_succ sh.dp)) (fun _ _ e => e) (fun h' v tk hk => ⟨.str _, H, I.kept hk, ⟨v, rfl⟩, q⟩) sh.sz
end
def oReprD : LD := fun ds S Q => match ds with
  | [x] => ∃ d, datM S x = some d ∧ Shows d ∧ Q (.str d.shown) S
  | _ => False
theorem snd_reprD {mg : MG} {K : PySem.W.Frag} : SndC mg (rReprD K) oReprD := by
  intro A S H xs ds Q Q' R l q k
  match ds, q, l with
  | [x], ⟨d, h1, h2, q⟩, l =>
    obtain ⟨v, rfl, hv⟩ := l.one
    exact ⟨v, d, rfl, hv.dpM R h1, h2, k _ S A _ H .refl R (.str _) q⟩
/-! ### truth of own objects -/
section
variable {X : Cx} {k : Nat} {C g : Addr} {fd : FuncData} {ps : List Str} {sp : Sp} {c : Str} {w : WF}
theorem truthyK {A : Around} {pins : List (Addr × Obj)} {σ : L2.St} {H : Hp} {s : Shared} {a dx : Addr} {fs : List (Str × V)} {QB : Bool → Hp → Prop} (M : OwnM X.K C "__bool__" g) (F : FnOk X.prog X.w X.K X.mg X.base CX0 k g fd ps sp) (hr : Room k A)
    (he : Env0 X.prog X.w X.K X.mg X.base A X.stack s H) (hb : Binds X.K fd ps []) (I : Inv X pins σ H s) (ha : H a = some (.ins C dx fs)) (q : sp [.ref a] H (fun v H' => ∃ b, v = .bl b ∧ QB b H') E0) :
    wpAny (model X.prog X.w) A (truthy (.ref a)) (fun b s' => ∃ H', Inv X pins σ H' s' ∧ QB b H') X.xe s := by
  obtain ⟨mA, OM, _⟩ := ins_get I.hok ha
  obtain ⟨od, J, _⟩ := OM.look
  unfold truthy
  have step : wpAny (model X.prog X.w) A (callSpecial? (.ref a) (Str.ofString "__bool__")) (fun r s' => ∃ b, r = some (.bool b) ∧ ∃ H', Inv X pins σ H' s' ∧ QB b H') X.xe s := by
    refine PySem.W.special_fn I.kIn J M.at_ (beq_iff_eq.mp M.fn) ?_
    refine wpAny_mono (run_at (us := [.ref a]) (vs := [.ref a]) (A := A) F hr he hb I (.cons rfl .nil) q) (fun u s' z => ?_) fun _ _ e => e
    obtain ⟨v, H', I', rv, ⟨b, rfl, qq⟩⟩ := z
    cases (show u = Value.bool b from rv)
    exact ⟨b, rfl, H', I', qq⟩
  first
    | (refine wpAny_bind (m := callSpecial? (.ref a) (Str.ofString "__bool__")) (wpAny_mono step (fun r s' z => ?_) fun _ _ e => e))
    | (refine wpAny_bind (wpAny_pure ?_); refine wpAny_bind (m := callSpecial? (.ref a) (Str.ofString "__bool__")) (wpAny_mono step (fun r s' z => ?_) fun _ _ e => e))
  obtain ⟨b, rfl, z⟩ := z
  exact wpAny_pure z
def wOwnT (c : Str) (w : WF) (we : WD) : WB := fun ρ S Q => we ρ S fun x S1 => match x with
  | .ins c' fs => c' = c ∧ w [.ins c' fs] S1 fun d S2 => match d with
    | .bl b => Q b S2
    | _ => False
  | _ => False
theorem endB {mg : MG} {A : List Addr} {H : Hp} {Q : Bool → Hp → Prop} {Q' : Bool → MS → Prop} (k : EndB mg A H Q Q') : EndV mg A H (fun v H' => ∃ b, v = .bl b ∧ Q b H') (fun d S => match d with
    | .bl b => Q' b S
    | _ => False) := fun d S' A' v H' g' R' hv z => by
  cases hv <;> first | exact z.elim | skip
  exact ⟨_, rfl, k _ S' A' H' g' R' z⟩
/-- an own object as a test -/
theorem dt_own {e : Expr} {te : TE} {we : WD} (he : PD X e te we) (hC : X.mg c = some (.ref C)) (M : OwnM X.K C "__bool__" g) (F : FnOk X.prog X.w X.K X.mg X.base CX0 k g fd ps (spW X.G 1 w)) (hr : Room k X.A) (hb : Binds X.K fd ps [])
    (hi : ∀ whole, isTrue e X.env whole = (do let v ← whole; standAt e.pos; holding [v] (truthy v)) := by intro _; rfl) :
    PDT X e (fun σ H Q => te σ H fun x H' => ∃ a dx fs, x = .ref a ∧ H' a = some (.ins C dx fs) ∧ spW X.G 1 w [.ref a] H' (fun v H2 => ∃ b, v = .bl b ∧ Q b H2) E0) (wOwnT c w we) := by
  refine ⟨⟨fun pins s σ H Q I h => ?_⟩, fun A S σ H ρ Q Q' R E h kk => ?_⟩
  · refine isTrue_plain (thn (he.pe.run pins s σ H _ I h) fun v s1 z => ?_) (hi _)
    obtain ⟨x, H1, I1, rx, a, dx, fs, rfl, ha, q⟩ := z
    cases (show v = Value.ref a from rx)
    exact truthyK M F hr I1.env0 hb I1 ha q
  · refine he.sd A S σ H ρ _ _ R E h fun d S1 A1 v H1 g1 R1 hv q1 => ?_
    cases hv <;> first | exact q1.elim | skip
    rename_i a C' dx c' fs fds na ec r l
    obtain ⟨rfl, q1⟩ := q1
    cases hC.symm.trans (show X.mg _ = _ from ec)
    exact ⟨a, dx, fs, rfl, r, A1, S1, [_], _, R1, .cons (.ins na hC r l) .nil, rfl, q1, endB (kk.mono g1)⟩
def oOwnN (c : Str) (w : WF) : UD := fun x S Q => match x with
  | .ins c' fs => c' = c ∧ w [.ins c' fs] S fun d S2 => match d with
    | .bl b => Q (.bl (!b)) S2
    | _ => False
  | _ => False
def rOwnN (C : Addr) (sp : Sp) : V → Hp → VK → Prop := fun x H Q => ∃ a dx fs, x = .ref a ∧ H a = some (.ins C dx fs) ∧ sp [.ref a] H (fun v H2 => ∃ b, v = .bl b ∧ Q (.bl (!b)) H2) E0
/-- not o -/
theorem un_ownNot (M : OwnM X.K C "__bool__" g) (F : FnOk X.prog X.w X.K X.mg X.base CX0 k g fd ps sp) (hr : Room k X.A) (hb : Binds X.K fd ps []) : UnR X (unaryOp .Not) (rOwnN C sp) := by
  intro pins s σ H x v Q I rx h
  obtain ⟨a, dx, fs, rfl, ha, q⟩ := h
  cases (show v = Value.ref a from rx)
  refine not_of (wpAny_mono (truthyK (QB := fun b H' => Q (.bl (!b)) H') M F hr I.env0 hb I ha q) (fun b s' z => ?_) fun _ _ e => e)
  obtain ⟨H', I', z⟩ := z
  exact ⟨.bl (!b), H', I', rfl, z⟩
theorem snd_ownN {mg : MG} (hC : mg.f c = some (.ref C)) : SndU mg (rOwnN C (spW mg 1 w)) (oOwnN c w) := by
  intro A S H x dx Q Q' R hx q kk
  cases hx <;> first | exact q.elim | skip
  rename_i a C' dy c' fs fds na ec r l
  obtain ⟨rfl, q⟩ := q
  cases hC.symm.trans (show mg.f _ = _ from ec)
  exact ⟨a, dy, fs, rfl, r, A, S, [_], _, R, .cons (.ins na hC r l) .nil, rfl, q, endB (Q := fun b H2 => Q (.bl (!b)) H2) (Q' := fun b S2 => Q' (.bl (!b)) S2) fun b S' A' H' g' R' z => kk _ S' A' _ H' g' R' (.bl _) z⟩
/-- bool(o) -/
theorem call_boolOwn (M : OwnM X.K C "__bool__" g) (F : FnOk X.prog X.w X.K X.mg X.base CX0 k g fd ps sp) (hr : Room (k + 3) X.A) (hb : Binds X.K fd ps []) :
    CallR X (.type "bool") (fun xs H Q => ∃ a dx fs, xs = [.ref a] ∧ H a = some (.ins C dx fs) ∧ sp [.ref a] H (fun v H2 => ∃ b, v = .bl b ∧ Q (.bl b) H2) E0) := by
  intro pins s σ H xs us Q I r h
  obtain ⟨a, dx, fs, rfl, ha, q⟩ := h
  obtain ⟨u, rfl, ru⟩ := vals1 r
  cases (show u = Value.ref a from ru)
  have hr2 : Room k X.A.in1.in1 := ((hr.mono (show k + 2 ≤ k + 3 by omega)).in1 : Room (k + 1) X.A.in1).in1
  have run := truthyK (QB := fun b H' => Q (.bl b) H') M F hr2 I.env0.in1.in1 hb I ha q
  refine callType_newIn (S := fun A R s => wpAny (model X.prog X.w) A.in1 (truthy (.ref a)) (fun b s' => R (.ok (.ret (.bool b))) s') (fun e s' => R (.error e) s') s)
    PySem.F.called_bool PySem.F.newNe_bool (PySem.F.typeCall_bool_1 _) (PySem.F.newCall_bool_1 _) (fun obj => PySem.F.args_object_init_2 obj _) PySem.F.entry_bool_new ?_ ?_
  · refine MeetsIn.of_wp fun A R s hs => ?_
    have f1 := PySem.F.conv_sub_bool
    unfold Builtin.«bool.__new__»
    repeat (any_goals (first | assumption | (with_reducible refine wpAny_bind (m := truthy (.ref a)) (wpAny_mono hs (fun b s' z => ?_) fun _ _ z => z)) | wp_step))
    all_goals first | exact ⟨_, rfl, z⟩ | exact z | skip
  · refine wpAny_mono run (fun b s' z => ?_) fun e s' z => z
    obtain ⟨H', I', z⟩ := z
    exact ⟨rfl, .bl b, H', I', rfl, z⟩
end
/-! ### own comparisons with anything -/
def TyC (K : PySem.W.Frag) (H : Hp) (v : V) (T : String) : Prop := TyB K H v T ∨ (T = "dict" ∧ ∃ (a : Addr) (o : Obj) (kvs : List (Key × V)), v = .ref a ∧ H a = some (.frz o (.dK kvs)))
theorem TyC.is {X : Cx} {pins : List (Addr × Obj)} {σ : L2.St} {H : Hp} {s : Shared} {v : V} {u : Value} {T : String} (h : TyC X.K H v T) (I : Inv X pins σ H s) (r : RelV v u) : s.TypeIs u T := by
  rcases h with h | ⟨rfl, a, o, kvs, rfl, e⟩
  · exact h.is I r
  · cases (show u = Value.ref a from r)
    exact (isD_at I (.inl ⟨kvs, .inr ⟨o, e⟩⟩)).1
theorem looks_ty {M : Model} {s : Shared} {v : Value} {T : String} (h : s.TypeIs v T) : PySem.W.Looks M s.heap (typeOf v) (.type T) := fun A Q E s' kp q => wpAny_typeOf (by
  cases v with
  | ref a => obtain ⟨o, h1, h2⟩ := h; exact ⟨o, kp _ _ h1, h2⟩
  | _ => exact h) q
section
variable {X : Cx} {CX : CXT} {k : Nat} {C g : Addr} {fd : FuncData} {ps : List Str} {sp : Sp} {E : XK} {c : Str} {w : WF}
def rOwnA (C : Addr) (ts : List String) (K : PySem.W.Frag) (sp : Sp) (E : XK) : L2.R2 := fun x y H Q => Ins C H x ∧ (∃ T, T ∈ ts ∧ TyC K H y T) ∧ sp [x, y] H Q E
theorem op_ownCmpA {op : CmpOp} {ts : List String} (hop : ∀ a b, compareOp op a b = richCompare op a b) (M : OwnM X.K C (cmpInfo op).2.1 g) (hts : ∀ T ∈ ts, PySem.W.subIn X.K (.type T) (.ref C) = some false)
    (F : FnOk X.prog X.w X.K X.mg X.base CX k g fd ps sp) (hr : Room k X.A) (hb : Binds X.K fd ps []) (hx : Passes CX X E) : OpR X (compareOp op) (rOwnA C ts X.K sp E) := by
  intro pins s σ H x y v u Q I rx ry h
  obtain ⟨⟨a, dx, fs, rfl, ha⟩, ⟨T, hT, ty⟩, q⟩ := h
  cases (show v = Value.ref a from rx)
  obtain ⟨mA, OM, _⟩ := ins_get I.hok ha
  obtain ⟨od, J, _⟩ := OM.look
  obtain ⟨m, hF⟩ := I.fr
  rw [hop]
  have run := run_fn (us := [.ref a, u]) (vs := [.ref a, y]) F hr hb .nil hx I (.cons rfl (.cons ry .nil)) (by simpa using q)
  refine PySem.W.cmp_K (tb := .type T) hr.units0 hF I.ok.mod.kin J ?_ (by simp [PySem.W.notFirst, hts T hT]) M.at_ M.fn (wpAny_mono run (fun z s' hz => ?_) fun _ _ e => e)
  · exact looks_ty (ty.is I ry)
  · obtain ⟨z', H', I', rz, qz⟩ := hz
    exact cmpback rz ⟨z', H', I', rz, qz⟩
end
theorem Is.tyB {mg : MG} {A : List Addr} {S : MS} {H : Hp} {v : V} {d : D} {T : String} (R : Rep mg A S H) (h : Is mg A H v d) (e : tyS S d = some (.ty T)) : TyC mg.K H v T := by
  cases h with
  | non => cases e; exact .inl .non
  | bl b => cases e; exact .inl (.bl b)
  | int i => cases e; exact .inl (.int i)
  | str x => cases e; exact .inl (.str x)
  | tup n r l => cases e; exact .inl (.tup (.inl r))
  | lst n r l => cases e; exact .inl (.lst (.of r))
  | dct n r l =>
    cases e
    rcases r with r | ⟨o, r⟩
    · exact .inl (.dK r)
    · exact .inr ⟨rfl, _, o, _, rfl, r⟩
  | «mut» ea =>
    unfold tyS at e
    dsimp only at e
    split at e
    · rename_i es he
      cases e
      obtain ⟨vs, h1, _⟩ := R.at_ _ _ (.l es) ea he
      exact .inl (.lst (.of h1))
    · rename_i es he
      cases e
      obtain ⟨vs, h1, _⟩ := R.at_ _ _ (.d es) ea he
      exact .inl (.dK h1)
    · cases e
    · cases e
  | _ => cases e
def oOwnA (c : Str) (ts : List String) (w : WF) : OD := fun x y S Q => (∃ fds, x = .ins c fds) ∧ (∃ T, T ∈ ts ∧ tyS S y = some (.ty T)) ∧ w [x, y] S Q
theorem snd_ownA {mg : MG} {c : Str} {C : Addr} {ts : List String} {w : WF} {E : XK} (hC : mg.f c = some (.ref C)) : SndR mg (rOwnA C ts mg.K (spW mg 2 w) E) (oOwnA c ts w) := by
  intro A S H x y dx dy Q Q' R hx hy q k
  obtain ⟨⟨fds, rfl⟩, ⟨T, hT, ty⟩, q⟩ := q
  exact ⟨hx.insOf hC, ⟨T, hT, hy.tyB R ty⟩, A, S, [_, dy], Q', R, .cons hx (.cons hy .nil), rfl, q, k⟩
/-! ### written dicts -/
def mergeD (kvs more : List (Key × D)) : List (Key × D) := more.foldl (fun acc kv => putD acc kv.1 kv.2) kvs
section
variable {mg : MG} {A A' : List Addr} {S : MS} {H H' : Hp}
theorem IsK.merge : ∀ {bs : List (Key × V)} {ds : List (Key × D)} {as : List (Key × V)} {cs : List (Key × D)}, IsK mg A H bs ds → IsK mg A H as cs → IsK mg A H (L2.mergeK as bs) (mergeD cs ds)
  | _, _, _, _, .nil, q => q
  | _, _, _, _, .cons (f := f) h t, q => by
    show IsK mg A H (L2.mergeK (L2.putK _ f _) _) (mergeD (putD _ f _) _)
    exact IsK.merge t (q.put h)
end
/-- an expression that reads a name or a constant: its value does not hang on the heap -/
structure PDQ (X : Cx) (e : Expr) (t : TE) (q : DEnv → Option D) : Prop where
  pe : PE X e t
  sd : ∀ A H σ ρ d, EnvD X.G A H σ ρ → q ρ = some d → ∃ v, Is X.G A H v d ∧ ∀ (H' : Hp) (Q : VK), Q v H' → t σ H' Q
def qVar (i : Nat) : DEnv → Option D := fun ρ => match ρ[i]? with
  | some (some d) => some d
  | _ => none
def qC (d : D) : DEnv → Option D := fun _ => some d
section
variable {X : Cx}
theorem q_var (i : Nat) {x : Str} {pos : Pos} (hN : X.N[i]? = some x := by rfl) (hv : Vis X.env.scope x := by first | exact Or.inl rfl | exact Or.inr (Or.inl rfl) | exact Or.inr (Or.inr rfl)) (hd : (x == ("__debug__" : Str)) = false := by decide)
    (hcd : (x == ("__classdict__" : Str)) = false := by decide) : PDQ X (.Name x pos) (tVar i) (qVar i) := ⟨pe_var hN hv hd hcd, fun A H σ ρ d E e => by
  unfold qVar at e
  split at e
  · rename_i d' hd'
    cases e
    obtain ⟨v, h1, h2⟩ := E.at_ i d hd'
    exact ⟨v, h2, fun H' Q h => ⟨v, h1, h⟩⟩
  · cases e⟩
theorem q_int {i j pos} : PDQ X (.Constant (.int i) j pos) (tC (.int i)) (qC (.int i)) := ⟨pe_int, fun A H σ ρ d E e => by cases e; exact ⟨_, .int i, fun H' Q h => h⟩⟩
theorem q_str {x j pos} : PDQ X (.Constant (.str x) j pos) (tC (.str x)) (qC (.str x)) := ⟨pe_str, fun A H σ ρ d E e => by cases e; exact ⟨_, .str x, fun H' Q h => h⟩⟩
end
def evQ : List ((DEnv → Option D) × (DEnv → Option D)) → DEnv → Option (List (D × D))
  | [], _ => some []
  | (a, b) :: r, ρ => match a ρ, b ρ, evQ r ρ with
    | some x, some y, some l => some ((x, y) :: l)
    | _, _, _ => none
inductive PDP (X : Cx) (pos : Pos) : List (Option Expr) → List Expr → List (TE × TE) → List ((DEnv → Option D) × (DEnv → Option D)) → Prop where
  | nil : PDP X pos [] [] [] []
  | cons {a b : Expr} {ks : List (Option Expr)} {vs : List Expr} {ta tb : TE} {wa wb : DEnv → Option D} {ts : List (TE × TE)} {ws : List ((DEnv → Option D) × (DEnv → Option D))} (ha : PDQ X a ta wa) (hb : PDQ X b tb wb) (r : PDP X pos ks vs ts ws) : PDP X pos (some a :: ks) (b :: vs) ((ta, tb) :: ts) ((wa, wb) :: ws)
theorem PDP.pp {X : Cx} {pos : Pos} {ks : List (Option Expr)} {vs : List Expr} {ts : List (TE × TE)} {ws : List ((DEnv → Option D) × (DEnv → Option D))} (h : PDP X pos ks vs ts ws) : PPs X pos ks vs ts := by
  induction h with
  | nil => exact pps_nil
  | cons ha hb _ ih => exact pps_cons ha.pe hb.pe ih
/-- pairs of values told by pairs of data -/
def IsP (mg : MG) (A : List Addr) (H : Hp) (p : List (V × V)) (q : List (D × D)) : Prop := IsL mg A H (p.map (·.1)) (q.map (·.1)) ∧ IsL mg A H (p.map (·.2)) (q.map (·.2))
theorem PDP.sd {X : Cx} {pos : Pos} {ks : List (Option Expr)} {vs : List Expr} {ts : List (TE × TE)} {ws : List ((DEnv → Option D) × (DEnv → Option D))} (h : PDP X pos ks vs ts ws) : ∀ A H σ ρ q, EnvD X.G A H σ ρ → evQ ws ρ = some q →
    ∃ p, IsP X.G A H p q ∧ ∀ (H' : Hp) (Q : List (V × V) → Hp → Prop), Q p H' → tPairs ts σ H' Q := by
  induction h with
  | nil => intro A H σ ρ q E e; cases e; exact ⟨[], ⟨.nil, .nil⟩, fun H' Q h => h⟩
  | cons ha hb _ ih =>
    intro A H σ ρ q E e
    unfold evQ at e
    split at e
    · rename_i x y l e1 e2 e3
      cases e
      obtain ⟨u, hu, ku⟩ := ha.sd A H σ ρ x E e1
      obtain ⟨v, hv, kv⟩ := hb.sd A H σ ρ y E e2
      obtain ⟨p, hp, kp⟩ := ih A H σ ρ l E e3
      exact ⟨(u, v) :: p, ⟨.cons hu hp.1, .cons hv hp.2⟩, fun H' Q h => ku H' _ (kv H' _ (kp H' _ h))⟩
    · cases e
theorem isP_keys {mg : MG} {A : List Addr} {H : Hp} : ∀ {p : List (V × V)} {kds : List (Key × D)}, IsP mg A H p (kds.map fun kv => (keyD kv.1, kv.2)) → ∃ kvs : List (Key × V), p = kvs.map (fun kv => (kV kv.1, kv.2)) ∧ IsK mg A H kvs kds
  | [], [], _ => ⟨[], rfl, .nil⟩
  | [], _ :: _, h => by cases h.1
  | _ :: _, [], h => by cases h.1
  | (a, b) :: p, (k, d) :: kds, h => by
    obtain ⟨h1, h2⟩ := h
    rw [List.map_cons, List.map_cons, List.map_cons] at h1 h2
    cases h1 with
    | cons x1 t1 =>
      cases h2 with
      | cons x2 t2 =>
        obtain ⟨kvs, e, l⟩ := isP_keys (p := p) (kds := kds) ⟨t1, t2⟩
        refine ⟨(k, b) :: kvs, ?_, .cons x2 l⟩
        rw [e, List.map_cons]
        cases k with
        | inl i => cases x1; rfl
        | inr y => cases x1; rfl
/-- {k: v, ..} of names and constants: a dict that never changes -/
def wDisp (ws : List ((DEnv → Option D) × (DEnv → Option D))) : WD := fun ρ S Q => ∃ kds : List (Key × D), evQ ws ρ = some (kds.map fun kv => (keyD kv.1, kv.2)) ∧ kds.length ≤ 15 ∧ Q (.dct (mergeD [] kds)) S
theorem d_disp {X : Cx} {pos : Pos} {keys : List (Option Expr)} {values : List Expr} {ts : List (TE × TE)} {ws : List ((DEnv → Option D) × (DEnv → Option D))} (h : PDP X pos keys values ts ws) (h0 : keys ≠ [] := by intro z; cases z) (hall : keys.all (·.isSome) = true := by rfl) (hl : keys.length = values.length := by rfl) (h15 : keys.length ≤ 15 := by decide) :
    PD X (.Dict keys values pos) (tDisp ts) (wDisp ws) := by
  refine ⟨pe_disp h.pp hall hl h0 h15, fun A S σ H ρ Q Q' R E q k => fun p hp => ?_⟩
  obtain ⟨kds, e, l15, q⟩ := q
  obtain ⟨ps, hps, run⟩ := h.sd A H σ ρ _ E e
  obtain ⟨kvs, rfl, lk⟩ := isP_keys hps
  refine run _ _ ⟨upd_same, kvs, rfl, by rw [lk.length]; exact l15, ?_⟩
  rw [upd_upd]
  have g := grow_new (o := .dK (L2.mergeK [] kvs)) R hp
  exact k _ S A _ _ g (R.new hp) (.dct (R.fresh hp) (.inl upd_same) (IsK.merge (lk.mono g) .nil)) q
theorem d_dict0 {X : Cx} {pos : Pos} : PD X (.Dict [] [] pos) tDNewK (wC (.dct [])) := ⟨pe_dnewK, fun A S σ H ρ Q Q' R E q k p hp => k _ S A _ _ (grow_new R hp) (R.new hp) (.dct (R.fresh hp) (.inl upd_same) .nil) q⟩
theorem d_callC {X : Cx} {G' : MG} {k n : Nat} {f : Addr} {fd : FuncData} {ps : List Str} {w : WF} {x : Str} {p pos : Pos} {e : Expr} {es : List Expr} {t : TA} {wl : WL} (F : FnOk X.prog X.w X.K X.mg X.base CX0 k f fd ps (spW G' n w)) (hr : Room k X.A) (hm : X.mg x = some (.ref f)) (hk : PySem.W.keepIn X.K (.ref f) = true) (hb : Binds X.K fd ps [])
    (ha : PDA X (e :: es) t wl) (hG : G' = X.G := by rfl) (hg : Gl X x := by rfl) (hdb : (x == ("__debug__" : Str)) = false := by decide) (he : starEach (e :: es) X.env = (false, eval e X.env) :: starEach es X.env := by rfl) (hpl : (backTo pos (starEach es X.env)).any (·.1) = false := by rfl) :
    PD X (.Call (.Name x p) (e :: es) [] pos) (tCall (spW G' n w) [] E0 t) (wCall n w wl) := by
  subst hG
  exact d_call F hr hm hk hb ha hg hdb he hpl
end DL

set_option Elab.async false
set_option linter.all false
set_option maxRecDepth 100000
/-! Errors, by data: what is raised carries the class and the fields of its own dict. -/
namespace DL
open PySem PySem.Spec PyProof.Rows L2
/-- how raising ends, by data: the names as they stand, the class's name, the fields -/
abbrev EX := DEnv → Str → List (Str × D) → MS → Prop
abbrev EF := Str → List (Str × D) → MS → Prop
def XF (mg : MG) (A : List Addr) (H : Hp) : Option Addr → List (Str × D) → Prop
  | none, fs => fs = []
  | some d, fs => ∃ fvs, d ∉ A ∧ H d = some (.xd fvs) ∧ IsF mg A H fvs fs
/-- what a clause's name holds -/
def exD (a : Addr) : Option Addr → List (Str × D) → D
  | none, _ => .obj a
  | some d, fs => .exc a d fs
theorem XF.is {mg : MG} {A : List Addr} {H : Hp} {d : Option Addr} {fs : List (Str × D)} (x : XF mg A H d fs) (a : Addr) : Is mg A H (.ref a) (exD a d fs) := by
  cases d with
  | none => exact .obj a
  | some d =>
    obtain ⟨fvs, n, r, l⟩ := x
    exact .exc n r l
def EndW (mg : MG) (A : List Addr) (H : Hp) (W : WX) (E' : EX) : Prop := ∀ c fs S' A' σ' H' ρ' C d, Grow A A' H H' → Rep mg A' S' H' → EnvD mg A' H' σ' ρ' → mg.f c = some (.ref C) → XF mg A' H' d fs → E' ρ' c fs S' → W (.ref C) d σ' H'
def EndX (mg : MG) (A : List Addr) (H : Hp) (E : XK) (E' : EF) : Prop := ∀ c fs S' A' H' C d, Grow A A' H H' → Rep mg A' S' H' → mg.f c = some (.ref C) → XF mg A' H' d fs → E' c fs S' → E (.ref C) d H'
section
variable {mg : MG} {A A' : List Addr} {H H' : Hp}
theorem EndW.mono {W E'} (e : EndW mg A H W E') (g : Grow A A' H H') : EndW mg A' H' W E' := fun c fs S2 A2 σ2 H2 ρ2 C d g2 => e c fs S2 A2 σ2 H2 ρ2 C d (g.trans g2)
theorem EndX.mono {W E'} (e : EndX mg A H W E') (g : Grow A A' H H') : EndX mg A' H' W E' := fun c fs S2 A2 H2 C d g2 => e c fs S2 A2 H2 C d (g.trans g2)
theorem EndX.toW {E : XK} {E' : EF} (e : EndX mg A H E E') : EndW mg A H (fun cls d _ H' => E cls d H') (fun _ => E') := fun c fs S2 A2 σ2 H2 ρ2 C d g2 R2 _ => e c fs S2 A2 H2 C d g2 R2
/-- seen from one place of the def's run -/
theorem EndW.at_ {W : WX} {E' : EX} {σ : L2.St} {ρ : DEnv} (e : EndW mg A H W E') (E : EnvD mg A H σ ρ) : EndX mg A H (WE W σ) (E' ρ) := fun c fs S2 A2 H2 C d g2 R2 hc x q => e c fs S2 A2 σ H2 ρ C d g2 R2 (E.mono g2) hc x q
end
def SndEX (mg : MG) (W : WX) (t : TE) (w : EX → WD) : Prop := ∀ A S σ H ρ Q Q' E', Rep mg A S H → EnvD mg A H σ ρ → EndW mg A H W E' → w E' ρ S Q' → EndV mg A H Q Q' → t σ H Q
def SndSX (mg : MG) (W : WX) (t : TS) (w : EX → WS) : Prop := ∀ A S σ H ρ D D' E', Rep mg A S H → EnvD mg A H σ ρ → EndW mg A H W E' → w E' D' ρ S → EndS mg A H D D' → t D σ H
structure PDX (X : Cx) (W : WX) (e : Expr) (t : TE) (w : EX → WD) : Prop where
  pe : PE X e t
  sd : SndEX X.G W t w
structure PDSX (X : Cx) (W : WX) (st : Stmt) (t : TS) (w : EX → WS) : Prop where
  pe : PS X st t
  sd : SndSX X.G W t w
structure PDSsX (X : Cx) (W : WX) (st : List Stmt) (t : TS) (w : EX → WS) : Prop where
  pe : PSs X st t
  sd : SndSX X.G W t w
section
variable {X : Cx} {W : WX} {e : Expr} {te : TE} {we : WD} {wx : EX → WD} {st : Stmt} {rest : List Stmt} {t u : TS} {w : WS} {wsx wsy : EX → WS} {pos : Pos}
theorem PD.x (h : PD X e te we) : PDX X W e te (fun _ => we) := ⟨h.pe, fun A S σ H ρ Q Q' E' R E _ q k => h.sd A S σ H ρ Q Q' R E q k⟩
theorem PDS.x (h : PDS X st t w) : PDSX X W st t (fun _ => w) := ⟨h.pe, fun A S σ H ρ Q Q' E' R E _ q k => h.sd A S σ H ρ Q Q' R E q k⟩
theorem PDSs.x (h : PDSs X rest t w) : PDSsX X W rest t (fun _ => w) := ⟨h.pe, fun A S σ H ρ Q Q' E' R E _ q k => h.sd A S σ H ρ Q Q' R E q k⟩
theorem dxs_nil : PDSsX X W [] tNext (fun _ => sNext) := dss_nil.x
theorem dxs_cons (h1 : PDSX X W st t wsx) (h2 : PDSsX X W rest u wsy) : PDSsX X W (st :: rest) (tSeq t u) (fun E' => sSeq (wsx E') (wsy E')) := by
  refine ⟨pss_cons h1.pe h2.pe, fun A S σ H ρ D D' E' R E x h k => h1.sd A S σ H ρ _ _ E' R E x h ⟨?_, k.rt, k.bk, k.ct⟩⟩
  intro ρ1 S1 A1 σ1 H1 g1 R1 E1 q1
  exact h2.sd A1 S1 σ1 H1 ρ1 _ _ E' R1 E1 (x.mono g1) q1 (k.mono g1)
theorem dxs_one (h1 : PDSX X W st t wsx) : PDSsX X W [st] t wsx := ⟨pss_one h1.pe, h1.sd⟩
theorem dx_if {c : Expr} {a b : List Stmt} {tc : TT} {wc : WB} (hc : PDT X c tc wc) (ha : PDSsX X W a t wsx) (hb : PDSsX X W b u wsy) : PDSX X W (.If c a b pos) (tIfS tc t u) (fun E' => sIf wc (wsx E') (wsy E')) := by
  refine ⟨ps_if hc.pe ha.pe hb.pe, fun A S σ H ρ D D' E' R E x h k => hc.sd A S σ H ρ _ _ R E h fun b' S1 A1 H1 g1 R1 q1 => ?_⟩
  cases b' with
  | true => exact ha.sd A1 S1 σ H1 ρ _ _ E' R1 (E.mono g1) (x.mono g1) q1 (k.mono g1)
  | false => exact hb.sd A1 S1 σ H1 ρ _ _ E' R1 (E.mono g1) (x.mono g1) q1 (k.mono g1)
theorem dx_ret (he : PDX X W e te wx) : PDSX X W (.Return (some e) pos) (tRet te) (fun E' => sRet (wx E')) := ⟨ps_ret he.pe, fun A S σ H ρ D D' E' R E x h k => he.sd A S σ H ρ _ _ E' R E x h k.rt⟩
theorem dx_set {i : Nat} {x : Str} {pos' : Pos} (hN : X.N.Nodup) (he : PDX X W e te wx) (hi : X.N[i]? = some x := by rfl) (hx : Loc X.env.scope x := by first | exact Or.inl rfl | exact Or.inr rfl) (hs : swapsWith e (some (.Name x pos')) pos.line X.env = pure false := by rfl) (hf : X.fn x = true ∨ X.env.scope.names.lookup x = some .local := by first | exact .inl rfl | exact .inr rfl) :
    PDSX X W (.Assign [.Name x pos'] e pos) (tAsg te (gName i)) (fun E' => sAsg (wx E') (gwName i)) := by
  refine ⟨ps_set (i := i) hN hi hx he.pe hs hf, fun A S σ H ρ D D' E' R E x h k => he.sd A S σ H ρ _ _ E' R E x h fun d S1 A1 v H1 g1 R1 hv q1 => ?_⟩
  exact sndg_name A1 S1 σ H1 ρ v d _ _ R1 (E.mono g1) hv q1 (k.nx.mono g1)
end
/-! ### a def that may raise -/
abbrev WFX := List D → MS → (D → MS → Prop) → EF → Prop
def spX (mg : MG) (n : Nat) (w : WFX) : Sp := fun vs H Q E => ∃ A S ds Q' E', Rep mg A S H ∧ IsL mg A H vs ds ∧ ds.length = n ∧ w ds S Q' E' ∧ EndV mg A H Q Q' ∧ EndX mg A H E E'
theorem spX.len {mg : MG} {n : Nat} {w : WFX} {vs : List V} {H : Hp} {Q : VK} {E : XK} (h : spX mg n w vs H Q E) : vs.length = n := by
  obtain ⟨A, S, ds, Q', E', R, l, e, _⟩ := h
  rw [l.length, e]
section
variable {P : Program} {w : World} {K : PySem.W.Frag} {mg : Str → Option Value} {base : Heap}
theorem fnX {x qual : Str} {st : Stmt} {f : Addr} {fd : FuncData} {N ps : List Str} {k : Nat} {wf : WFX} {ws : EX → WS} (F : Fun K x qual st f fd) (S : FnScope N ps (defScope st))
    (hb : ∀ (cdv : Value) (A : Around) (outer : List Env) (s : Shared) (H : Hp) (E : XK), Room k (A.deeper (envOfC qual (defScope st) s.heap.objs.size f cdv)) →
      ∃ t, PDSsX (cxOf (L2.CX P w) P w K mg base N qual (defScope st) f cdv A outer s H E) (fun cls d _ H' => E cls d H') (defBody st) t ws)
    (hw : ∀ ds S Q E, ds.length = ps.length → wf ds S Q E → ws (fun _ => E) { nx := fun _ S' => Q .non S', rt := Q } (startD N ds) S) : FnOk P w K mg base (L2.CX P w) (k + 1) f fd ps (spX ⟨K, mg⟩ ps.length wf) := by
  refine F.okX S (fun vs H Q E h => h.len) fun cdv A outer s H vs Q E hr h => ?_
  obtain ⟨t, hp⟩ := hb cdv A outer s H E hr
  obtain ⟨A', S', ds, Q', E', R, l, e, q, k, kx⟩ := h
  refine ⟨t, hp.pe, hp.sd A' S' (L2.start N vs) H (startD N ds) _ _ _ R (env_start l) kx.toW (hw ds S' Q' E' e q) ⟨fun ρ1 S1 A1 σ1 H1 g1 R1 E1 q1 => k _ S1 A1 .non H1 g1 R1 .non q1, k, ?_, ?_⟩⟩
  · intro ρ1 S1 A1 σ1 H1 g1 R1 E1 q1
    exact q1.elim
  · intro ρ1 S1 A1 σ1 H1 g1 R1 E1 q1
    exact q1.elim
end
/-! ### calls of such a def -/
def wCallX (n : Nat) (w : WFX) (wl : WL) : EX → WD := fun E' ρ S Q => wl ρ S fun ds S1 => ds.length = n ∧ w ds S1 Q (E' ρ)
section
variable {X : Cx} {W : WX} {k n : Nat} {f C : Addr} {fd : FuncData} {ps : List Str} {w : WFX} {x c m : Str} {p pos apos : Pos} {e o : Expr} {es : List Expr} {t : TA} {wl : WL} {to : TE} {wo : WD}
theorem dx_call (tk : Takes X W) (F : FnOk X.prog X.w X.K X.mg X.base (L2.CX X.prog X.w) k f fd ps (spX X.G n w)) (hr : Room k X.A) (hm : X.mg x = some (.ref f)) (hk : PySem.W.keepIn X.K (.ref f) = true) (hb : Binds X.K fd ps [])
    (ha : PDA X (e :: es) t wl) (hg : Gl X x := by rfl) (hdb : (x == ("__debug__" : Str)) = false := by decide) (he : starEach (e :: es) X.env = (false, eval e X.env) :: starEach es X.env := by rfl) (hpl : (backTo pos (starEach es X.env)).any (·.1) = false := by rfl) :
    PDX X W (.Call (.Name x p) (e :: es) [] pos) (tCallS (spX X.G n w) (WE W) t) (wCallX n w wl) := by
  refine ⟨pe_callS F hr hg hm hk hb (fun σ => passAt tk σ) ha.pe hdb he hpl, fun A S σ H ρ Q Q' E' R E x h k => ?_⟩
  refine ha.sd A S σ H ρ _ _ R E h fun ds S1 A1 vs H1 g1 R1 hv q1 => ?_
  exact ⟨A1, S1, ds, Q', E' ρ, R1, hv, q1.1, q1.2, k.mono g1, (x.mono g1).at_ (E.mono g1)⟩
/-- .. of a classmethod -/
theorem run_cmS {CX : CXT} {pins : List (Addr × Obj)} {σ : L2.St} {H : Hp} {s : Shared} {q g : Addr} {sp : Sp} {E : XK} {Q : VK} {us : List Value} {vs : List V} (F : FnR X.prog X.w X.K X.mg X.base CX k g sp) (hr : Room k X.A) (hx : PassesAt CX X σ E)
    (I : Inv X ((q, PySem.W.methodObj (.ref g) (.ref C)) :: pins) σ H s) (r : Vals vs us) (h : sp (.ref C :: vs) H Q E) : wpAny (model X.prog X.w) X.A (call (.ref q) us) (EP X pins σ Q) X.xe s := by
  have run : codeAny (model X.prog X.w) X.A (.call (.ref g) ⟨.ref C :: us, []⟩) (fun r s' => match r with | .ok (.ret v) => EP X ((q, PySem.W.methodObj (.ref g) (.ref C)) :: pins) σ Q v s' | .ok _ => False | .error e => X.xe e s') s := by
    refine codeAny_mono (F X.A X.stack s H (.ref C :: us) (.ref C :: vs) Q E hr I.env0 (.cons rfl r) h) fun r s' hq => ?_
    match r, hq with
    | .error e, hq => exact hx _ H s e s' I hq
    | .ok (.ret u), hq => exact I.after hq
  exact thn (wpAny_call (PySem.W.method_call (ClX.pin_at I) run)) fun _ _ y => ClX.unpinE y
def tCMethS (C : Addr) (sp : Sp) (E : L2.St → XK) (ta : TE) (t : TA) : TE := fun σ H Q => ta σ H fun x H1 => x = .ref C ∧ t σ H1 fun vs H2 => sp (.ref C :: vs) H2 Q (E σ)
def wCMethX (c : Str) (n : Nat) (w : WFX) (wo : WD) (wl : WL) : EX → WD := fun E' ρ S Q => wo ρ S fun x S1 => match x with
  | .cls c' => c' = c ∧ wl ρ S1 fun ds S2 => ds.length + 1 = n ∧ w (.cls c' :: ds) S2 Q (E' ρ)
  | _ => False
theorem dx_cmeth {p' g : Addr} {mc : Value} {pl : Sem Bool} (tk : Takes X W) (ho : PD X o to wo) (hC : X.mg c = some (.ref C)) (r : ClX.CRead X.K C mc) (cm : ClX.CMet X.K C mc m p' g) (F : FnOk X.prog X.w X.K X.mg X.base (L2.CX X.prog X.w) k g fd ps (spX X.G n w)) (hr : Room k X.A) (hb : Binds X.K fd ps []) (ha : PDA X (e :: es) t wl)
    (hst : starEach (e :: es) X.env = (false, eval e X.env) :: starEach es X.env := by rfl) (hpl : (backTo pos (starEach es X.env)).any (·.1) = false := by rfl)
    (ht : eval (.Call (.Attribute o m apos) (e :: es) [] pos) X.env = (do
      let ov ← eval o X.env
      standAt apos.atName
      let (f, first) ← holding [ov] (getMethod ov m pl)
      callWith pos f first (backTo pos (starEach (e :: es) X.env)) (backToKw pos (keywordEach [] X.env))) := by rfl) :
    PDX X W (.Call (.Attribute o m apos) (e :: es) [] pos) (tCMethS C (fun vs H Q E => spX X.G n w (vs ++ []) H Q E) (WE W) to t) (wCMethX c n w wo wl) := by
  refine ⟨⟨fun pins s σ H Q I h => ?_⟩, fun A S σ H ρ Q Q' E' R E x h k => ?_⟩
  · refine PySem.W.methodCall_KW (pl := pl) (thn (ho.pe.run pins s σ H _ I h) fun u s1 z => ?_) ht
    obtain ⟨y, H1, I1, ry, ey, q⟩ := z
    subst ey
    cases (show u = Value.ref C from ry)
    refine ClX.getmethcm_ok I1 r cm fun s2 I2 => ?_
    refine ClX.callwith_cm I2 (ClX.base_none I1 (Nat.le_refl _)) cm.fi (thn (ha.pe.run pos _ s2 σ H1 _ I2 q) fun us s3 z3 => ?_) hst hpl
    obtain ⟨vs, H2, I3, rv, q2⟩ := z3
    exact ⟨⟨ClX.pin_at I3, I3.kIn⟩, run_cmS (F.raw hb .nil) hr (passAt tk σ) I3 rv q2⟩
  · refine ho.sd A S σ H ρ _ _ R E h fun d S1 A1 v H1 g1 R1 hv q1 => ?_
    cases hv <;> first | exact q1.elim | skip
    rename_i c' C' ec
    obtain ⟨rfl, q1⟩ := q1
    have ec' := (show X.mg _ = _ from ec)
    rw [hC] at ec'
    cases ec'
    refine ⟨rfl, ?_⟩
    refine ha.sd A1 S1 σ H1 ρ _ _ R1 (E.mono g1) q1 fun ds S2 A2 vs H2 g2 R2 hvs q2 => ?_
    exact ⟨A2, S2, .cls c' :: ds, Q', E' ρ, R2, by rw [List.append_nil]; exact .cons ((Is.cls hC).mono (Grow.refl)) hvs, q2.1, q2.2, k.mono (g1.trans g2), (x.mono (g1.trans g2)).at_ (E.mono (g1.trans g2))⟩
end
/-! ### try .. except B as n -/
def sTryAs (mg : MG) (b : Value) (i : Nat) (wb : EX → WS) (ws : Addr → Value → Option Addr → WS) : WS := fun DD ρ S => wb (fun ρ' c fs S' => ∀ C, mg.f c = some (.ref C) → PySem.W.exmOne mg.K (.ref C) b = some true ∧
    ∀ a d, (d = none → fs = []) → ws a (.ref C) d { nx := fun ρ2 S2 => DD.nx (ρ2.set i none) S2, rt := DD.rt, bk := fun ρ2 S2 => DD.bk (ρ2.set i none) S2, ct := fun ρ2 S2 => DD.ct (ρ2.set i none) S2 } (ρ'.set i (some (exD a d fs))) S') DD ρ S
theorem EnvD.drop {mg : MG} {A : List Addr} {H : Hp} {σ : L2.St} {ρ : DEnv} (e : EnvD mg A H σ ρ) (i : Nat) : EnvD mg A H (σ.set i none) (ρ.set i none) := by
  refine ⟨by simp [e.len], fun j d hj => ?_⟩
  by_cases hji : i = j
  · subst hji
    by_cases hl : i < ρ.length
    · rw [List.getElem?_set_self hl] at hj; cases hj
    · rw [List.getElem?_eq_none (by simp; omega)] at hj; cases hj
  · rw [List.getElem?_set_ne hji] at hj ⊢
    exact e.at_ j d hj
theorem ds_try_as {X : Cx} {G' : MG} {x n : Str} {c : Value} {i : Nat} {body suite : List Stmt} {b₀ : Stmt} {np pos pos' : Pos} {tb : WX → TS} {wb : EX → WS} {ts : Addr → Value → Option Addr → TS} {ws : Addr → Value → Option Addr → WS} (hs : X.stack = X.env :: X.outer) (hf : X.env.frame = some X.env.locals) (hN : X.N.Nodup) (hc : Names X x c)
    (hb : ∀ (W : WX) (pn : List (Addr × Obj)) (xe : Value → Shared → Prop), Takes (X.tr pn xe) W → PDSsX (X.tr pn xe) W body (tb W) wb)
    (hsu : ∀ (a : Addr) (oe : Obj) (cls : Value) (d : Option Addr) (pn : List (Addr × Obj)), Zc cls d oe → (∃ vs, oe.data = .fields vs) → PDSs (X.suite a ((a, oe) :: pn)) (b₀ :: suite) (ts a cls d) (ws a cls d))
    (hi : X.N[i]? = some n := by rfl) (hln : X.env.kindOf n = some .local := by rfl) (hG : G' = X.G := by rfl) :
    PDS X (.Try body [.ExceptHandler (some (.Name x np)) (some n) (b₀ :: suite) pos'] [] [] pos) (fun D σ H => tb (wAs X.K c i ts (fun _ _ _ _ => False) D) D σ H) (sTryAs G' c i wb ws) := by
  subst hG
  refine ⟨ps_try_as hs hf hN hi hln hc takes0 (fun W pn xe tk _ => (hb W pn xe tk).pe) (fun a oe cls d pn hz hd => (hsu a oe cls d pn hz hd).pe), fun A S σ H ρ D D' R E h k => ?_⟩
  refine (hb (wAs X.K c i ts (fun _ _ _ _ => False) D) [] (fun _ _ => True) (fun _ _ _ => True.intro)).sd A S σ H ρ D D' _ R E ?_ h k
  intro cn fs S1 A1 σ1 H1 ρ1 C d g1 R1 E1 hC xf q
  obtain ⟨e1, q1⟩ := q C hC
  refine ⟨true, e1, fun _ a ha => ?_, fun z => Bool.noConfusion z⟩
  have q2 := q1 a d (fun z => by subst z; exact xf)
  have dat : ∃ vs, (⟨.ref C, d, .fields #[], #[]⟩ : Obj).data = .fields vs := ⟨_, rfl⟩
  refine (hsu a ⟨.ref C, d, .fields #[], #[]⟩ (.ref C) d [] ⟨rfl, rfl⟩ dat).sd A1 S1 _ H1 _ _ _ R1 (E1.set i (xf.is a)) q2 ?_
  have k1 := k.mono g1
  exact ⟨fun ρ2 S2 A2 σ2 H2 g2 R2 E2 z => k1.nx _ S2 A2 _ H2 g2 R2 (E2.drop i) z, k1.rt, fun ρ2 S2 A2 σ2 H2 g2 R2 E2 z => k1.bk _ S2 A2 _ H2 g2 R2 (E2.drop i) z, fun ρ2 S2 A2 σ2 H2 g2 R2 E2 z => k1.ct _ S2 A2 _ H2 g2 R2 (E2.drop i) z⟩
end DL

set_option Elab.async false
set_option linter.all false
set_option maxRecDepth 100000
/-! In an except suite: isinstance of the caught error, repr of data, dicts and own objects. -/
namespace DL
open PySem PySem.Spec PyProof.Rows L2
/-! ### a def that may run while an error is handled -/
section
variable {P : Program} {w : World} {K : PySem.W.Frag} {mg : Str → Option Value} {base : Heap}
theorem fnDH {x qual : Str} {st : Stmt} {f : Addr} {fd : FuncData} {N ps : List Str} {k : Nat} {wf : WF} {ws : WS} (F : Fun K x qual st f fd) (S : FnScope N ps (defScope st))
    (hb : ∀ (cdv : Value) (A : Around) (outer : List Env) (s : Shared) (H : Hp) (E : XK) (p : Addr × Obj), L2H.Hot1 A p → L2H.RoomH k (A.deeper (envOfC qual (defScope st) s.heap.objs.size f cdv)) →
      ∃ t, PDSs (L2H.cxH CX0 P w K mg base N qual (defScope st) f cdv A outer s H E p) (defBody st) t ws)
    (hw : ∀ ds S Q, ds.length = ps.length → wf ds S Q → ws { nx := fun _ S' => Q .non S', rt := Q } (startD N ds) S) : L2H.FnH P w K mg base CX0 (k + 1) f fd ps (spW ⟨K, mg⟩ ps.length wf) := by
  obtain ⟨oc, od, kV, doc, pm, an, cdv, ct, osl, rfl, lk, hcd⟩ := F.ex
  refine L2H.fn_ofH lk hcd S (fun vs H Q E h => h.len) fun A outer s H vs Q E p hot hr h => ?_
  obtain ⟨t, hp⟩ := hb cdv A outer s H E p hot hr
  obtain ⟨A', S', ds, Q', R, l, e, q, k⟩ := h
  refine ⟨t, hp.pe, hp.sd A' S' (L2.start N vs) H (startD N ds) _ _ R (env_start l) (hw ds S' Q' e q) ⟨fun ρ1 S1 A1 σ1 H1 g1 R1 E1 q1 => k _ S1 A1 .non H1 g1 R1 .non q1, k, ?_, ?_⟩⟩
  · intro ρ1 S1 A1 σ1 H1 g1 R1 E1 q1
    exact q1.elim
  · intro ρ1 S1 A1 σ1 H1 g1 R1 E1 q1
    exact q1.elim
end
section
variable {X : Cx} {k : Nat} {C g : Addr} {fd : FuncData} {ps : List Str} {sp : Sp}
theorem run_atH {pins : List (Addr × Obj)} {σ : L2.St} {H : Hp} {s : Shared} {Q : VK} {us : List Value} {vs : List V} {A : Around} {p : Addr × Obj} (F : L2H.FnH X.prog X.w X.K X.mg X.base CX0 k g fd ps sp) (hr : L2H.RoomH k A) (hot : L2H.Hot1 A p) (hp : p ∈ X.pn) (he : Env0 X.prog X.w X.K X.mg X.base A X.stack s H) (hb : Binds X.K fd ps [])
    (I : Inv X pins σ H s) (r : Vals vs us) (h : sp vs H Q E0) : wpAny (model X.prog X.w) A (call (.ref g) us) (EP X pins σ Q) X.xe s := by
  have hl : us.length = ps.length := by rw [← r.length]; exact F.len _ _ _ _ h
  have P1 := I.pin p (List.mem_append_left _ hp)
  have hpin : L2H.PinOk X.stack H s p := ⟨P1.1, P1.2.1, fun hm => (List.mem_cons.mp (I.stkSub p.1 hm)).elim P1.2.2.1 P1.2.2.2.1, P1.2.2.2.2⟩
  refine wpAny_call (codeAny_mono (F.run A X.stack s H ⟨us, []⟩ us vs Q E0 p hr hot hpin he (by simpa using hb s us I.kIn (by simpa using hl)) r h) fun r s' hq => ?_)
  match r, hq with
  | .ok (.ret u), hq => exact I.after hq
/-- repr(o) there -/
theorem call_reprOwnH {p : Addr × Obj} (M : OwnM X.K C "__repr__" g) (F : L2H.FnH X.prog X.w X.K X.mg X.base CX0 k g fd ps sp) (hr : L2H.RoomH (k + 1) X.A) (hot : L2H.Hot1 X.A p) (hp : p ∈ X.pn) (hb : Binds X.K fd ps []) : CallR X (.builtin "repr") (rOwnS C sp) := by
  intro pins s σ H xs us Q I r h
  obtain ⟨a, dx, fs, rfl, ha, q⟩ := h
  obtain ⟨u, rfl, ru⟩ := vals1 r
  cases (show u = Value.ref a from ru)
  obtain ⟨mA, OM, _⟩ := ins_get I.hok ha
  obtain ⟨od, J, _⟩ := OM.look
  obtain ⟨m, hF⟩ := I.fr
  have r1 : L2H.RoomH k X.A.in1 := ⟨by have := hr.dp; show X.A.depth + 3 * k + 5 < _; omega, by have := hr.un; show X.A.units + 1 + 16 * k + 200 < _; omega⟩
  refine PySem.W.repr_K (by have := r1.un; omega) hF I.ok.mod.kin J M.at_ M.fn ?_
  refine wpAny_mono (run_atH (us := [.ref a]) (vs := [.ref a]) (A := X.A.in1) F r1 hot hp I.env0.in1 hb I (.cons rfl .nil) q) (fun w s' z => ?_) fun _ _ e => e
  obtain ⟨v, H', I', rv, ⟨zz, rfl⟩, qq⟩ := z
  obtain ⟨t, rfl⟩ := (show ∃ t, w = Value.str zz t from rv)
  exact ⟨.str zz, H', I', ⟨t, rfl⟩, qq⟩
/-! ### repr of data, whatever is handled -/
theorem call_reprU (un : X.A.units + 200 < cLine) (hg : X.A.guards = some []) : CallR X (.builtin "repr") (rReprD X.K) := by
  intro pins s σ H xs us Q I r h
  obtain ⟨x, d, rfl, hd, sh, q⟩ := h
  obtain ⟨u, rfl, ru⟩ := vals1 r
  have low : ∀ {n : Nat}, n ≤ 101 → X.A.units + n < cLine := fun h => by omega
  cases hd with
  | non => cases (show u = Value.none from ru); exact PySem.P.repr_of_none ⟨.str _, H, I.tok _, ⟨_, rfl⟩, q⟩
  | bl b => cases (show u = Value.bool b from ru); exact PySem.P.repr_of_bool ⟨.str _, H, I.tok _, ⟨_, rfl⟩, q⟩
  | int i =>
    obtain ⟨t, rfl⟩ := (show ∃ t, u = Value.int i t from ru)
    exact PySem.P.repr_of_int (by simpa [PyData.showable] using sh.ok) ⟨.str _, H, I.tok _, ⟨_, rfl⟩, q⟩
  | str y =>
    obtain ⟨t, rfl⟩ := (show ∃ t, u = Value.str y t from ru)
    exact PySem.P.repr_of_str ⟨.str _, H, I.tok _, ⟨_, rfl⟩, q⟩ (by simpa [PyData.shown] using sh.sz)
  | @lst a zs ds hs ha =>
    obtain ⟨as, rd⟩ := Dp.reads I _ _ u (.lst hs ha) ru
    cases (show u = Value.ref a from ru)
    exact repr_of_reads' rd sh.ok (PyData.noDict_hsm sh.nod) hg (low (Nat.succ_le_succ sh.dp)) (fun _ _ e => e) (fun h' v tk hk => ⟨.str _, H, I.kept hk, ⟨v, rfl⟩, q⟩) sh.sz
  | @tup a zs ds hs ha =>
    obtain ⟨as, rd⟩ := Dp.reads I _ _ u (.tup hs ha) ru
    cases (show u = Value.ref a from ru)
    exact repr_of_reads' rd sh.ok (PyData.noDict_hsm sh.nod) hg (low (Nat.succ_le_succ sh.dp)) (fun _ _ e => e) (fun h' v tk hk => ⟨.str _, H, I.kept hk, ⟨v, rfl⟩, q⟩) sh.sz
/-! ### repr of a dict of plain items -/
def keyP : Key → PyData
  | .inl i => .int i
  | .inr x => .str x
def leafP : D → Option PyData
  | .non => some .none
  | .bl b => some (.bool b)
  | .int i => some (.int i)
  | .str x => some (.str x)
  | _ => none
inductive LeafV : V → PyData → Prop where
  | non : LeafV .non .none
  | bl (b : Bool) : LeafV (.bl b) (.bool b)
  | int (i : Int) : LeafV (.int i) (.int i)
  | str (x : Str) : LeafV (.str x) (.str x)
theorem LeafV.reads {h : Heap} {v : V} {d : PyData} (l : LeafV v d) {u : Value} (r : RelV v u) : Reads h u d [] := by
  cases l with
  | non => cases (show u = Value.none from r); exact .none
  | bl b => cases (show u = Value.bool b from r); exact .bool b
  | int i => obtain ⟨t, rfl⟩ := (show ∃ t, u = Value.int i t from r); exact .int i t
  | str x => obtain ⟨t, rfl⟩ := (show ∃ t, u = Value.str x t from r); exact .str x t
inductive LeafK : List (Key × V) → List (PyData × PyData) → Prop where
  | nil : LeafK [] []
  | cons {k : Key} {v : V} {d : PyData} {kvs : List (Key × V)} {kds : List (PyData × PyData)} (h : LeafV v d) (r : LeafK kvs kds) : LeafK ((k, v) :: kvs) ((keyP k, d) :: kds)
theorem key_reads {h : Heap} {k : Key} {u : Value} (e : keyIs k u = true) : Reads h u (keyP k) [] := by
  rcases keyIs_shape e with ⟨i, t, rfl, rfl⟩ | ⟨x, t, rfl, rfl⟩
  · exact .int i t
  · exact .str x t
theorem leaf_reads {P : Program} {w : World} {h : Heap} : ∀ {kvs : List (Key × V)} {kds : List (PyData × PyData)} {vs : List (Key × Value)} {es : List DictEntry}, LeafK kvs kds → KV kvs vs → Pairs (mixKind P w) es vs →
    ReadsAll h (es.map (·.key)) (kds.map (·.1)) [] ∧ ReadsAll h (es.map (·.val)) (kds.map (·.2)) []
  | _, _, _, _, .nil, .nil, .nil => ⟨.nil, .nil⟩
  | _, _, _, _, .cons hl r, .cons hk kr, .cons he hv pr => by
    obtain ⟨h1, h2⟩ := leaf_reads (h := h) r kr pr
    have e1 := hk.1
    have e2 := hk.2
    dsimp only at e1 e2
    refine ⟨ReadsAll.cons (as := []) (bs := []) (key_reads (by rw [e1]; exact he)) h1, ReadsAll.cons (as := []) (bs := []) (hl.reads (by show RelV _ (DictEntry.val _); rw [hv]; exact e2)) h2⟩
def rReprK : List V → Hp → VK → Prop := fun xs H Q => ∃ a kvs kds, xs = [.ref a] ∧ Rd H a (.dK kvs) ∧ LeafK kvs kds ∧ (PyData.dict kds).showable = true ∧ (PyData.dict kds).depth ≤ 100 ∧ (PyData.dict kds).shown.length ≤ sizeLine ∧ Q (.str (PyData.dict kds).shown) H
theorem call_reprK (un : X.A.units + 200 < cLine) (hg : X.A.guards = some []) : CallR X (.builtin "repr") rReprK := by
  intro pins s σ H xs us Q I r h
  obtain ⟨a, kvs, kds, rfl, ha, hl, sh, dp, sz, q⟩ := h
  obtain ⟨u, rfl, ru⟩ := vals1 r
  cases (show u = Value.ref a from ru)
  obtain ⟨_, hsm, vs, kv, o, es, ep, ho, ex, hd, _, pr, _⟩ := (show ObjOk X.prog X.w H s.heap a (.dK kvs) from ha.elim (fun e => I.hok a _ e) fun ⟨o, e⟩ => (I.hok a _ e).2)
  obtain ⟨h1, h2⟩ := leaf_reads (h := s.heap) hl kv pr
  have rd : Reads s.heap (.ref a) (.dict kds) (a :: [] ++ []) := .dict ho ex.1 hd h1 h2
  refine repr_of_reads' rd sh (fun _ hm => ?_) hg (by have : (PyData.dict kds).depth + 1 ≤ 101 := Nat.succ_le_succ dp; omega) (fun _ _ e => e) (fun h' v tk hk => ⟨.str _, H, I.kept hk, ⟨v, rfl⟩, q⟩) sz
  have hm : sysModules ∈ [a] := by simpa using hm
  have e : sysModules = a := List.mem_singleton.mp hm
  subst e
  exact absurd hsm (by decide)
end
def leafPs : List (Key × D) → Option (List (PyData × PyData))
  | [] => some []
  | (k, d) :: r => match leafP d, leafPs r with
    | some p, some ps => some ((keyP k, p) :: ps)
    | _, _ => none
def oReprK : LD := fun ds S Q => match ds with
  | [.dct kds] => ∃ ps, leafPs kds = some ps ∧ (PyData.dict ps).showable = true ∧ (PyData.dict ps).depth ≤ 100 ∧ (PyData.dict ps).shown.length ≤ sizeLine ∧ Q (.str (PyData.dict ps).shown) S
  | _ => False
theorem Is.leaf {mg : MG} {A : List Addr} {H : Hp} {v : V} {d : D} {p : PyData} (h : Is mg A H v d) (e : leafP d = some p) : LeafV v p := by
  cases h <;> cases e
  · exact .non
  · exact .bl _
  · exact .int _
  · exact .str _
theorem IsK.leaf {mg : MG} {A : List Addr} {H : Hp} : ∀ {kvs : List (Key × V)} {kds : List (Key × D)} {ps : List (PyData × PyData)}, IsK mg A H kvs kds → leafPs kds = some ps → LeafK kvs ps
  | _, _, _, .nil, e => by cases e; exact .nil
  | _, _, _, .cons h t, e => by
    unfold leafPs at e
    split at e
    · rename_i p ps e1 e2
      cases e
      exact .cons (h.leaf e1) (IsK.leaf t e2)
    · cases e
theorem snd_reprK {mg : MG} : SndC mg rReprK oReprK := by
  intro A S H xs ds Q Q' R l q k
  match ds, q, l with
  | [.dct kds], ⟨ps, e, h1, h2, h3, q⟩, l =>
    obtain ⟨v, rfl, hv⟩ := l.one
    cases hv with
    | @dct a kvs _ n r lk => exact ⟨a, kvs, ps, rfl, r, lk.leaf e, h1, h2, h3, k _ S A _ H .refl R (.str _) q⟩
def oOr (o1 o2 : LD) : LD := fun ds S Q => o1 ds S Q ∨ o2 ds S Q
theorem snd_orC {mg : MG} {r1 r2 : List V → Hp → VK → Prop} {o1 o2 : LD} (h1 : SndC mg r1 o1) (h2 : SndC mg r2 o2) : SndC mg (fun xs H Q => r1 xs H Q ∨ r2 xs H Q) (oOr o1 o2) := by
  intro A S H xs ds Q Q' R l q k
  rcases q with q | q
  · exact .inl (h1 A S H xs ds Q Q' R l q k)
  · exact .inr (h2 A S H xs ds Q Q' R l q k)
/-! ### isinstance of the caught error -/
structure ExcT (K : PySem.W.Frag) (D : Addr) : Prop where
  hc : PySem.W.isClsIn K D = true
  hg : PySem.W.findIn K (.ref D) "__getattribute__" = some (some (.builtin "BaseException.__getattribute__"))
  hk : PySem.W.findIn K (.ref D) "__getattr__" = some none
  hs : PySem.W.subIn K (.ref D) (.type "BaseException") = some true
  ha : PySem.W.findIn K (.ref D) "__class__" = some (some (.builtin "object.__class__"))
  hn : PySem.W.specialIn K (.builtin "object.__class__") "__get__" = some (some (.builtin "getset_descriptor.__get__"))
  ht : PySem.W.takesIn K (.builtin "object.__class__") = some true
  hm : PySem.W.mroIn K D (.type "object") = some true
def rIsX (K : PySem.W.Frag) (a : Addr) (cls : Value) (d : Option Addr) : List V → Hp → VK → Prop := fun xs H Q => ∃ (D : Addr) (c : V) (cv : Value) (b : Bool), cls = .ref D ∧ ExcT K D ∧ (d = none ∨ ∃ dd fs, d = some dd ∧ H dd = some (.xd fs)) ∧ xs = [.ref a, c] ∧ (∀ u, RelV c u → u = cv) ∧ PySem.W.kitOne K (.ref D) cv = some b ∧ Q (.bl b) H
theorem call_isX {X : Cx} {a : Addr} {cls : Value} {d : Option Addr} {oe : Obj} {pn : List (Addr × Obj)} (hz : Zc cls d oe) (hf : ∃ vs, oe.data = .fields vs) : CallR (X.suite a ((a, oe) :: pn)) (.builtin "isinstance") (rIsX X.K a cls d) := by
  intro pins s σ H xs us Q I r h
  obtain ⟨D, c, cv, b, rfl, C, hd, rfl, hcv, e, q⟩ := h
  obtain ⟨u1, u2, rfl, r1, r2⟩ : ∃ u1 u2, us = [u1, u2] ∧ RelV (.ref a) u1 ∧ RelV c u2 := by
    cases r with
    | cons rx rr =>
      cases rr with
      | cons rt rr =>
        cases rr
        exact ⟨_, _, rfl, rx, rt⟩
  cases (show u1 = Value.ref a from r1)
  obtain rfl := hcv _ r2
  obtain ⟨hget, _⟩ := I.pin (a, oe) (List.mem_append_left _ List.mem_cons_self)
  obtain ⟨vs, hv⟩ := hf
  have no : PySem.W.notCls oe = true := by unfold PySem.W.notCls; rw [hv] <;> rfl
  have J : ∃ od, PySem.W.InstAt s.heap a oe D od := by
    rcases hd with rfl | ⟨dd, fs, rfl, hx⟩
    · exact ⟨none, hget, hz.1, no, by rw [hz.2] <;> trivial⟩
    · obtain ⟨mA, hns, _⟩ := (show ObjOk X.prog X.w H s.heap dd (.xd fs) from I.hok dd _ hx)
      obtain ⟨od, ho, _⟩ := lookIn_ns hns
      exact ⟨some od, hget, hz.1, no, by rw [hz.2]; exact ho⟩
  obtain ⟨od, J⟩ := J
  exact PySem.W.kia_one (PySem.W.kitx_exc (od := od) C.hc C.hg C.hk C.hs C.ha C.hn C.ht C.hm) I.kIn J e (fun z => nomatch z) fun tk => ⟨.bl b, H, I.kept (t' := tk) fun _ _ z => z, rfl, q⟩
def oIsX (mg : MG) (a : Addr) (cls : Value) (d : Option Addr) : LD := fun ds S Q => match ds with
  | [x, .cls c] => (∃ fs, x = exD a d fs) ∧ ∃ D C b, cls = .ref D ∧ ExcT mg.K D ∧ mg.f c = some (.ref C) ∧ PySem.W.kitOne mg.K (.ref D) (.ref C) = some b ∧ Q (.bl b) S
  | _ => False
theorem snd_isX {mg : MG} {a : Addr} {cls : Value} {d : Option Addr} : SndC mg (rIsX mg.K a cls d) (oIsX mg a cls d) := by
  intro A S H xs ds Q Q' R l q0 k
  match ds, q0, l with
  | [x, .cls c], ⟨⟨fs, ex⟩, D, C, b, e1, e2, e3, e4, q⟩, l =>
    obtain ⟨v, w, rfl, hx, hc⟩ := l.two
    cases hc with
    | @cls _ C' ec =>
      have e : C' = C := by
        have z := ec.symm.trans e3
        injection z with z
        injection z
      subst e
      subst ex
      cases d with
      | none =>
        cases hx
        exact ⟨D, .ref C', .ref C', b, e1, e2, .inl rfl, rfl, fun u ru => ru, e4, k _ S A _ H .refl R (.bl b) q⟩
      | some dd =>
        cases hx with
        | @exc _ _ fvs _ n r lf => exact ⟨D, .ref C', .ref C', b, e1, e2, .inr ⟨dd, fvs, rfl, r⟩, rfl, fun u ru => ru, e4, k _ S A _ H .refl R (.bl b) q⟩
end DL

set_option Elab.async false
set_option linter.all false
set_option maxRecDepth 100000
set_option maxHeartbeats 2000000
namespace PySem
namespace EX_InvalidText
open PySem.W PySem.Calls PyProof.Rows PySem.HandSPX
/-! ### the text of __init__ -/
def iA (p1 p2 : Pos) : Arguments := { posonlyargs := [], args := [{ arg := "self", annotation := none, pos := p1 }, { arg := "text", annotation := none, pos := p2 }], vararg := none, kwonlyargs := [], kw_defaults := [], kwarg := none, defaults := [] }
def iB (q1 q2 q3 q4 : Pos) : List Stmt := [.Assign [.Attribute (.Name "self" q1) "text" q2] (.Name "text" q3) q4]
def iS : Scope := { kind := .function, names := [(PySem.Str.ofString "self", .local), (PySem.Str.ofString "text", .local)], isGenerator := false, isCoroutine := false, more := [] }
/-- what the written part says of Low, at C, and of its __init__, at fI -/
structure LowTxt (K : Frag) (mg : Str → Option Value) (C fI : Addr) : Prop where
  gC : mg "InvalidText" = some (.ref C)
  cls : ∃ nm q N bs bm sn sub ab col dd k0 k1 k2 k3 k5, K.lookup C = some (excClassObj nm q C N bs bm true sn sub ab col dd k0 k1 k2 k3 k5 "ValueError.__new__") ∧ refsVE bm = true
  sa : findIn K (.ref C) "__setattr__" = some (some (.builtin "object.__setattr__"))
  ga : findIn K (.ref C) "__getattribute__" = some (some (.builtin "BaseException.__getattribute__"))
  gg : findIn K (.ref C) "__getattr__" = some none
  noN : findIn K (.ref C) "text" = some none
  iC : findIn K (.ref C) "__init__" = some (some (.ref fI))
  tC : typeIn K (.ref fI) = some (.type "function")
  kC : keepIn K (.ref C) = true
  exC : subIn K (.ref C) (.type "BaseException") = some true
  tyC : typeIn K (.ref C) = some (.type "type")
  hdC : hasDictIn K C = true
  te : exmOne K (.ref C) (.ref C) = some true
  fn : ∃ (oc : Value) (od : Option Addr) (doc pm : Value) (an : Option Addr) (cdv ct : Value) (osl : Array (Option Value)) (p1 p2 q1 q2 q3 q4 : Pos),
    K.lookup fI = some ⟨oc, od, .func (fnOf "__init__" "InvalidText.__init__" (iA p1 p2) (iB q1 q2 q3 q4) iS .none .none doc pm an cdv ct), osl⟩ ∧ codeIn K cdv "InvalidText.__init__" = true
theorem one_size (v : Value) : [v].length ≤ sizeLine := by
  rw [sizeLine_eq]
  exact (by decide : 1 ≤ 16777216)
theorem kept_but {K : Frag} {h h' : Heap} {x : Addr} (X : K.In h) (hx : K.lookup x = none) (k : ∀ b o, b ≠ x → h.get? b = some o → h'.get? b = some o) : K.In h' := fun a o e =>
  k a o (fun z => by rw [z, hx] at e; cases e) (X a o e)
theorem ldC {M : Model} {s : Shared} {name : Str} {scope : Scope} {L a : Addr} {cd : Value} {m : Str → Option Value} {x : Str} {pos : Pos} {v : Value} {Q : Value → Shared → Prop} {A : Around} {E : Value → Shared → Prop} (hn : s.heap.Ns L m) (hv : m x = some v) (h : Q v s)
    (hk : scope.kind = .function := by rfl) (hl : (envOfC name scope L a cd).kindOf x = some .local := by rfl) (hd : (x == ("__debug__" : Str)) = false := by decide) :
    wpAny M A (eval (.Name x pos) (envOfC name scope L a cd)) Q E s := wpAny_Name (wpAny_loadName_local hk hl hn hv h) hd
/-- what __init__ leaves of a fresh exception at x -/
structure InitEnd (h h' : Heap) (x C dx t1 : Addr) (v : Value) : Prop where
  keep : ∀ b o, b ≠ x → h.get? b = some o → h'.get? b = some o
  obj : h'.get? x = some { cls := .ref C, dict := some dx, data := .fields #[.ref t1, .none, .none, .none, .bool false, .none] }
  dbig : h.objs.size ≤ dx
  dne : dx ≠ x
  ns : h'.Ns1 dx (fun y => if y = "text" then some v else none)
/-- a made Low -/
structure OwnMade (h h' : Heap) (e C d : Addr) (v : Value) : Prop where
  keep : ∀ b o, h.get? b = some o → h'.get? b = some o
  new : h.objs.size ≤ e
  obj : ∃ oe vs, h'.get? e = some oe ∧ oe.cls = .ref C ∧ oe.dict = some d ∧ oe.data = .fields vs ∧ vs[1]? = some .none
  dbig : h.objs.size ≤ d
  dne : d ≠ e
  ns : h'.Ns1 d (fun y => if y = "text" then some v else none)
section
variable {prog : Program} {w : World} {A : Around} {E : Value → Shared → Prop} {R : Result → Shared → Prop} {s : Shared} {K : Frag} {mg : Str → Option Value} {C fI : Addr}
theorem low_init (T : LowTxt K mg C fI) {x t0 : Addr} {v : Value} (X : K.In s.heap) (hlim : s.heap.NoLimit) (hx : s.heap.get? x = some (excO C t0)) (hnx : K.lookup x = none) (hroom : A.depth < recursionLimit)
    (hq : ∀ h' tk dx, InitEnd s.heap h' x C dx t0 v → R (.ok (.ret .none)) { s with heap := h', toks := tk }) :
    codeAny (model prog w) A (.call (.ref fI) ⟨[.ref x, v], []⟩) R s := by
  obtain ⟨oc, od, doc, pm, an, cdv, ct, osl, p1, p2, q1, q2, q3, q4, ho, hcd⟩ := T.fn
  obtain ⟨nm, q, N, bs, bm, sn, sub, ab, col, dd, k0, k1, k2, k3, k5, hC, hbm⟩ := T.cls
  have hcl : clsIn K C = some { name := nm, bases := bs, mro := .ref C :: bm, ns := N, qualname := q, hasDict := true, slotNames := sn, subclasses := sub, abstract := ab, collection := col, hasDel := false } := by unfold clsIn; rw [hC] <;> rfl
  refine Att.call_fn (binds := [("self", .ref x), ("text", v)]) X hlim ho hcd hroom (BindsTo.of_eq (by first | rfl | with_unfolding_all rfl)) (by first | rfl | decide | with_unfolding_all rfl) (fun s₁ IC => ?_) rfl rfl rfl
  obtain ⟨h₁, tk₁, rfl⟩ := IC.toInCall.same
  have k : ∀ b o, s.heap.get? b = some o → h₁.get? b = some o := IC.toInCall.keep
  have hn := IC.toInCall.ns
  have hxL : s.heap.objs.size ≠ x := Nat.ne_of_gt (Heap.lt_size hx)
  have X₁ : K.In h₁ := X.keeps k
  have hx₁ := k _ _ hx
  -- self.by = by
  show wpAny _ _ (execs _ _) _ _ _
  refine wpAny_execs_cons (plainObj_wpAny_Assign_Attribute ?_)
  refine ldC (v := v) hn (by first | rfl | with_unfolding_all rfl | kernel_rfl) (ldC (v := .ref x) hn (by first | rfl | with_unfolding_all rfl | kernel_rfl) ?_)
  refine set_plain X₁ (ox := excO C t0) (od := none) ⟨hx₁, rfl, rfl, trivial⟩ T.sa ?_
  refine exc_osa X₁ hx₁ hcl (show refsVE (.ref C :: bm) = true from hbm) rfl T.noN (fun h₃ tk₃ dx k₃ dn dne hx₃ hn₃ => ?_)
  show wpAny _ _ (execs _ _) _ _ _
  have z : s.heap.objs.size < h₁.objs.size := hn.lt
  exact wpAny_execs_nil (hq h₃ tk₃ dx ⟨fun b o hb e => k₃ b o hb (k b o e), hx₃, Nat.le_of_lt (Nat.lt_of_lt_of_le z dn), dne, hn₃⟩)
theorem low_made (T : LowTxt K mg C fI) {v : Value} (X : K.In s.heap) (hlim : s.heap.NoLimit) (hroom : A.depth + 1 < recursionLimit)
    (hq : ∀ h' tk e d, OwnMade s.heap h' e C d v → R (.ok (.ret (.ref e))) { s with heap := h', toks := tk }) :
    codeAny (model prog w) A (.call (.ref C) ⟨[v], []⟩) R s := by
  obtain ⟨nm, q, N, bs, bm, sn, sub, ab, col, dd, k0, k1, k2, k3, k5, hC, hbm⟩ := T.cls
  obtain ⟨hp, g, dr, tk, os⟩ := s
  have k : ∀ b o, hp.get? b = some o → ((hp.push (kdv_tup [v])).push (excO C hp.objs.size)).get? b = some o := fun b o e => Heap.get?_push_of_some _ (Heap.get?_push_of_some _ e)
  have hget : ((hp.push (kdv_tup [v])).push (excO C hp.objs.size)).get? (hp.objs.size + 1) = some (excO C hp.objs.size) := by heap_get
  have hnx : K.lookup (hp.objs.size + 1) = none := by
    cases e : K.lookup (hp.objs.size + 1) with
    | none => rfl
    | some o =>
      have z : hp.get? (hp.objs.size + 1) = some o := X _ _ e
      exact absurd (Nat.lt_of_succ_lt (Heap.lt_size z)) (Nat.lt_irrefl _)
  refine call_own F.excBase_ValueError (fun X => refsVE_contains X bm hbm) (X _ _ hC) (looks_findIn X T.iC) (fun self => bind_fn X self T.tC) (one_size v) ?_
  refine low_init (s := ⟨(hp.push (kdv_tup [v])).push (excO C hp.objs.size), g, dr, tk, os⟩) T (X.keeps k) (hlim.keeps k) hget hnx ?_ fun h' tk' dx ⟨k', hx, dn, dne, hns⟩ => ?_
  · show A.depth + 1 < recursionLimit
    exact hroom
  · have old : ∀ b o, hp.get? b = some o → h'.get? b = some o := fun b o e => k' b o (Nat.ne_of_lt (Nat.lt_succ_of_lt (Heap.lt_size e))) (k b o e)
    have z : hp.objs.size + 1 + 1 ≤ dx := by
      first
        | (simpa only [Heap.size_push] using dn)
        | exact dn
        | (have q := dn; rw [Heap.size_push, Heap.size_push] at q; exact q)
    exact ⟨rfl, hq h' tk' (hp.objs.size + 1) dx ⟨old, Nat.le_succ _, ⟨_, _, hx, rfl, rfl, rfl, rfl⟩, Nat.le_trans (Nat.le_trans (Nat.le_succ _) (Nat.le_succ _)) z, dne, hns⟩⟩
end
end EX_InvalidText
end PySem
namespace L2
namespace EX_InvalidText
open PySem PySem.Spec PyProof.Rows
theorem relO_low {v : V} {v' : Value} (r : RelV v v') (f : Str) : RelO (List.lookup f [(("text" : Str), v)]) (if f = "text" then some v' else none) := by
  by_cases hw : f = "text"
  · subst hw
    rw [if_pos rfl]
    have q : List.lookup ("text" : Str) [(("text" : Str), v)] = some v := by simp [List.lookup]
    rw [q]
    exact r
  · rw [if_neg hw]
    have qw : (f == ("text" : Str)) = false := by simpa using hw
    have q2 : List.lookup f [(("text" : Str), v)] = none := by simp [List.lookup, qw]
    rw [q2]
    trivial
section
variable {X : Cx} {C fI : Addr}
/-- Low(e) -/
def tMkLow (C : Addr) (ta : TA) : St → Hp → XK → Prop := fun σ H Q => ta σ H fun vs H1 => ∃ v, vs = [v] ∧ ∀ d, H1 d = none → Q (.ref C) (some d) (upd H1 d (.xd [(("text" : Str), v)]))
theorem pmk_low {a : Expr} {ta : TA} {p pos : Pos} {k : Nat} (T : PySem.EX_InvalidText.LowTxt X.K X.mg C fI) (hr : Room k X.A) (ha : PA X [a] ta) (hg : Gl X "InvalidText" := by rfl)
    (he : starEach (a :: []) X.env = (false, eval a X.env) :: starEach [] X.env := by rfl) (hpl : (backTo pos (starEach [] X.env)).any (·.1) = false := by rfl) :
    PMk X (.Call (.Name "InvalidText" p) [a] [] pos) (tMkLow C ta) := by
  intro pins s σ H Q I h
  refine wpAny_Call_Name_kw (ld_glob I hg T.gC ?_)
  refine PySem.W.callWith_K (h₀ := X.base) I.ok.mod.kin T.kC (thn (ha.run pos pins s σ H _ I h) fun us s1 hh => ?_) he hpl
  obtain ⟨vs, H1, I1, r1, v, ev, q1⟩ := hh
  subst ev
  refine ⟨I1.kIn, ?_⟩
  cases r1 with
  | cons rv rn =>
    rename_i v' us'
    cases rn
    show wpAny _ _ (call (.ref C) [v']) _ _ _
    have hlim := I1.nolimit
    obtain ⟨hp, g, dr, tk, os⟩ := s1
    refine wpAny_call (PySem.EX_InvalidText.low_made T I1.kIn hlim (by have := hr.dp; omega) fun h' tk' e d M => ?_)
    show MkP X pins σ Q (.ref e) ⟨h', g, dr, tk', os⟩
    obtain ⟨oe, fv, hoe, hc, hd, hdat, h1⟩ := M.obj
    have hns := M.ns
    obtain ⟨G', g1, g2⟩ := restrict h' fun b => decide (b ≠ e)
    have gk : ∀ b, b ≠ e → G'.get? b = h'.get? b := fun b hb => g1 b (decide_eq_true hb)
    have ge : G'.get? e = none := g2 e (by simp)
    have old : ∀ b o, hp.get? b = some o → G'.get? b = some o := fun b o q => (gk b (Nat.ne_of_lt (Nat.lt_of_lt_of_le (Heap.lt_size q) M.new))).trans (M.keep b o q)
    have ob : ObjOk X.prog X.w (upd H1 d (.xd [(("text" : Str), v)])) G' d (.xd [(("text" : Str), v)]) :=
      ⟨_, hns.at (fun o q => (gk d M.dne).trans q), fun f => relO_low rv f⟩
    have J : Inv X pins σ (upd H1 d (.xd [(("text" : Str), v)])) ⟨G', g, dr, tk', os⟩ := I1.laid (t' := tk') old M.dbig ob
    refine ⟨e, oe, fv, ⟨G', g, dr, tk', os⟩, _, .ref C, some d, rfl, J, fun b o q => ?_, ge, hoe, ⟨hc, hd⟩, hdat, h1, ?_, rfl, I1.bare, raises_own T.exC T.tyC, q1 d (I1.hok.fresh M.dbig)⟩
    · by_cases hb : b = e
      · have q' : G'.get? b = some o := q
        rw [hb, ge] at q'; cases q'
      · exact (gk b hb).symm.trans q
    · rw [upd_ne (Ne.symm M.dne)]
      exact I1.hok.fresh M.new
/-- raise Low(e) -/
def tRaiseLow (C : Addr) (W : WX) (ta : TA) : TS := fun _ σ H => tMkLow C ta σ H fun cls d H' => W cls d σ H'
theorem ps_raiseLow {a : Expr} {ta : TA} {W : WX} {p pos pos2 : Pos} {k : Nat} (hc : X.calm = true) (T : PySem.EX_InvalidText.LowTxt X.K X.mg C fI) (hr : Room k X.A) (tk : Takes X W) (ha : PA X [a] ta) (hg : Gl X "InvalidText" := by rfl)
    (he : starEach (a :: []) X.env = (false, eval a X.env) :: starEach [] X.env := by rfl) (hpl : (backTo pos (starEach [] X.env)).any (·.1) = false := by rfl) :
    PS X (.Raise (some (.Call (.Name "InvalidText" p) [a] [] pos)) none pos2) (tRaiseLow C W ta) := ps_raise hc tk (pmk_low T hr ha hg he hpl)
/-- low.by, low the exception that the suite holds (at a; its class cls, its dict d) -/
def tByLow (C : Addr) (a : Addr) (cls : Value) (d : Option Addr) (te : TE) : TE := fun σ H Q => te σ H fun x H1 => x = .ref a ∧ cls = .ref C ∧ ∃ (dd : Addr) (v : V), d = some dd ∧ H1 dd = some (.xd [(("text" : Str), v)]) ∧ Q v H1
theorem pe_byLow {a : Addr} {oe : Obj} {cls : Value} {d : Option Addr} {pn : List (Addr × Obj)} {e : Expr} {te : TE} {pos : Pos} (T : PySem.EX_InvalidText.LowTxt X.K X.mg C fI) (hz : Zc cls d oe) (hf : ∃ vs, oe.data = .fields vs) (he : PE (X.suite a ((a, oe) :: pn)) e te)
    (hb : attributeBase e "text" X.env (eval e X.env) = eval e X.env := by rfl) :
    PE (X.suite a ((a, oe) :: pn)) (.Attribute e "text" pos) (tByLow C a cls d te) := by
  refine ⟨fun pins s σ H Q I h => ?_⟩
  refine attr_of hb (thn (he.run pins s σ H _ I h) fun u s1 hh => ?_)
  obtain ⟨x, H1, I1, rx, ex, ec, dd, v, ed, ea, q⟩ := hh
  subst ex
  obtain rfl : u = Value.ref a := rx
  subst ec
  subst ed
  obtain ⟨ha, _⟩ := I1.pin (a, oe) (List.mem_append_left _ List.mem_cons_self)
  obtain ⟨vs, hd⟩ := hf
  have hx : ObjOk X.prog X.w H1 s1.heap dd (.xd [(("text" : Str), v)]) := I1.hok dd _ ea
  obtain ⟨mA, hns, hr⟩ := hx
  obtain ⟨od, ho, hl⟩ := lookIn_ns hns
  have l : List.lookup ("text" : Str) [(("text" : Str), v)] = some v := by simp [List.lookup]
  obtain ⟨u, hu, ru⟩ := RelO.some_of (v := v) (o := mA "text") (by rw [← l]; exact hr "text")
  have J : PySem.W.InstAt s1.heap a oe C (some od) := ⟨ha, hz.1, by unfold PySem.W.notCls; rw [hd] <;> rfl, by rw [hz.2]; exact ho⟩
  exact HandSPX.exc_get I1.kIn J T.ga T.gg T.exC (PySem.W.findObj_own T.hdC T.noN rfl (by rw [hl, hu])) (handed_of ru) ⟨v, H1, I1.tok _, ru, q⟩
end
end EX_InvalidText
end L2
namespace DL
open PySem PySem.Spec PyProof.Rows L2
section
variable {X : Cx} {W : WX} {C fI : Addr} {k : Nat}
/-- raise InvalidText(e) -/
theorem dx_raise_InvalidText {a : Expr} {ta : TA} {wa : WL} {p pos pos2 : Pos} (hc : X.calm = true) (T : PySem.EX_InvalidText.LowTxt X.K X.mg C fI) (hr : Room k X.A) (tk : Takes X W) (ha : PDA X [a] ta wa) (hg : Gl X "InvalidText" := by rfl)
    (he : starEach (a :: []) X.env = (false, eval a X.env) :: starEach [] X.env := by rfl) (hpl : (backTo pos (starEach [] X.env)).any (·.1) = false := by rfl) :
    PDSX X W (.Raise (some (.Call (.Name "InvalidText" p) [a] [] pos)) none pos2) (EX_InvalidText.tRaiseLow C W ta) (fun E' D ρ S => wa ρ S fun ds S1 => match ds with
      | [x] => E' ρ "InvalidText" [("text", x)] S1
      | _ => False) := by
  refine ⟨EX_InvalidText.ps_raiseLow hc T hr tk ha.pe hg he hpl, fun A S σ H ρ D D' E' R E x h kk => ?_⟩
  refine ha.sd A S σ H ρ _ _ R E h fun ds S1 A1 vs H1 g1 R1 hv q1 => ?_
  match ds, hv, q1 with
  | [y], hv, q1 =>
    obtain ⟨v, rfl, hy⟩ := hv.one
    refine ⟨v, rfl, fun d hd => ?_⟩
    have g2 := grow_new (o := .xd [(("text" : Str), v)]) R1 hd
    exact x "InvalidText" [("text", y)] S1 A1 σ _ ρ C (some d) (g1.trans g2) (R1.new hd) ((E.mono g1).mono g2) T.gC ⟨_, R1.fresh hd, upd_same, (IsF.cons hy .nil).mono g2⟩ q1
/-- e.text, e the error that the suite holds -/
def wBy_text (C a : Addr) (cls : Value) (d : Option Addr) (we : WD) : WD := fun ρ S Q => we ρ S fun x S1 => d ≠ none ∧ cls = .ref C ∧ ∃ y, x = exD a d [("text", y)] ∧ Q y S1
theorem d_by_text {a : Addr} {oe : Obj} {cls : Value} {d : Option Addr} {pn : List (Addr × Obj)} {e : Expr} {te : TE} {we : WD} {pos : Pos} (T : PySem.EX_InvalidText.LowTxt X.K X.mg C fI) (hz : Zc cls d oe) (hf : ∃ vs, oe.data = .fields vs) (he : PD (X.suite a ((a, oe) :: pn)) e te we)
    (hb : attributeBase e "text" X.env (eval e X.env) = eval e X.env := by rfl) : PD (X.suite a ((a, oe) :: pn)) (.Attribute e "text" pos) (EX_InvalidText.tByLow C a cls d te) (wBy_text C a cls d we) := by
  refine ⟨EX_InvalidText.pe_byLow T hz hf he.pe hb, fun A S σ H ρ Q Q' R E h kk => ?_⟩
  refine he.sd A S σ H ρ _ _ R E h fun x S1 A1 v H1 g1 R1 hv q1 => ?_
  obtain ⟨hd, ec, y, rfl, q1⟩ := q1
  cases d with
  | none => exact absurd rfl hd
  | some dd =>
    cases hv with
    | @exc _ _ fvs _ n r l =>
      cases l with
      | @cons _ v1 _ fs1 _ h1 t1 =>
        cases t1
        exact ⟨rfl, ec, dd, v1, rfl, r, kk _ S1 A1 v1 H1 g1 R1 h1 q1⟩
end
end DL

set_option Elab.async false
set_option linter.all false
set_option maxRecDepth 100000
/-! A classmethod called by a keyword; a call that doesn't raise. -/
namespace DL
open PySem PySem.Spec PyProof.Rows L2
theorem PDX.no {X : Cx} {e : Expr} {t : TE} {w : EX → WD} (h : PDX X (fun _ _ _ _ => False) e t w) : PD X e t (w fun _ _ _ _ => False) :=
  ⟨h.pe, fun A S σ H ρ Q Q' R E q k => h.sd A S σ H ρ Q Q' _ R E (fun _ _ _ _ _ _ _ _ _ _ _ _ _ _ z => z.elim) q k⟩
section
variable {X : Cx} {W : WX} {k n : Nat} {f C : Addr} {fd : FuncData} {ps ks : List Str} {w : WFX} {c m : Str} {pos apos : Pos} {o : Expr} {kws : List Keyword} {t : TA} {wl : WL} {to : TE} {wo : WD}
theorem dx_cmethK {p' g : Addr} {mc : Value} {pl : Sem Bool} (tk : Takes X W) (ho : PD X o to wo) (hC : X.mg c = some (.ref C)) (r : ClX.CRead X.K C mc) (cm : ClX.CMet X.K C mc m p' g) (F : FnOk X.prog X.w X.K X.mg X.base (L2.CX X.prog X.w) k g fd ps (spX X.G n w)) (hr : Room k X.A)
    (kb : ∀ (s : Shared) (v : Value) (us : List Value), X.K.In s.heap → us.length = ks.length → BindsTo s fd ⟨[v], ks.zip us⟩ (ps.zip (v :: us))) (hk : PDK X kws t wl) (hn : n = ks.length + 1 := by rfl) (hks : (backToKw pos (keywordEach kws X.env)).filterMap (·.1) = ks := by rfl) (hall : (backToKw pos (keywordEach kws X.env)).all (·.1.isSome) = true := by rfl)
    (hpl : ((backTo pos (starEach [] X.env)).any (·.1) || (backToKw pos (keywordEach kws X.env)).any (·.1.isNone)) = false := by rfl)
    (ht : eval (.Call (.Attribute o m apos) [] kws pos) X.env = (do
      let ov ← eval o X.env
      standAt apos.atName
      let (f, first) ← holding [ov] (getMethod ov m pl)
      callWith pos f first (backTo pos (starEach [] X.env)) (backToKw pos (keywordEach kws X.env))) := by rfl) :
    PDX X W (.Call (.Attribute o m apos) [] kws pos) (tCMethS C (fun vs H Q E => vs.length = n ∧ spX X.G n w vs H Q E) (WE W) to t) (wCMethX c n w wo wl) := by
  refine ⟨⟨fun pins s σ H Q I h => ?_⟩, fun A S σ H ρ Q Q' E' R E x h k => ?_⟩
  · refine PySem.W.methodCall_KW (pl := pl) (thn (ho.pe.run pins s σ H _ I h) fun u s1 z => ?_) ht
    obtain ⟨y, H1, I1, ry, ey, q⟩ := z
    subst ey
    cases (show u = Value.ref C from ry)
    refine ClX.getmethcm_ok I1 r cm fun s2 I2 => ?_
    refine PySem.W.callWith_of hpl (PySem.W.keeps_M (self := .ref C) cm.fi) (evalArgs_kw2_nil hall (thn (hk.pe.run pos _ s2 σ H1 _ I2 q) fun us s3 z3 => ?_))
    obtain ⟨vs, H2, I3, rv, hl, q2⟩ := z3
    refine ⟨⟨ClX.pin_at I3, I3.kIn⟩, ?_⟩
    rw [hks]
    have lu : us.length = ks.length := by rw [← rv.length]; simp only [List.length_cons] at hl; omega
    have run : codeAny (model X.prog X.w) X.A (.call (.ref g) ⟨.ref C :: [], ks.zip us⟩) (fun r s' => match r with | .ok (.ret v) => EP X ((s1.heap.objs.size, PySem.W.methodObj (.ref g) (.ref C)) :: pins) σ Q v s' | .ok _ => False | .error e => X.xe e s') s3 := by
      refine codeAny_mono (F.run X.A X.stack s3 H2 ⟨[.ref C], ks.zip us⟩ (.ref C :: us) (.ref C :: vs) Q (WE W σ) hr I3.env0 (kb s3 _ us I3.kIn lu) (.cons rfl rv) q2) fun r s' hq => ?_
      match r, hq with
      | .error e, hq => exact passAt tk σ _ H2 s3 e s' I3 hq
      | .ok (.ret u), hq => exact I3.after hq
    exact thn (wpAny_call (PySem.W.method_call (ClX.pin_at I3) run)) fun _ _ y => ClX.unpinE y
  · refine ho.sd A S σ H ρ _ _ R E h fun d S1 A1 v H1 g1 R1 hv q1 => ?_
    cases hv <;> first | exact q1.elim | skip
    rename_i c' C' ec
    obtain ⟨rfl, q1⟩ := q1
    have ec' := (show X.mg _ = _ from ec)
    rw [hC] at ec'
    cases ec'
    refine ⟨rfl, ?_⟩
    refine hk.sd A1 S1 σ H1 ρ _ _ R1 (E.mono g1) q1 fun ds S2 A2 vs H2 g2 R2 hvs q2 => ?_
    exact ⟨by rw [List.length_cons, hvs.length]; exact q2.1, A2, S2, .cls c' :: ds, Q', E' ρ, R2, .cons ((Is.cls hC).mono (Grow.refl)) hvs, q2.1, q2.2, k.mono (g1.trans g2), (x.mono (g1.trans g2)).at_ (E.mono (g1.trans g2))⟩
end
end DL

set_option Elab.async false
set_option linter.all false
set_option maxRecDepth 100000
/-! A def that raises nothing, called whatever error is handled further up. -/
namespace DL
open PySem PySem.Spec PyProof.Rows L2
abbrev cxM (P : Program) (w : World) (K : PySem.W.Frag) (mg : Str → Option Value) (base : Heap) (N : List Str) (qual : Str) (scope : Scope) (f : Addr) (cd : Value) (A : Around) (outer : List Env) (s : Shared) (H : Hp) (E : XK) : Cx :=
  { cxOf CX0 P w K mg base N qual scope f cd A outer s H E with calm := false }
structure FnM (P : Program) (w : World) (K : PySem.W.Frag) (mg : Str → Option Value) (base : Heap) (k : Nat) (f : Addr) (fd : FuncData) (ps : List Str) (sp : Sp) : Prop where
  lenM : ∀ vs H Q, sp vs H Q E0 → vs.length = ps.length
  runM : ∀ (A : Around) (outer : List Env) (s : Shared) (H : Hp) (g : Args) (us : List Value) (vs : List V) (Q : VK), L2H.RoomH k A → Env0 P w K mg base A outer s H → BindsTo s fd g (ps.zip us) → Vals vs us → sp vs H Q E0 →
    codeAny (model P w) A (.call (.ref f) g) (CR CX0 outer P w H s Q E0) s
theorem Inv.cold {P : Program} {w : World} {K : PySem.W.Frag} {mg : Str → Option Value} {base : Heap} {N : List Str} {qual : Str} {scope : Scope} {f : Addr} {cd : Value} {A A' : Around} {outer : List Env} {s s1 : Shared} {H H1 : Hp} {E : XK} {σ : L2.St} (hA : A.frames = A'.frames)
    (I : Inv (cxOf CX0 P w K mg base N qual scope f cd A' outer s H E) [] σ H1 s1) : Inv (cxM P w K mg base N qual scope f cd A outer s H E) [] σ H1 s1 := by
  have ok := I.ok
  refine ⟨⟨ok.mod, ok.kind, ok.glob, ok.blt, ok.above, ok.inj, ok.has, ok.cab, (fun z => Bool.noConfusion (show false = true from z)), ?_, ok.stk, ok.exf, ok.bs, ok.bsz, ok.noex, ok.exfs, ok.funs, ok.frf⟩, I.os, I.bare, I.base, I.loc, I.cell, I.free, I.freeC, I.pin, I.hok, I.len⟩
  have h := ok.frames
  have e : (A'.deeper (envOfC qual scope s.heap.objs.size f cd)).frames = (A.deeper (envOfC qual scope s.heap.objs.size f cd)).frames := by
    unfold Around.deeper Around.frames at *
    simp_all
  exact e.symm.trans h
section
variable {P : Program} {w : World} {K : PySem.W.Frag} {mg : Str → Option Value} {base : Heap} {f : Addr} {fd : FuncData} {ps : List Str} {sp : Sp} {k : Nat}
theorem fnM {x qual : Str} {st : Stmt} {N : List Str} (F : Fun K x qual st f fd) (S : FnScope N ps (defScope st)) (hl : ∀ vs H Q, sp vs H Q E0 → vs.length = ps.length)
    (hb : ∀ (cdv : Value) (A : Around) (outer : List Env) (s : Shared) (H : Hp) (vs : List V) (Q : VK), L2H.RoomH k (A.deeper (envOfC qual (defScope st) s.heap.objs.size f cdv)) → sp vs H Q E0 →
      ∃ t, PSs (cxM P w K mg base N qual (defScope st) f cdv A outer s H E0).nox (defBody st) t ∧ t { nx := fun _ H' => Q .non H', rt := Q } (L2.start N vs) H) : FnM P w K mg base (k + 1) f fd ps sp := by
  obtain ⟨oc, od, kV, doc, pm, an, cdv, ct, osl, rfl, lk, hcd⟩ := F.ex
  refine ⟨hl, fun A outer s H g us vs Q hr e0 bd rv hs => ?_⟩
  have inK := e0.mod.kin.keeps fun b o e => (e0.bs b o e).1
  have nol := e0.mod.nolimit.keeps fun b o e => (e0.bs b o e).1
  refine codeAny_call_function hr.depth (inK _ _ lk) rfl S.co S.gen rfl (PySem.W.codeRec_of inK hcd) (bd _ _ _ _ ?_)
  refine wpAny_newFunctionEnv_cells S.kind (fun y hy => ?_) fun env he s1 ic => ?_
  · have hm : y.1 ∈ ps := (List.of_mem_zip (a := y.1) (b := y.2) hy).1
    exact (S.par y.1 hm).imp id fun q => ⟨q, PySem.W.cellsFrom_some _ _ _ (Or.inl q)⟩
  subst he
  obtain ⟨t, hp, q⟩ := hb cdv A outer s H vs Q (hr.deeper _) hs
  have e1 : Env0 P w K mg base ({ A with handled := none } : Around) outer s H := ⟨e0.frames, e0.mod, e0.bs, e0.bsz, e0.funs, e0.frf, e0.hok, e0.bare⟩
  have J0 := inv_start (CX := CX0) (qual := qual) (f := f) (cd := cdv) (A := { A with handled := none }) (E := E0) S rfl e1 (hl _ _ _ hs) rv ic
  have J : Inv (cxM P w K mg base N qual (defScope st) f cdv A outer s H E0) [] (L2.start N vs) H s1 := Inv.cold (A' := { A with handled := none }) rfl J0
  refine ⟨nol.keeps ic.toInCall.keep, codeAny_func (wpAny_mono (hp.nox.run [] s1 (L2.start N vs) H _ J q) (fun fl s' z => ?_) fun _ _ z => z)⟩
  cases fl with
  | brk => obtain ⟨_, _, _, n⟩ := z; exact (n : False).elim
  | cont => obtain ⟨_, _, _, n⟩ := z; exact (n : False).elim
  | next => obtain ⟨σ', H', I, n⟩ := z; exact ⟨V.non, H', I.os, I.bare, I.base, I.hok, rfl, n⟩
  | ret u => obtain ⟨v, σ', H', I, rr, n⟩ := z; exact ⟨v, H', I.os, I.bare, I.base, I.hok, rr, n⟩
theorem fnDM {x qual : Str} {st : Stmt} {N : List Str} {wf : WF} {ws : WS} (F : Fun K x qual st f fd) (S : FnScope N ps (defScope st))
    (hb : ∀ (cdv : Value) (A : Around) (outer : List Env) (s : Shared) (H : Hp), L2H.RoomH k (A.deeper (envOfC qual (defScope st) s.heap.objs.size f cdv)) →
      ∃ t, PDSs (cxM P w K mg base N qual (defScope st) f cdv A outer s H E0).nox (defBody st) t ws)
    (hw : ∀ ds S Q, ds.length = ps.length → wf ds S Q → ws { nx := fun _ S' => Q .non S', rt := Q } (startD N ds) S) : FnM P w K mg base (k + 1) f fd ps (spW ⟨K, mg⟩ ps.length wf) := by
  refine fnM F S (fun vs H Q h => h.len) fun cdv A outer s H vs Q hr h => ?_
  obtain ⟨t, hp⟩ := hb cdv A outer s H hr
  obtain ⟨A', S', ds, Q', R, l, e, q, kk⟩ := h
  refine ⟨t, hp.pe, hp.sd A' S' (L2.start N vs) H (startD N ds) _ _ R (env_start l) (hw ds S' Q' e q) ⟨fun ρ1 S1 A1 σ1 H1 g1 R1 E1 q1 => kk _ S1 A1 .non H1 g1 R1 .non q1, kk, ?_, ?_⟩⟩
  · intro ρ1 S1 A1 σ1 H1 g1 R1 E1 q1; exact q1.elim
  · intro ρ1 S1 A1 σ1 H1 g1 R1 E1 q1; exact q1.elim
end
section
variable {X : Cx} {k : Nat} {C g : Addr} {fd : FuncData} {ps : List Str} {sp : Sp}
theorem run_atM {pins : List (Addr × Obj)} {σ : L2.St} {H : Hp} {s : Shared} {Q : VK} {us : List Value} {vs : List V} {A : Around} (F : FnM X.prog X.w X.K X.mg X.base k g fd ps sp) (hr : L2H.RoomH k A) (he : Env0 X.prog X.w X.K X.mg X.base A X.stack s H) (hb : Binds X.K fd ps [])
    (I : Inv X pins σ H s) (r : Vals vs us) (h : sp vs H Q E0) : wpAny (model X.prog X.w) A (call (.ref g) us) (EP X pins σ Q) X.xe s := by
  have hl : us.length = ps.length := by rw [← r.length]; exact F.lenM _ _ _ h
  refine wpAny_call (codeAny_mono (F.runM A X.stack s H ⟨us, []⟩ us vs Q hr he (by simpa using hb s us I.kIn (by simpa using hl)) r h) fun r s' hq => ?_)
  match r, hq with
  | .ok (.ret u), hq => exact I.after hq
/-- repr(o), whatever is handled -/
theorem call_reprOwnM (M : OwnM X.K C "__repr__" g) (F : FnM X.prog X.w X.K X.mg X.base k g fd ps sp) (hr : L2H.RoomH (k + 1) X.A) (hb : Binds X.K fd ps []) : CallR X (.builtin "repr") (rOwnS C sp) := by
  intro pins s σ H xs us Q I r h
  obtain ⟨a, dx, fs, rfl, ha, q⟩ := h
  obtain ⟨u, rfl, ru⟩ := vals1 r
  cases (show u = Value.ref a from ru)
  obtain ⟨mA, OM, _⟩ := ins_get I.hok ha
  obtain ⟨od, J, _⟩ := OM.look
  obtain ⟨m, hF⟩ := I.fr
  have r1 : L2H.RoomH k X.A.in1 := ⟨by have := hr.dp; show X.A.depth + 3 * k + 5 < _; omega, by have := hr.un; show X.A.units + 1 + 16 * k + 200 < _; omega⟩
  refine PySem.W.repr_K (by have := r1.un; omega) hF I.ok.mod.kin J M.at_ M.fn ?_
  refine wpAny_mono (run_atM (us := [.ref a]) (vs := [.ref a]) (A := X.A.in1) F r1 I.env0.in1 hb I (.cons rfl .nil) q) (fun w s' z => ?_) fun _ _ e => e
  obtain ⟨v, H', I', rv, ⟨zz, rfl⟩, qq⟩ := z
  obtain ⟨t, rfl⟩ := (show ∃ t, w = Value.str zz t from rv)
  exact ⟨.str zz, H', I', ⟨t, rfl⟩, qq⟩
end
theorem suite_room {X : Cx} {k : Nat} {a : Addr} {pn : List (Addr × Obj)} (r : Room k X.A) : L2H.RoomH k (X.suite a pn).A := ⟨r.dp, r.un⟩
theorem suite_un {X : Cx} {k : Nat} {a : Addr} {pn : List (Addr × Obj)} (r : Room k X.A) : (X.suite a pn).A.units + 200 < cLine := by
  have := r.un
  show X.A.units + 200 < _
  omega
theorem suite_g {X : Cx} {a : Addr} {pn : List (Addr × Obj)} (h : X.A.guards = some []) : (X.suite a pn).A.guards = some [] := h
end DL

set_option Elab.async false
set_option linter.all false
set_option maxRecDepth 100000
/-! Texts: parts of them, comprehensions over their signs. -/
namespace DL
open PySem PySem.Spec PyProof.Rows L2
theorem cut_from (z : Str) (k : Nat) : TL.tl (cutS z (some (k : Int)) none) = (TL.tl z).drop k := by
  show (z.cps.toList.drop (HT.sIx z.length 0 (some (k : Int)))).take (z.length - HT.sIx z.length 0 (some (k : Int))) = _
  rw [HT.sIx_nat]
  have e : z.length = z.cps.toList.length := by simp [Str.length]
  by_cases h : k ≤ z.length
  · rw [Nat.min_eq_left h, List.take_of_length_le (by simp [Str.length])]
  · rw [Nat.min_eq_right (by omega), List.drop_eq_nil_of_le (Nat.le_of_eq e.symm), List.drop_eq_nil_of_le (by show z.cps.toList.length ≤ k; omega)]
    simp
theorem cut_to (z : Str) (k : Nat) : TL.tl (cutS z none (some (k : Int))) = (TL.tl z).take k := by
  show (z.cps.toList.drop 0).take (HT.sIx z.length z.length (some (k : Int)) - 0) = _
  rw [HT.sIx_nat, List.drop_zero, Nat.sub_zero]
  have e : z.length = z.cps.toList.length := by simp [Str.length]
  by_cases h : k ≤ z.length
  · rw [Nat.min_eq_left h]
  · rw [Nat.min_eq_right (by omega), List.take_of_length_le (Nat.le_of_eq e.symm), List.take_of_length_le (by show z.cps.toList.length ≤ k; omega)]
def wSlFrom (we wl : WD) : WD := fun ρ S Q => we ρ S fun x S1 => wl ρ S1 fun l S2 => match x, l with
  | .str z, .int i => z.length ≤ sizeLine ∧ Q (.str (cutS z (some i) none)) S2
  | _, _ => False
def wSlTo (we wl : WD) : WD := fun ρ S Q => we ρ S fun x S1 => wl ρ S1 fun l S2 => match x, l with
  | .str z, .int i => z.length ≤ sizeLine ∧ Q (.str (cutS z none (some i))) S2
  | _, _ => False
section
variable {X : Cx} {e l : Expr} {te tl : TE} {we wl : WD} {p2 pos : Pos}
theorem d_slFrom (he : PD X e te we) (hl : PD X l tl wl) : PD X (.Subscript e (.Slice (some l) none none p2) pos) (tSl rSlS te (tPart tl) tNoPart) (wSlFrom we wl) := by
  refine ⟨pe_slice sl_str he.pe (po_some hl.pe) po_none, fun A S σ H ρ Q Q' R E h k => ?_⟩
  refine he.sd A S σ H ρ _ _ R E h fun d S1 A1 v H1 g1 R1 hv q1 => ?_
  refine hl.sd A1 S1 σ H1 ρ _ _ R1 (E.mono g1) q1 fun d2 S2 A2 v2 H2 g2 R2 hv2 q2 => ?_
  cases hv <;> cases hv2 <;> first | exact q2.elim | skip
  exact ⟨_, rfl, _, rfl, q2.1, k _ S2 A2 _ H2 (g1.trans g2) R2 (.str _) q2.2⟩
theorem d_slTo (he : PD X e te we) (hl : PD X l tl wl) : PD X (.Subscript e (.Slice none (some l) none p2) pos) (tSl rSlS te tNoPart (tPart tl)) (wSlTo we wl) := by
  refine ⟨pe_slice sl_str he.pe po_none (po_some hl.pe), fun A S σ H ρ Q Q' R E h k => ?_⟩
  refine he.sd A S σ H ρ _ _ R E h fun d S1 A1 v H1 g1 R1 hv q1 => ?_
  refine hl.sd A1 S1 σ H1 ρ _ _ R1 (E.mono g1) q1 fun d2 S2 A2 v2 H2 g2 R2 hv2 q2 => ?_
  cases hv <;> cases hv2 <;> first | exact q2.elim | skip
  exact ⟨_, rfl, _, rfl, q2.1, k _ S2 A2 _ H2 (g1.trans g2) R2 (.str _) q2.2⟩
end
/-! ### over a text's signs -/
def signD (z : Str) : List D := (TL.tl z).map fun c => .str ⟨#[c]⟩
def wiS (we : WD) : WIt := fun ρ S Q => we ρ S fun d S1 => match d with
  | .str z => Q (signD z) (fun _ => True) S1
  | _ => False
theorem ii_str {X : Cx} {tg e : Expr} {te : TE} {we : WD} (he : PD X e te we) : PDI X tg e (L2.iStr te) (wiS we) := by
  refine ⟨pi_str he.pe, fun A S σ H ρ Q Q' R E h k => ?_⟩
  refine he.sd A S σ H ρ _ _ R E h fun d S1 A1 v H1 g1 R1 hv q1 => ?_
  cases hv <;> first | exact q1.elim | skip
  rename_i z
  have len : (signD z).length = z.cps.size := by unfold signD; simp
  refine ⟨z, rfl, k _ _ S1 A1 _ H1 g1 R1 ⟨fun i d A S H g R _ e => ?_, fun A S H g R _ => by show z.cps.size ≤ (signD z).length; rw [len]; exact Nat.le_refl _⟩ q1⟩
  have hl := (List.getElem?_eq_some_iff.mp e).1
  rw [len] at hl
  refine ⟨hl, fun x H' y => ?_⟩
  obtain ⟨rfl, c, ec, rfl⟩ := y
  have hd : d = .str ⟨#[c]⟩ := by
    unfold signD at e
    rw [List.getElem?_map] at e
    have : (TL.tl z)[i]? = some c := by
      show z.cps.toList[i]? = some c
      simpa using ec
    rw [this] at e
    cases e
    rfl
  subst hd
  exact ⟨.refl, R, .str _⟩
def oNotIn : OD := fun x y S Q => match x, y with
  | .str a, .str b => ∃ c : Nat, a = ⟨#[c]⟩ ∧ Q (.bl (!decide (c ∈ b.cps.toList))) S
  | _, _ => False
theorem snd_notIn {mg : MG} : SndR mg (fun x y H Q => ∃ (c : Nat) (z : Str), x = .str ⟨#[c]⟩ ∧ y = .str z ∧ Q (.bl (!decide (c ∈ z.cps.toList))) H) oNotIn := by
  intro A S H x y dx dy Q Q' R hx hy q k
  cases dx <;> cases dy <;> first | exact q.elim | skip
  obtain ⟨c, rfl, q⟩ := q
  cases hx
  cases hy
  exact ⟨c, _, rfl, rfl, k _ S A _ H .refl R (.bl _) q⟩
def oInD : OD := fun x y S Q => ∃ d ds, datM S x = some d ∧ datM S y = some (.list ds) ∧ SeqAt.shaped d = true ∧ SeqAt.shaped (.list ds) = true ∧ Q (.bl (ds.any fun z => PyData.eqv z d)) S
theorem snd_inD {mg : MG} {K : PySem.W.Frag} : SndR mg (rInD K) oInD := by
  intro A S H x y dx dy Q Q' R hx hy ⟨d, ds, h1, h2, s1, s2, q⟩ k
  exact ⟨d, ds, hx.dpM R h1, hy.dpM R h2, s1, s2, k _ S A _ H .refl R (.bl _) q⟩
section
variable {X : Cx} {pos : Pos}
def sPar3 (i j l : Nat) (wl : WL) : WS := fun DD ρ S => wl ρ S fun ds S1 => match ds with
  | [d, e, f] => DD.nx (((ρ.set i (some d)).set j (some e)).set l (some f)) S1
  | _ => False
theorem ds_par3 {i j l : Nat} {x y z : Str} {a b c : Expr} {ta : TA} {wa : WL} {px py pz pt : Pos} {kt k2 pt2} (hc : X.calm = true) (hN : X.N.Nodup) (ha : PDA X [a, b, c] ta wa) (hi : X.N[i]? = some x := by rfl) (hj : X.N[j]? = some y := by rfl) (hl : X.N[l]? = some z := by rfl) (hij : i ≠ j := by decide) (hil : i ≠ l := by decide) (hjl : j ≠ l := by decide)
    (hx : X.env.scope.names.lookup x = some .local := by rfl) (hy : X.env.scope.names.lookup y = some .local := by rfl) (hz : X.env.scope.names.lookup z = some .local := by rfl)
    (hw : swappedStores [.Tuple [.Name x px, .Name y py, .Name z pz] kt pt] (.Tuple [a, b, c] k2 pt2) X.env = pure (some [x, y, z]) := by rfl)
    (hs : swapsWithSole [.Tuple [.Name x px, .Name y py, .Name z pz] kt pt] (.Tuple [a, b, c] k2 pt2) pos.line X.env = pure false := by rfl) :
    PDS X (.Assign [.Tuple [.Name x px, .Name y py, .Name z pz] kt pt] (.Tuple [a, b, c] k2 pt2) pos) (tPar3 i j l ta) (sPar3 i j l wa) := by
  refine ⟨ps_par3 hc hN hi hj hl hij hil hjl hx hy hz ha.pe hw hs, fun A S σ H ρ D D' R E h k => ?_⟩
  refine ha.sd A S σ H ρ _ _ R E h fun ds S1 A1 vs H1 g1 R1 hv q1 => ?_
  cases hv with
  | nil => exact q1.elim
  | cons h1 tv =>
    cases tv with
    | nil => exact q1.elim
    | cons h2 tv2 =>
      cases tv2 with
      | nil => exact q1.elim
      | cons h3 tv3 =>
        cases tv3 with
        | cons _ _ => exact q1.elim
        | nil => exact ⟨_, _, _, rfl, k.nx _ S1 A1 _ H1 g1 R1 ((((E.mono g1).set i h1).set j h2).set l h3) q1⟩
end

theorem room65 {k : Nat} {A : Around} (r : Room k A) : A.units + 65 < cLine := by
  have := r.un
  omega
end DL

set_option Elab.async false
set_option linter.all false
set_option maxRecDepth 100000
/-! enumerate over a tuple. -/
namespace DL
open PySem PySem.Spec PyProof.Rows L2
theorem new_enumT (t : Addr) (items : Array Value) :
    Meets (Builtin.«enumerate.__new__» ⟨[.type "enumerate", .ref t], []⟩) (fun _ R s => s.heap.IsTuple t items ∧
      R (.ok (.ret (.ref (s.heap.push { cls := .type "tuple_iterator", data := .fields #[.ref t, .int 0 0] }).objs.size)))
        { s with heap := (s.heap.push { cls := .type "tuple_iterator", data := .fields #[.ref t, .int 0 0] }).push { cls := .type "enumerate", data := .fields #[.none, .bool false, .ref s.heap.objs.size, rawInt 0, .none, .none] } }) :=
  .of_wp fun prog w A R s hh => by
    obtain ⟨hp, g, d, tk, os⟩ := s
    obtain ⟨hl, h⟩ := hh
    have hsub := sub_enumerate
    have hL : Heap.IsTuple (Shared.heap ⟨hp, g, d, tk, os⟩) t items := hl
    obtain ⟨o, ho, hc, n, hd⟩ := hl
    wp_walk using AutoSeq1.wpAny_loadPart' ho, wpAny_pyIter_tuple hL
    apply wpAny_stack_any
    intro st
    apply wpAny_pure
    split
    · next c _ _ _ _ _ =>
      cases (c == Value.type "enumerate") <;>
        (wp_walk using AutoSeq1.wpAny_loadPart' ho, wpAny_pyIter_tuple hL
         exact ⟨_, rfl, h⟩)
    · wp_walk using AutoSeq1.wpAny_loadPart' ho, wpAny_pyIter_tuple hL
      exact ⟨_, rfl, h⟩
theorem drawsT {prog : Program} {w : World} {A : Around} (hh : A.handled = none) {it t : Addr} (hne : t ≠ it) (items : Array Value) :
    Draws prog w A it [it, t] items.size (fun i v => items[i]? = some v) (fun i h => h.IsTupleIter it t i ∧ h.IsTuple t items) where
  live := fun _ _ z => by
    obtain ⟨⟨o, ho, _⟩, _⟩ := z
    exact ⟨o, ho⟩
  frame := fun i h h' z hk => by
    obtain ⟨z1, o, ho, r⟩ := z
    exact ⟨z1.at fun o q => hk it (by simp) o q, o, hk t (by simp) o ho, r⟩
  item := fun i s Q E hi z hQ => by
    obtain ⟨z1, z2⟩ := z
    refine wpAny_nextOf_tuple_item z1 z2 (x := items[i]) (by simp [hi]) fun h' z3 sb => ?_
    exact hQ _ h' s.toks (by simp [hi]) ⟨z3, z2.extBut sb.extBut hne⟩ sb
  done := fun s Q E z hE => by
    obtain ⟨z1, z2⟩ := z
    exact wpAny_nextOf_tuple_end hh z1 z2 (by simp) hE
theorem call_enumT {prog : Program} {w : World} {A : Around} {E : Value → Shared → Prop} {s : Shared} {t : Addr} {items : Array Value} {Q : Value → Shared → Prop} (ht : s.heap.IsTuple t items)
    (h : ∀ h', IsEnum h' (s.heap.objs.size + 1) s.heap.objs.size 0 .none → h'.IsTupleIter s.heap.objs.size t 0 → (∀ b o, s.heap.get? b = some o → h'.get? b = some o) → Q (.ref (s.heap.objs.size + 1)) { s with heap := h' }) :
    wpAny (model prog w) A (call (.type "enumerate") [.ref t]) Q E s := by
  refine callType_new F.called_enumerate (by decide) (F.typeCall_enumerate_1 _) (F.newCall_enumerate_1 _) (fun obj => F.args_object_init_2 obj _) F.entry_enumerate_new (new_enumT t items) ⟨ht, ?_⟩
  let h1 := s.heap.push { cls := .type "tuple_iterator", data := .fields #[.ref t, .int 0 0] }
  have z1 : h1.objs.size = s.heap.objs.size + 1 := Heap.size_push ..
  let en : Obj := { cls := .type "enumerate", data := .fields #[.none, .bool false, .ref s.heap.objs.size, rawInt 0, .none, .none] }
  have e1 : IsEnum (h1.push en) (s.heap.objs.size + 1) s.heap.objs.size 0 .none := by
    have q := Heap.get?_push_size h1 (o := en) rfl
    rw [z1] at q
    exact q
  show _ ∧ _
  have goal : ∀ a, a = s.heap.objs.size + 1 → ((⟨h1.push en, s.gens, s.drawn, s.toks, s.os⟩ : Shared).TypeIs (.ref a) "enumerate") ∧ Q (.ref a) ⟨h1.push en, s.gens, s.drawn, s.toks, s.os⟩ := fun a ea => by
    subst ea
    exact ⟨⟨_, e1, rfl⟩, h _ e1 ⟨_, Heap.get?_push_of_some _ (Heap.get?_push_size _ rfl), rfl, rfl⟩ fun b o q => Heap.get?_push_of_some _ (Heap.get?_push_of_some _ q)⟩
  obtain ⟨g1, g2⟩ := goal _ z1
  obtain ⟨o, q1, q2⟩ := g1
  exact ⟨⟨o, q1, q2⟩, g2⟩
/-- the tuple at a, its items in new pairs with their places -/
def IteT (K : PySem.W.Frag) (a : Addr) : It :=
  ⟨fun i H => ∃ (xs : List V) (x : V), SqT K H a xs ∧ xs[i]? = some x, fun i H v H' => ∃ T x, v = .ref T ∧ H T = none ∧ H' = upd H T (.tup [.int (i : Nat), x]) ∧ ∀ xs, SqT K H a xs → xs[i]? = some x, fun i H => ∃ xs : List V, SqT K H a xs ∧ xs.length ≤ i⟩
theorem drawsEnd {prog : Program} {w : World} {A : Around} (hh : A.handled = none) {it t : Addr} {items : Array Value} {i : Nat} (hi : items.size ≤ i) :
    Draws prog w A it [it, t] i (fun _ _ => False) (fun j h => j = i ∧ h.IsTupleIter it t i ∧ h.IsTuple t items) where
  live := fun _ _ z => by
    obtain ⟨_, ⟨o, ho, _⟩, _⟩ := z
    exact ⟨o, ho⟩
  frame := fun j h h' z hk => by
    obtain ⟨z0, z1, o, ho, r⟩ := z
    exact ⟨z0, z1.at fun o q => hk it (by simp) o q, o, hk t (by simp) o ho, r⟩
  item := fun j s Q E hj z hQ => by
    have := z.1
    omega
  done := fun s Q E z hE => by
    obtain ⟨_, z1, z2⟩ := z
    exact wpAny_nextOf_tuple_end hh z1 z2 (by simp; omega) hE
theorem line2 : ([(V.int 0), V.int 0] : List V).length ≤ sizeLine := by decide
theorem turn_enumT {P : Program} {w : World} {K : PySem.W.Frag} {elts : List Expr} {kk : Nat} {tpos : Pos} (a e it : Addr) (hai : a ≠ it) (hea : e ≠ a) :
    Turn P w K (.Tuple elts kk tpos) (IteT K a) [e, it] e (fun i h => (∃ old, IsEnum h e it ((i : Nat) : Int) old) ∧ h.IsTupleIter it a i ∧ e ≠ it) where
  mem := by simp
  obj := fun i h z b hb => by
    obtain ⟨⟨old, he⟩, ⟨o, ho, hc, hd⟩, _⟩ := z
    rcases (show b = e ∨ b = it by simpa using hb) with rfl | rfl
    · exact ⟨_, he, fun v q => nomatch q⟩
    · exact ⟨o, ho, fun v q => by rw [hd] at q; cases q⟩
  keep := fun i h h' z k => by
    obtain ⟨⟨old, he⟩, hi, hne⟩ := z
    exact ⟨⟨old, k e (by simp) _ he⟩, hi.at fun o q => k it (by simp) o q, hne⟩
  item := by
    intro X hP hw hK hc i pins s σ H E I hf z hg
    subst hP hw hK
    obtain ⟨⟨old, he⟩, hit, hne⟩ := z
    obtain ⟨xs, x, hq, hx⟩ := hg
    obtain ⟨its, rv, p, hz⟩ := I.tuple hq
    obtain ⟨u, hu, ru⟩ := rv.get hx
    have li : i < its.toArray.size := by simpa using (List.getElem?_eq_some_iff.mp hu).1
    have hel : e < s.heap.objs.size := Heap.lt_size he
    have hil : it < s.heap.objs.size := by
      obtain ⟨_, q, _⟩ := hit
      exact Heap.lt_size q
    have hn : X.A.in1.handled = none := I.ok.hd hc
    refine wpAny_pyNext_enum_itemD (drawsT hn hai its.toArray) he ⟨hit, p⟩ li hne (by simp [hne, hea]) fun x2 h' tk hP2 ho hst hT hsz hk => ?_
    obtain ⟨hit', p'⟩ := hst
    have ex : x2 = u := by
      have q : its.toArray[i]? = some u := by simpa using hu
      rw [q] at hP2
      exact (Option.some.inj hP2).symm
    subst ex
    refine ⟨_, rfl, wpAny_letOwnedTupleGo_enum (s := { s with heap := h', toks := tk + 1 }) ho fun h2 he' sb => ?_⟩
    have hT2 : h2.get? s.heap.objs.size = some { cls := .type "tuple", data := .seq #[.int i tk, x2] } := (sb.2 _ (Nat.ne_of_gt hel)).trans hT
    have new : ObjOk X.prog X.w (upd H s.heap.objs.size (.tup [.int (i : Nat), x])) h2 s.heap.objs.size (.tup [.int (i : Nat), x]) :=
      ⟨line2, [.int i tk, x2], .cons ⟨_, rfl⟩ (.cons ru .nil), _, hT2, rfl, _, rfl⟩
    have I1 : Inv X pins σ (upd H s.heap.objs.size (.tup [.int (i : Nat), x])) { s with heap := h2, toks := tk + 1 } := by
      refine I.turnedNew (ch := [e, it]) (fun b ob hb q => ?_) hf (Nat.le_refl _) new
      have b1 : b ≠ e := fun y => hb (by simp [y])
      have b2 : b ≠ it := fun y => hb (by simp [y])
      exact (sb.2 b b1).trans (hk b ob b1 b2 q)
    refine ⟨.ref s.heap.objs.size, _, I1, rfl, ⟨_, x, rfl, I.hok.fresh (Nat.le_refl _), rfl, fun ys hy => by rw [I.tuple_inj hy hq]; exact hx⟩, ⟨⟨x2, ?_⟩, hit'.at fun o q => (sb.2 it (Ne.symm hne)).trans q, hne⟩, fun b hb => ?_⟩
    · have e1 : ((i + 1 : Nat) : Int) = (i : Int) + 1 := by omega
      rw [e1]
      exact he'
    · have hb' : b < s.heap.objs.size := by
        rcases (show b = e ∨ b = it by simpa using hb) with rfl | rfl
        · exact hel
        · exact hil
      rw [upd_ne (Nat.ne_of_lt hb')]
      exact (hf b hb).1
  done := by
    intro X hP hw hK hc i pins s σ H E I hf z hg
    subst hP hw hK
    obtain ⟨⟨old, he⟩, hit, hne⟩ := z
    obtain ⟨xs, hq, hx⟩ := hg
    obtain ⟨its, rv, p, hz⟩ := I.tuple hq
    obtain ⟨f0, f1, f2, f3, f4, f5⟩ := hf it (by simp)
    have hl := rv.length
    have hn : X.A.in1.handled = none := I.ok.hd hc
    refine wpAny_pyNext_enum_endD (drawsEnd hn (items := its.toArray) (i := i) (by simp; omega)) he ⟨rfl, hit, p⟩ fun h' eb => ?_
    exact ⟨rfl, I.turned (t' := s.toks) (fun b o hb q => eb b o hb q) f0 f1 f3 f4 f5⟩
  self := fun A i s Q E z h => by
    obtain ⟨⟨_, he⟩, _⟩ := z
    exact wpAny_pyIter_enum he h
def iEnumT (K : PySem.W.Frag) (ta : TA) : TI := fun σ H R => ta σ H fun vs H1 => ∃ a xs, vs = [.ref a] ∧ SqT K H1 a xs ∧ R (IteT K a) H1
theorem pi_enumT {X : Cx} {e : Expr} {ta : TA} {p pos tpos : Pos} {elts : List Expr} {kk : Nat} (hg : Gl X "enumerate") (hm : X.mg "enumerate" = none) (ha : PA X [e] ta) (hs : starEach [e] X.env = [(false, eval e X.env)] := by rfl) :
    PI X (.Tuple elts kk tpos) (.Call (.Name "enumerate" p) [e] [] pos) (iEnumT X.K ta) := by
  refine ⟨fun pins s σ H R I h => ?_⟩
  refine Call_ (ld_blt I hg hm boot_enumerate (PyProof.Rows.callWith_type1 (thn (ha.run pos pins s σ H _ I h) fun us s1 z => ?_) hs rfl))
  obtain ⟨vs, H1, I1, r1, a, xs, rfl, hq, q⟩ := z
  obtain ⟨u, rfl, ru⟩ := vals1 r1
  cases (show u = Value.ref a from ru)
  obtain ⟨its, rv, pt, hz⟩ := I1.tuple hq
  have la : a < s1.heap.objs.size := by
    obtain ⟨o, ho, _⟩ := pt
    exact Heap.lt_size ho
  refine call_enumT pt fun h' he hit hk => ?_
  refine wpAny_pyIter_enum he ?_
  have I2 : Inv X pins σ H1 { s1 with heap := h' } := I1.kept (t' := s1.toks) hk
  refine ⟨s1.heap.objs.size + 1, [s1.heap.objs.size + 1, s1.heap.objs.size], _, _, H1, rfl, I2, turn_enumT a (s1.heap.objs.size + 1) s1.heap.objs.size (Nat.ne_of_lt la) (Nat.ne_of_gt (Nat.lt_succ_of_lt la)), ⟨⟨.none, he⟩, hit, Nat.succ_ne_self _⟩, fun b hb => ?_, q⟩
  have hle : s1.heap.objs.size ≤ b := by
    rcases (show b = s1.heap.objs.size + 1 ∨ b = s1.heap.objs.size by simpa using hb) with rfl | rfl
    · exact Nat.le_succ _
    · exact Nat.le_refl _
  exact I1.fpOk hle (I1.hok.fresh hle)
/-! ### by data -/
def enumD : Nat → List D → List D
  | _, [] => []
  | k, d :: ds => .tup [.int k, d] :: enumD (k + 1) ds
theorem enumD_len : ∀ (ds : List D) (k : Nat), (enumD k ds).length = ds.length
  | [], _ => rfl
  | _ :: ds, k => congrArg Nat.succ (enumD_len ds (k + 1))
theorem enumD_get : ∀ (ds : List D) (k i : Nat) (d : D), ds[i]? = some d → (enumD k ds)[i]? = some (.tup [.int ((k + i : Nat) : Int), d])
  | [], _, _, _, h => by simp at h
  | e :: ds, k, 0, d, h => by
    simp at h
    subst h
    rfl
  | e :: ds, k, i + 1, d, h => by
    have q := enumD_get ds (k + 1) i d (by simpa using h)
    have z : k + 1 + i = k + (i + 1) := by omega
    rw [z] at q
    exact q
end DL

set_option Elab.async false
set_option linter.all false
set_option maxRecDepth 100000
/-! Comprehensions over enumerate of a list, over zip of two lists. -/
namespace DL
open PySem PySem.Spec PyProof.Rows L2
/-- what a list holds, as long as it stays: its address, its items -/
structure StayL (mg : MG) (a : Addr) (ds : List D) (ok : MS → Prop) (A : List Addr) (H : Hp) : Prop where
  now : ∀ A2 S2 H2, Grow A A2 H H2 → Rep mg A2 S2 H2 → ok S2 → ∃ vs, SqL mg.K H2 a vs ∧ IsL mg A2 H2 vs ds
/-- a list by data: what must stay of it -/
def stayD (S : MS) : D → Option (List D × (MS → Prop))
  | .lst ds => some (ds, fun _ => True)
  | .scr ds => some (ds, fun _ => True)
  | .mut m => match lsAt S m with
    | some ds => some (ds, fun S2 => S2[m]? = some (MO.l ds))
    | none => none
  | _ => none
theorem Is.stay {mg : MG} {A : List Addr} {S : MS} {H : Hp} {v : V} {d : D} {ds : List D} {ok : MS → Prop} (R : Rep mg A S H) (h : Is mg A H v d) (e : stayD S d = some (ds, ok)) : ∃ a, v = .ref a ∧ StayL mg a ds ok A H ∧ ok S := by
  cases h with
  | @lst a vs es n r l => cases e; exact ⟨a, rfl, ⟨fun A2 S2 H2 g _ _ => ⟨vs, .of (g.keep _ _ n r).1, l.mono g⟩⟩, True.intro⟩
  | @scr a vs es n r l => cases e; exact ⟨a, rfl, ⟨fun A2 S2 H2 g _ _ => ⟨vs, .inl (g.rd n r).2, l.mono g⟩⟩, True.intro⟩
  | @scrK a vs es r l => cases e; exact ⟨a, rfl, ⟨fun A2 S2 H2 g _ _ => ⟨vs, r H2, l.mono g⟩⟩, True.intro⟩
  | @«mut» a m ea =>
    unfold stayD at e
    dsimp only at e
    split at e
    · rename_i es he
      cases e
      refine ⟨a, rfl, ⟨fun A2 S2 H2 g R2 ok => ?_⟩, lsAt_eq he⟩
      obtain ⟨vs, h1, l⟩ := R2.at_ m a (.l _) (g.pre _ _ ea) ok
      exact ⟨vs, .of h1, l⟩
    · cases e
  | _ => cases e
def zipD (xs ys : List D) : List D := List.zipWith (fun a b => D.tup [a, b]) xs ys
theorem zipD_get {xs ys : List D} {i : Nat} {a b : D} (h1 : xs[i]? = some a) (h2 : ys[i]? = some b) : (zipD xs ys)[i]? = some (.tup [a, b]) := by
  unfold zipD
  rw [List.getElem?_zipWith, h1, h2]
theorem stay_mut {S : MS} {m : Nat} {ds : List D} (h : S[m]? = some (.l ds)) : stayD S (.mut m) = some (ds, fun S2 : MS => S2[m]? = some (MO.l ds)) := by
  show (match lsAt S m with
    | some ds => some (ds, fun S2 : MS => S2[m]? = some (MO.l ds))
    | none => none) = _
  rw [lsAt_of h]
/-- enumerate(list) -/
def wiE (wl : WL) : WIt := fun ρ S Q => wl ρ S fun ds S1 => match ds with
  | [x] => ∃ xs ok, stayD S1 x = some (xs, ok) ∧ Q (enumD 0 xs) ok S1
  | _ => False
/-- enumerate(tuple) -/
def wiET (wl : WL) : WIt := fun ρ S Q => wl ρ S fun ds S1 => match ds with
  | [.tup xs] => Q (enumD 0 xs) (fun _ => True) S1
  | _ => False
/-- zip(list, list) -/
def wiZ (wl : WL) : WIt := fun ρ S Q => wl ρ S fun ds S1 => match ds with
  | [x, y] => ∃ xs ok1 ys ok2, stayD S1 x = some (xs, ok1) ∧ stayD S1 y = some (ys, ok2) ∧ Q (zipD xs ys) (fun S2 => ok1 S2 ∧ ok2 S2) S1
  | _ => False
theorem zipD_len (xs ys : List D) : (zipD xs ys).length = min xs.length ys.length := by unfold zipD; rw [List.length_zipWith]
theorem enumD_at {xs : List D} {i : Nat} {d : D} (h : (enumD 0 xs)[i]? = some d) : ∃ e, xs[i]? = some e ∧ d = .tup [.int (i : Nat), e] := by
  have hl := (List.getElem?_eq_some_iff.mp h).1
  rw [enumD_len] at hl
  refine ⟨xs[i], List.getElem?_eq_getElem hl, ?_⟩
  have := enumD_get xs 0 i xs[i] (List.getElem?_eq_getElem hl)
  rw [h, Nat.zero_add] at this
  exact Option.some.inj this
section
variable {X : Cx} {elts : List Expr} {kk : Nat} {pos2 p tpos : Pos}
theorem ii_enumL {a : Expr} {ta : TA} {wa : WL} (hm : X.mg "enumerate" = none) (ha : PDA X [a] ta wa) (hgl : Gl X "enumerate" := by rfl) (hst : starEach [a] X.env = [(false, eval a X.env)] := by rfl) :
    PDI X (.Tuple elts kk tpos) (.Call (.Name "enumerate" p) [a] [] pos2) (iEnum X.K ta) (wiE wa) := by
  refine ⟨pi_enum hgl hm ha.pe hst, fun A S σ H ρ Q Q' R E h k => ?_⟩
  refine ha.sd A S σ H ρ _ _ R E h fun ds S1 A1 vs H1 g1 R1 hv q1 => ?_
  match ds, hv, q1 with
  | [x], hv, ⟨xs, ok, es, q1⟩ =>
    obtain ⟨v, rfl, hx⟩ := hv.one
    obtain ⟨ad, rfl, st, ok1⟩ := hx.stay R1 es
    obtain ⟨us, sq, l⟩ := st.now A1 S1 H1 .refl R1 ok1
    refine ⟨ad, us, rfl, sq, k _ _ S1 A1 _ H1 g1 R1 ⟨fun i d A S H g R ok e => ?_, fun A S H g R ok => ?_⟩ q1⟩
    · obtain ⟨us2, sq2, l2⟩ := st.now A S H g R ok
      obtain ⟨d0, hd, rfl⟩ := enumD_at e
      obtain ⟨w, h1, h2⟩ := l2.get hd
      refine ⟨⟨us2, w, sq2, h1⟩, fun z H' y => ?_⟩
      obtain ⟨T, y0, rfl, hT, rfl, hy⟩ := y
      have e0 := hy us2 sq2
      rw [h1] at e0
      cases e0
      have gT := grow_new (o := .tup [.int (i : Nat), w]) R hT
      exact ⟨gT, R.new hT, .tup (R.fresh hT) (.inl upd_same) (.cons (.int _) (.cons (h2.mono gT) .nil))⟩
    · obtain ⟨us2, sq2, l2⟩ := st.now A S H g R ok
      exact ⟨us2, sq2, by rw [enumD_len, l2.length]; exact Nat.le_refl _⟩
theorem ii_enumT {a : Expr} {ta : TA} {wa : WL} (hm : X.mg "enumerate" = none) (ha : PDA X [a] ta wa) (hgl : Gl X "enumerate" := by rfl) (hst : starEach [a] X.env = [(false, eval a X.env)] := by rfl) :
    PDI X (.Tuple elts kk tpos) (.Call (.Name "enumerate" p) [a] [] pos2) (iEnumT X.K ta) (wiET wa) := by
  refine ⟨pi_enumT hgl hm ha.pe hst, fun A S σ H ρ Q Q' R E h k => ?_⟩
  refine ha.sd A S σ H ρ _ _ R E h fun ds S1 A1 vs H1 g1 R1 hv q1 => ?_
  match ds, hv, q1 with
  | [.tup xs], hv, q1 =>
    obtain ⟨v, rfl, hw⟩ := hv.one
    cases hw with
    | @tup a' us _ na r l =>
      have sq : ∀ {A2 H2}, Grow A1 A2 H1 H2 → SqT X.K H2 a' us := fun gg => .inl (gg.rd na r).2
      refine ⟨a', us, rfl, sq .refl, k _ _ S1 A1 _ H1 g1 R1 ⟨fun i d A S H g R _ e => ?_, fun A S H g R _ => ⟨us, sq g, by rw [enumD_len, l.length]; exact Nat.le_refl _⟩⟩ q1⟩
      obtain ⟨d0, hd, rfl⟩ := enumD_at e
      obtain ⟨w, h1, h2⟩ := l.get hd
      refine ⟨⟨us, w, sq g, h1⟩, fun z H' y => ?_⟩
      obtain ⟨T, y0, rfl, hT, rfl, hy⟩ := y
      have e0 := hy us (sq g)
      rw [h1] at e0
      cases e0
      have gT := grow_new (o := .tup [.int (i : Nat), w]) R hT
      exact ⟨gT, R.new hT, .tup (R.fresh hT) (.inl upd_same) (.cons (.int _) (.cons (h2.mono (g.trans gT)) .nil))⟩
theorem ii_zip {a a2 : Expr} {ta : TA} {wa : WL} (hm : X.mg "zip" = none) (ha : PDA X [a, a2] ta wa) (hgl : Gl X "zip" := by rfl) (hst : starEach [a, a2] X.env = (false, eval a X.env) :: starEach [a2] X.env := by rfl) (hpl : (backTo pos2 (starEach [a2] X.env)).any (·.1) = false := by rfl) :
    PDI X (.Tuple elts kk tpos) (.Call (.Name "zip" p) [a, a2] [] pos2) (iZip X.K ta) (wiZ wa) := by
  refine ⟨pi_zip hgl hm ha.pe hst hpl, fun A S σ H ρ Q Q' R E h k => ?_⟩
  refine ha.sd A S σ H ρ _ _ R E h fun ds S1 A1 vs H1 g1 R1 hv q1 => ?_
  match ds, hv, q1 with
  | [x, y], hv, ⟨xs, ok1, ys, ok2, es1, es2, q1⟩ =>
    obtain ⟨v, w, rfl, hx, hy⟩ := hv.two
    obtain ⟨a1, rfl, st1, o1⟩ := hx.stay R1 es1
    obtain ⟨b1, rfl, st2, o2⟩ := hy.stay R1 es2
    obtain ⟨us, sq1, _⟩ := st1.now A1 S1 H1 .refl R1 o1
    obtain ⟨ws, sq2, _⟩ := st2.now A1 S1 H1 .refl R1 o2
    refine ⟨a1, b1, us, ws, rfl, sq1, sq2, k _ _ S1 A1 _ H1 g1 R1 ⟨fun i d A S H g R ok e => ?_, fun A S H g R ok => ?_⟩ q1⟩
    · obtain ⟨us, s1, l1⟩ := st1.now A S H g R ok.1
      obtain ⟨ws, s2, l2⟩ := st2.now A S H g R ok.2
      have hl := (List.getElem?_eq_some_iff.mp e).1
      rw [zipD_len] at hl
      have hx1 : xs[i]? = some xs[i] := List.getElem?_eq_getElem (by omega)
      have hy1 : ys[i]? = some ys[i] := List.getElem?_eq_getElem (by omega)
      have := zipD_get hx1 hy1
      rw [e] at this
      cases this
      obtain ⟨u, e1, i1⟩ := l1.get hx1
      obtain ⟨w, e2, i2⟩ := l2.get hy1
      refine ⟨⟨us, ws, u, w, s1, s2, e1, e2⟩, fun z H' y => ?_⟩
      obtain ⟨T, y1, y2, rfl, hT, rfl, k1, k2⟩ := y
      have f1 := k1 us s1
      rw [e1] at f1
      cases f1
      have f2 := k2 ws s2
      rw [e2] at f2
      cases f2
      have gT := grow_new (o := .tup [u, w]) R hT
      exact ⟨gT, R.new hT, .tup (R.fresh hT) (.inl upd_same) (.cons (i1.mono gT) (.cons (i2.mono gT) .nil))⟩
    · obtain ⟨us, s1, l1⟩ := st1.now A S H g R ok.1
      obtain ⟨ws, s2, l2⟩ := st2.now A S H g R ok.2
      refine ⟨us, ws, s1, s2, ?_⟩
      rw [zipD_len, l1.length, l2.length]
      omega
end
end DL

set_option Elab.async false
set_option linter.all false
set_option maxRecDepth 100000
/-! A display with *xs in it; lcm. -/
namespace DL
open PySem PySem.Spec PyProof.Rows L2
/-- the items of a tuple or a list, now -/
def seqD (S : MS) : D → Option (List D)
  | .lst ds => some ds
  | .scr ds => some ds
  | .tup ds => some ds
  | .mut m => lsAt S m
  | _ => none
theorem Is.seq {mg : MG} {A : List Addr} {S : MS} {H : Hp} {v : V} {d : D} {ds : List D} (R : Rep mg A S H) (h : Is mg A H v d) (e : seqD S d = some ds) : ∃ a vs, v = .ref a ∧ (SqT mg.K H a vs ∨ SqL mg.K H a vs) ∧ IsL mg A H vs ds := by
  cases h with
  | @lst a vs es n r l => cases e; exact ⟨a, vs, rfl, .inr (.of r), l⟩
  | @scr a vs es n r l => cases e; exact ⟨a, vs, rfl, .inr (.inl r), l⟩
  | @scrK a vs es r l => cases e; exact ⟨a, vs, rfl, .inr (r H), l⟩
  | @tup a vs es n r l => cases e; exact ⟨a, vs, rfl, .inl (.inl r), l⟩
  | @«mut» a m ea =>
    obtain ⟨vs, h1, l⟩ := R.at_ m a (.l ds) ea (lsAt_eq e)
    exact ⟨a, vs, rfl, .inr (.of h1), l⟩
  | _ => cases e
def wStar (we : WD) (wl : WL) : WL := fun ρ S Q => we ρ S fun x S1 => ∃ ds, seqD S1 x = some ds ∧ wl ρ S1 fun es S2 => Q (ds ++ es) S2
theorem da_star {X : Cx} {e : Expr} {es : List Expr} {te : TE} {we : WD} {t : TA} {wl : WL} {p : Pos} (he : PD X e te we) (hr : PDA X es t wl) (hs : starEach (.Starred e p :: es) X.env = (true, eval e X.env) :: starEach es X.env := by rfl) : PDA X (.Starred e p :: es) (StX.tStar X.K te t) (wStar we wl) := by
  refine ⟨StX.pa_star he.pe hr.pe hs, fun A S σ H ρ Q Q' R E h k => ?_⟩
  refine he.sd A S σ H ρ _ _ R E h fun d S1 A1 v H1 g1 R1 hv q1 => ?_
  obtain ⟨ds, ed, q1⟩ := q1
  obtain ⟨a, vs, rfl, sq, l⟩ := hv.seq R1 ed
  refine ⟨a, vs, rfl, sq, ?_⟩
  refine hr.sd A1 S1 σ H1 ρ _ _ R1 (E.mono g1) q1 fun es2 S2 A2 ws H2 g2 R2 hw q2 => ?_
  exact k _ S2 A2 _ H2 (g1.trans g2) R2 ((l.mono g2).append hw) q2
def rLcm : List V → Hp → VK → Prop := fun vs H Q => ∃ a b : Int, vs = [.int a, .int b] ∧ a.natAbs < 2 ^ 64 ∧ b.natAbs < 2 ^ 64 ∧ Q (.int ((Nat.lcm a.natAbs b.natAbs : Nat) : Int)) H
theorem cr_lcm {X : Cx} : CallR X (.builtin "math.lcm") rLcm := by
  intro pins s σ H vs us Q I r h
  obtain ⟨a, b, rfl, ha, hb, q⟩ := h
  obtain ⟨t, u, rfl⟩ := Vals.int2 r
  exact PySem.W.mc_lcm ha hb fun _ => ⟨.int _, H, I.tok _, ⟨_, rfl⟩, q⟩
def oLcm : LD := fun ds S Q => match ds with
  | [.int a, .int b] => a.natAbs < 2 ^ 64 ∧ b.natAbs < 2 ^ 64 ∧ Q (.int ((Nat.lcm a.natAbs b.natAbs : Nat) : Int)) S
  | _ => False
theorem snd_lcm {mg : MG} : SndC mg rLcm oLcm := by
  intro A S H xs ds Q Q' R l q k
  match ds, q, l with
  | [.int a, .int b], q, l =>
    obtain ⟨v, w, rfl, hv, hw⟩ := l.two
    cases hv
    cases hw
    exact ⟨a, b, rfl, q.1, q.2.1, k _ S A _ H .refl R (.int _) q.2.2⟩
end DL

set_option Elab.async false
set_option linter.all false
set_option maxRecDepth 100000
/-! zip of three lists. -/
namespace DL
open PySem PySem.Spec PyProof.Rows L2
def Itz3 (K : PySem.W.Frag) (a b c : Addr) : It :=
  ⟨fun i H => ∃ (xs ys zs : List V) (x y z : V), SqL K H a xs ∧ SqL K H b ys ∧ SqL K H c zs ∧ xs[i]? = some x ∧ ys[i]? = some y ∧ zs[i]? = some z,
    fun i H v H' => ∃ T x y z, v = .ref T ∧ H T = none ∧ H' = upd H T (.tup [x, y, z]) ∧ (∀ xs, SqL K H a xs → xs[i]? = some x) ∧ (∀ ys, SqL K H b ys → ys[i]? = some y) ∧ ∀ zs, SqL K H c zs → zs[i]? = some z,
    fun i H => ∃ xs ys zs : List V, SqL K H a xs ∧ SqL K H b ys ∧ SqL K H c zs ∧ (xs.length ≤ i ∨ ys.length ≤ i ∨ zs.length ≤ i)⟩
/-- what a list's iterator draws from its place i on, when the list is at its end there or goes on -/
def DrL (it l : Addr) (items : Array Value) (i : Nat) (j : Nat) (h : Heap) : Prop := if items.size ≤ i then j = i ∧ h.IsListIter it l i ∧ h.IsList l items else h.IsListIter it l j ∧ h.IsList l items
def nL (items : Array Value) (i : Nat) : Nat := if items.size ≤ i then i else items.size
theorem drawsL {prog : Program} {w : World} {A : Around} (hh : A.handled = none) {it l : Addr} (hne : l ≠ it) (items : Array Value) (i : Nat) :
    Draws prog w A it [it, l] (nL items i) (fun j v => items[j]? = some v) (DrL it l items i) := by
  unfold nL DrL
  by_cases he : items.size ≤ i
  · simp only [if_pos he]
    refine ⟨fun j h z => ?_, fun j h h' z hk => ?_, fun j s Q E hj z hQ => ?_, fun s Q E z hE => ?_⟩
    · obtain ⟨_, ⟨o, ho, _⟩, _⟩ := z
      exact ⟨o, ho⟩
    · obtain ⟨z0, z1, z2⟩ := z
      exact ⟨z0, z1.at fun o q => hk it (by simp) o q, z2.at fun o q => hk l (by simp) o q⟩
    · have := z.1
      omega
    · obtain ⟨_, z1, z2⟩ := z
      exact wpAny_nextOf_list_end hh z1 z2 (by simp; omega) hE
  · simp only [if_neg he]
    exact Draws.list hh it l hne items
theorem DrL.to {it l : Addr} {items : Array Value} {i : Nat} {h : Heap} (a : h.IsListIter it l i) (b : h.IsList l items) : DrL it l items i i h := by
  unfold DrL
  split
  · exact ⟨rfl, a, b⟩
  · exact ⟨a, b⟩
theorem DrL.next {it l : Addr} {items : Array Value} {i : Nat} {h : Heap} (hi : i < items.size) (z : DrL it l items i (i + 1) h) : h.IsListIter it l (i + 1) := by
  unfold DrL at z
  rw [if_neg (by omega)] at z
  exact z.1
theorem nL_le (items : Array Value) (i : Nat) : i ≤ nL items i := by
  unfold nL
  split <;> omega
theorem nL_lt {items : Array Value} {i : Nat} (h : i < items.size) : i < nL items i := by
  unfold nL
  rw [if_neg (by omega)]
  exact h
theorem nL_end {items : Array Value} {i : Nat} (h : items.size ≤ i) : i = nL items i := by
  unfold nL
  rw [if_pos h]
/-- all apart -/
structure Zs3 (z TI TO i1 i2 i3 a b c : Addr) : Prop where
  nd : [z, TI, TO, i1, i2, i3].Nodup
  la : a ∉ [z, TI, TO, i1, i2, i3]
  lb : b ∉ [z, TI, TO, i1, i2, i3]
  lc : c ∉ [z, TI, TO, i1, i2, i3]
theorem Zs3.sep {z TI TO i1 i2 i3 a b c : Addr} (D : Zs3 z TI TO i1 i2 i3 a b c) : ZipSep3 z TI TO i1 i2 i3 [i1, a] [i2, b] [i3, c] := by
  obtain ⟨nd, la, lb, lc⟩ := D
  simp only [List.nodup_cons, List.mem_cons, List.not_mem_nil, or_false, not_or, List.nodup_nil, and_true, not_false_eq_true] at nd la lb lc
  constructor <;> grind
theorem line3 : ([(V.int 0), V.int 0, V.int 0] : List V).length ≤ sizeLine := by decide
theorem turn_zip3 {P : Program} {w : World} {K : PySem.W.Frag} {elts : List Expr} {kk : Nat} {tpos : Pos} {a b c z TI TO i1 i2 i3 : Addr} (D : Zs3 z TI TO i1 i2 i3 a b c) :
    Turn P w K (.Tuple elts kk tpos) (Itz3 K a b c) [z, TI, TO, i1, i2, i3] z (fun i h => IsZip h z TI TO .none ∧ IsTupOf3 h TI (.ref i1) (.ref i2) (.ref i3) ∧ (∃ x y u, IsTupOf3 h TO x y u) ∧ h.IsListIter i1 a i ∧ h.IsListIter i2 b i ∧ h.IsListIter i3 c i) where
  mem := by simp
  obj := fun i h st e he => by
    obtain ⟨hz, hTI, ⟨x, y, u, hTO⟩, ⟨o1, e1, _, d1⟩, ⟨o2, e2, _, d2⟩, ⟨o3, e3, _, d3⟩⟩ := st
    rcases (show e = z ∨ e = TI ∨ e = TO ∨ e = i1 ∨ e = i2 ∨ e = i3 by simpa using he) with rfl | rfl | rfl | rfl | rfl | rfl
    · exact ⟨_, hz, fun v q => nomatch q⟩
    · exact ⟨_, hTI, fun v q => nomatch q⟩
    · exact ⟨_, hTO, fun v q => nomatch q⟩
    · exact ⟨o1, e1, fun v q => by rw [d1] at q; cases q⟩
    · exact ⟨o2, e2, fun v q => by rw [d2] at q; cases q⟩
    · exact ⟨o3, e3, fun v q => by rw [d3] at q; cases q⟩
  keep := fun i h h' st k => by
    obtain ⟨hz, hTI, ⟨x, y, u, hTO⟩, h1, h2, h3⟩ := st
    exact ⟨k z (by simp) _ hz, k TI (by simp) _ hTI, ⟨x, y, u, k TO (by simp) _ hTO⟩, h1.at fun o q => k i1 (by simp) o q, h2.at fun o q => k i2 (by simp) o q, h3.at fun o q => k i3 (by simp) o q⟩
  item := by
    intro X hP hw hK hc i pins s σ H E I hf st hg
    subst hP hw hK
    obtain ⟨hz, hTI, ⟨x0, y0, u0, hTO⟩, h1, h2, h3⟩ := st
    obtain ⟨xs, ys, zs, x, y, v, hqx, hqy, hqz, hx, hy, hv⟩ := hg
    obtain ⟨t1, rv1, p1, _⟩ := I.list hqx
    obtain ⟨t2, rv2, p2, _⟩ := I.list hqy
    obtain ⟨t3, rv3, p3, _⟩ := I.list hqz
    obtain ⟨u1, hu1, ru1⟩ := rv1.get hx
    obtain ⟨u2, hu2, ru2⟩ := rv2.get hy
    obtain ⟨u3, hu3, ru3⟩ := rv3.get hv
    have l1 : i < t1.toArray.size := by simpa using (List.getElem?_eq_some_iff.mp hu1).1
    have l2 : i < t2.toArray.size := by simpa using (List.getElem?_eq_some_iff.mp hu2).1
    have l3 : i < t3.toArray.size := by simpa using (List.getElem?_eq_some_iff.mp hu3).1
    have hn : X.A.in1.handled = none := I.ok.hd hc
    have la := D.la
    have lb := D.lb
    have lc := D.lc
    simp only [List.mem_cons, List.not_mem_nil, or_false, not_or] at la lb lc
    have nd := D.nd
    simp only [List.nodup_cons, List.mem_cons, List.not_mem_nil, or_false, not_or] at nd
    have hzl : z < s.heap.objs.size := Heap.lt_size hz
    refine wpAny_pyNext_zipD3_item D.sep (drawsL hn (by grind) t1.toArray i) (drawsL hn (by grind) t2.toArray i) (drawsL hn (by grind) t3.toArray i) hz hTI hTO (DrL.to h1 p1.isList) (DrL.to h2 p2.isList) (DrL.to h3 p3.isList) (nL_lt l1) (nL_lt l2) (nL_lt l3)
      fun w1 w2 w3 h' tk q1 q2 q3 z' TO' st1 st2 st3 hT hsz hk => ?_
    have e1 : w1 = u1 := by
      have q : t1.toArray[i]? = some u1 := by simpa using hu1
      rw [q] at q1
      exact (Option.some.inj q1).symm
    have e2 : w2 = u2 := by
      have q : t2.toArray[i]? = some u2 := by simpa using hu2
      rw [q] at q2
      exact (Option.some.inj q2).symm
    have e3 : w3 = u3 := by
      have q : t3.toArray[i]? = some u3 := by simpa using hu3
      rw [q] at q3
      exact (Option.some.inj q3).symm
    subst e1 e2 e3
    refine ⟨_, rfl, wpAny_letOwnedTupleGo_zip (s := { s with heap := h', toks := tk }) z' fun h'' z'' sb => ?_⟩
    have hT2 : h''.get? s.heap.objs.size = some { cls := .type "tuple", data := .seq #[w1, w2, w3] } := (sb.2 _ (Nat.ne_of_gt hzl)).trans hT
    have new : ObjOk X.prog X.w (upd H s.heap.objs.size (.tup [x, y, v])) h'' s.heap.objs.size (.tup [x, y, v]) :=
      ⟨line3, [w1, w2, w3], .cons ru1 (.cons ru2 (.cons ru3 .nil)), _, hT2, rfl, _, rfl⟩
    have I1 : Inv X pins σ (upd H s.heap.objs.size (.tup [x, y, v])) { s with heap := h'', toks := tk } := by
      refine I.turnedNew (ch := [z, TI, TO, i1, i2, i3]) (fun e o he q => ?_) hf (Nat.le_refl _) new
      simp only [List.mem_cons, List.not_mem_nil, or_false, not_or] at he
      exact (sb.2 e he.1).trans (hk e o he.1 he.2.2.1 he.2.2.2.1 he.2.2.2.2.1 he.2.2.2.2.2 q)
    refine ⟨.ref s.heap.objs.size, _, I1, rfl, ⟨_, x, y, v, rfl, I.hok.fresh (Nat.le_refl _), rfl, fun l hl => by rw [I.list_inj hl hqx]; exact hx, fun l hl => by rw [I.list_inj hl hqy]; exact hy, fun l hl => by rw [I.list_inj hl hqz]; exact hv⟩, ⟨z'', ?_, ⟨w1, w2, w3, ?_⟩, ?_, ?_, ?_⟩, fun e he => ?_⟩
    · exact (sb.2 _ (by grind)).trans (hk _ _ (by grind) (by grind) (by grind) (by grind) (by grind) hTI)
    · exact (sb.2 _ (by grind)).trans TO'
    · exact (DrL.next l1 st1).at fun o q => (sb.2 _ (by grind)).trans q
    · exact (DrL.next l2 st2).at fun o q => (sb.2 _ (by grind)).trans q
    · exact (DrL.next l3 st3).at fun o q => (sb.2 _ (by grind)).trans q
    · have hlt : e < s.heap.objs.size := by
        rcases (show e = z ∨ e = TI ∨ e = TO ∨ e = i1 ∨ e = i2 ∨ e = i3 by simpa using he) with rfl | rfl | rfl | rfl | rfl | rfl
        · exact hzl
        · exact Heap.lt_size hTI
        · exact Heap.lt_size hTO
        · obtain ⟨_, q, _⟩ := h1; exact Heap.lt_size q
        · obtain ⟨_, q, _⟩ := h2; exact Heap.lt_size q
        · obtain ⟨_, q, _⟩ := h3; exact Heap.lt_size q
      rw [upd_ne (Nat.ne_of_lt hlt)]
      exact (hf e he).1
  done := by
    intro X hP hw hK hc i pins s σ H E I hf st hg
    subst hP hw hK
    obtain ⟨hz, hTI, ⟨x0, y0, u0, hTO⟩, h1, h2, h3⟩ := st
    obtain ⟨xs, ys, zs, hqx, hqy, hqz, hend⟩ := hg
    obtain ⟨t1, rv1, p1, _⟩ := I.list hqx
    obtain ⟨t2, rv2, p2, _⟩ := I.list hqy
    obtain ⟨t3, rv3, p3, _⟩ := I.list hqz
    have l1 := rv1.length
    have l2 := rv2.length
    have l3 := rv3.length
    have hn : X.A.in1.handled = none := I.ok.hd hc
    have la := D.la
    have lb := D.lb
    have lc := D.lc
    simp only [List.mem_cons, List.not_mem_nil, or_false, not_or] at la lb lc
    have he : i = nL t1.toArray i ∨ i = nL t2.toArray i ∨ i = nL t3.toArray i := by
      rcases hend with q | q | q
      · exact .inl (nL_end (by simp; omega))
      · exact .inr (.inl (nL_end (by simp; omega)))
      · exact .inr (.inr (nL_end (by simp; omega)))
    refine wpAny_pyNext_zipD3_end D.sep (drawsL hn (by grind) t1.toArray i) (drawsL hn (by grind) t2.toArray i) (drawsL hn (by grind) t3.toArray i) hz hTI hTO (DrL.to h1 p1.isList) (DrL.to h2 p2.isList) (DrL.to h3 p3.isList) (nL_le _ _) (nL_le _ _) (nL_le _ _) he fun h' tk hk => ?_
    refine ⟨rfl, I.turnedL (ch := [z, TI, TO, i1, i2, i3]) (fun e o he q => ?_) hf⟩
    simp only [List.mem_cons, List.not_mem_nil, or_false, not_or] at he
    exact hk e o he.1 he.2.2.1 he.2.2.2.1 he.2.2.2.2.1 he.2.2.2.2.2 q
  self := fun A i s Q E st h => wpAny_pyIter_zip st.1 h
end DL

set_option Elab.async false
set_option linter.all false
set_option maxRecDepth 100000
/-! zip of three lists in a comprehension; comprehensions over tuples; list and tuple of a sequence; slices; unpacking a list; calls by three names. -/
namespace DL
open PySem PySem.Spec PyProof.Rows L2
def iZip3 (K : PySem.W.Frag) (ta : TA) : TI := fun σ H R => ta σ H fun vs H1 => ∃ a b c xs ys zs, vs = [.ref a, .ref b, .ref c] ∧ SqL K H1 a xs ∧ SqL K H1 b ys ∧ SqL K H1 c zs ∧ R (Itz3 K a b c) H1
theorem apart3 {n a b c : Nat} (la : a < n) (lb : b < n) (lc : c < n) : Zs3 (n + 5) (n + 3) (n + 4) n (n + 1) (n + 2) a b c := by
  have ne : ∀ {x : Nat}, x < n → x ∉ ([n + 5, n + 3, n + 4, n, n + 1, n + 2] : List Nat) := fun {x} h z => by
    simp only [List.mem_cons, List.not_mem_nil, or_false] at z
    omega
  exact ⟨by simp, ne la, ne lb, ne lc⟩
theorem pi_zip3 {X : Cx} {e e2 e3 : Expr} {ta : TA} {p pos tpos : Pos} {elts : List Expr} {kk : Nat} (hg : Gl X "zip") (hm : X.mg "zip" = none) (ha : PA X [e, e2, e3] ta)
    (hs : starEach [e, e2, e3] X.env = (false, eval e X.env) :: starEach [e2, e3] X.env := by rfl) (hpl : (backTo pos (starEach [e2, e3] X.env)).any (·.1) = false := by rfl) :
    PI X (.Tuple elts kk tpos) (.Call (.Name "zip" p) [e, e2, e3] [] pos) (iZip3 X.K ta) := by
  refine ⟨fun pins s σ H R I h => ?_⟩
  refine Call_ (ld_blt I hg hm PyProof.Rows.boot_zip (PyProof.Rows.callWith_type1 (thn (ha.run pos pins s σ H _ I h) fun us s1 ⟨vs, H1, I1, r1, q1⟩ => ?_) hs hpl))
  obtain ⟨a, b, c, xs, ys, zs, ex, hqx, hqy, hqz, q⟩ := q1
  subst ex
  cases r1 with
  | cons r rr =>
    cases rr with
    | cons r' rr =>
      cases rr with
      | cons r'' rr =>
      cases rr
      cases r
      cases r'
      cases r''
      obtain ⟨its, rv, p1, _⟩ := I1.list hqx
      obtain ⟨its2, rv2, p2, _⟩ := I1.list hqy
      obtain ⟨its3, rv3, p3, _⟩ := I1.list hqz
      have la : a < s1.heap.objs.size := p1.lt
      have lb : b < s1.heap.objs.size := p2.lt
      have lc : c < s1.heap.objs.size := p3.lt
      refine zip_begins3 (begins_list a _) (begins_list b _) (begins_list c _) p1.isList p2.isList p3.isList fun h' hz hTI hTO h1 h2 h3 hsz hk => wpAny_pyIter_zip hz ?_
      have I2 : Inv X pins σ H1 { s1 with heap := h' } := I1.kept (t' := s1.toks) hk
      refine ⟨s1.heap.objs.size + 5, [s1.heap.objs.size + 5, s1.heap.objs.size + 3, s1.heap.objs.size + 4, s1.heap.objs.size, s1.heap.objs.size + 1, s1.heap.objs.size + 2], _, _, H1, rfl, I2, turn_zip3 (apart3 la lb lc), ⟨hz, hTI, ⟨_, _, _, hTO⟩, ⟨_, h1, rfl, rfl⟩, ⟨_, h2, rfl, rfl⟩, ⟨_, h3, rfl, rfl⟩⟩, fun d hd => ?_, q⟩
      have hle : s1.heap.objs.size ≤ d := by
        rcases (show d = s1.heap.objs.size + 5 ∨ d = s1.heap.objs.size + 3 ∨ d = s1.heap.objs.size + 4 ∨ d = s1.heap.objs.size ∨ d = s1.heap.objs.size + 1 ∨ d = s1.heap.objs.size + 2 by simpa using hd) with z | z | z | z | z | z <;> rw [z] <;> first | exact Nat.le_refl _ | exact Nat.le_add_right _ _
      exact I1.fpOk hle (I1.hok.fresh hle)
/-! ### zip of three, by data -/
def zip3D (xs ys zs : List D) : List D := List.zipWith (fun a (p : D × D) => D.tup [a, p.1, p.2]) xs (List.zip ys zs)
theorem zip3D_get {xs ys zs : List D} {i : Nat} {a b c : D} (h1 : xs[i]? = some a) (h2 : ys[i]? = some b) (h3 : zs[i]? = some c) : (zip3D xs ys zs)[i]? = some (.tup [a, b, c]) := by
  unfold zip3D
  rw [List.getElem?_zipWith, h1, List.getElem?_zip_eq_some.mpr (show ys[i]? = some (b, c).1 ∧ zs[i]? = some (b, c).2 from ⟨h2, h3⟩)]
theorem gown_three {K : PySem.W.Frag} {n i j l : Nat} {vs : List Nat} (hi : i ∈ vs) (hj : j ∈ vs) (hl : l ∈ vs) : GOwn vs (gTup K n (gCons (gName i) (gCons (gName j) (gCons (gName l) gNil)))) := ⟨fun v σ H Q q => by
  obtain ⟨a, xs, e, h1, h2, x, r, e1, y, r2, e2, z, r3, e3, e4, q⟩ := q
  exact ⟨a, xs, e, h1, h2, x, r, e1, y, r2, e2, z, r3, e3, e4, by rw [wipe_set_own hl, wipe_set_own hj, wipe_set_own hi], q⟩⟩
theorem IsL.three {mg : MG} {A : List Addr} {H : Hp} {vs : List V} {d e f : D} (l : IsL mg A H vs [d, e, f]) : ∃ v w u, vs = [v, w, u] ∧ Is mg A H v d ∧ Is mg A H w e ∧ Is mg A H u f := by
  cases l with
  | cons h t => obtain ⟨w, u, rfl, h2, h3⟩ := t.two; exact ⟨_, _, _, rfl, h, h2, h3⟩
def wiZ3 (wl : WL) : WIt := fun ρ S Q => wl ρ S fun ds S1 => match ds with
  | [x, y, z] => ∃ xs ok1 ys ok2 zs ok3, stayD S1 x = some (xs, ok1) ∧ stayD S1 y = some (ys, ok2) ∧ stayD S1 z = some (zs, ok3) ∧ Q (zip3D xs ys zs) (fun S2 => ok1 S2 ∧ ok2 S2 ∧ ok3 S2) S1
  | _ => False
theorem zip3D_len (xs ys zs : List D) : (zip3D xs ys zs).length = min xs.length (min ys.length zs.length) := by unfold zip3D; rw [List.length_zipWith, List.length_zip]
theorem ii_zip3 {X : Cx} {elts : List Expr} {kk : Nat} {pos2 p tpos : Pos} {a a2 a3 : Expr} {ta : TA} {wa : WL} (hm : X.mg "zip" = none) (ha : PDA X [a, a2, a3] ta wa) (hgl : Gl X "zip" := by rfl) (hst : starEach [a, a2, a3] X.env = (false, eval a X.env) :: starEach [a2, a3] X.env := by rfl) (hpl : (backTo pos2 (starEach [a2, a3] X.env)).any (·.1) = false := by rfl) :
    PDI X (.Tuple elts kk tpos) (.Call (.Name "zip" p) [a, a2, a3] [] pos2) (iZip3 X.K ta) (wiZ3 wa) := by
  refine ⟨pi_zip3 hgl hm ha.pe hst hpl, fun A S σ H ρ Q Q' R E h k => ?_⟩
  refine ha.sd A S σ H ρ _ _ R E h fun ds S1 A1 vs H1 g1 R1 hv q1 => ?_
  match ds, hv, q1 with
  | [x, y, z], hv, ⟨xs, ok1, ys, ok2, zs, ok3, es1, es2, es3, q1⟩ =>
    obtain ⟨v, w, u, rfl, hx, hy, hz⟩ := hv.three
    obtain ⟨a1, rfl, st1, o1⟩ := hx.stay R1 es1
    obtain ⟨b1, rfl, st2, o2⟩ := hy.stay R1 es2
    obtain ⟨c1, rfl, st3, o3⟩ := hz.stay R1 es3
    obtain ⟨us, sq1, _⟩ := st1.now A1 S1 H1 .refl R1 o1
    obtain ⟨ws, sq2, _⟩ := st2.now A1 S1 H1 .refl R1 o2
    obtain ⟨ts, sq3, _⟩ := st3.now A1 S1 H1 .refl R1 o3
    refine ⟨a1, b1, c1, us, ws, ts, rfl, sq1, sq2, sq3, k _ _ S1 A1 _ H1 g1 R1 ⟨fun i d A S H g R ok e => ?_, fun A S H g R ok => ?_⟩ q1⟩
    · obtain ⟨us, s1, l1⟩ := st1.now A S H g R ok.1
      obtain ⟨ws, s2, l2⟩ := st2.now A S H g R ok.2.1
      obtain ⟨ts, s3, l3⟩ := st3.now A S H g R ok.2.2
      have hl := (List.getElem?_eq_some_iff.mp e).1
      rw [zip3D_len] at hl
      have hx1 : xs[i]? = some xs[i] := List.getElem?_eq_getElem (by omega)
      have hy1 : ys[i]? = some ys[i] := List.getElem?_eq_getElem (by omega)
      have hz1 : zs[i]? = some zs[i] := List.getElem?_eq_getElem (by omega)
      have := zip3D_get hx1 hy1 hz1
      rw [e] at this
      cases this
      obtain ⟨u, e1, i1⟩ := l1.get hx1
      obtain ⟨w, e2, i2⟩ := l2.get hy1
      obtain ⟨t, e3, i3⟩ := l3.get hz1
      refine ⟨⟨us, ws, ts, u, w, t, s1, s2, s3, e1, e2, e3⟩, fun z H' y => ?_⟩
      obtain ⟨T, y1, y2, y3, rfl, hT, rfl, k1, k2, k3⟩ := y
      have f1 := k1 us s1
      rw [e1] at f1
      cases f1
      have f2 := k2 ws s2
      rw [e2] at f2
      cases f2
      have f3 := k3 ts s3
      rw [e3] at f3
      cases f3
      have gT := grow_new (o := .tup [u, w, t]) R hT
      exact ⟨gT, R.new hT, .tup (R.fresh hT) (.inl upd_same) (.cons (i1.mono gT) (.cons (i2.mono gT) (.cons (i3.mono gT) .nil)))⟩
    · obtain ⟨us, s1, l1⟩ := st1.now A S H g R ok.1
      obtain ⟨ws, s2, l2⟩ := st2.now A S H g R ok.2.1
      obtain ⟨ts, s3, l3⟩ := st3.now A S H g R ok.2.2
      refine ⟨us, ws, ts, s1, s2, s3, ?_⟩
      rw [zip3D_len, l1.length, l2.length, l3.length]
      omega
/-! ### list(xs): a list that may change; tuple(xs) -/
def oListM : LD := fun ds S Q => match ds with
  | [x] => ∃ es, seqD S x = some es ∧ Q (.mut S.length) (S ++ [.l es])
  | _ => False
theorem snd_listM {mg : MG} : SndC mg (fun xs H Q => ∃ p ys, xs = [.ref p] ∧ (SqL mg.K H p ys ∨ SqT mg.K H p ys) ∧ ∀ l, H l = none → Q (.ref l) (upd H l (.lst ys))) oListM := by
  intro A S H xs ds Q Q' R l q k
  match ds, q, l with
  | [x], ⟨es, e, q⟩, l =>
    obtain ⟨v, rfl, hv⟩ := l.one
    obtain ⟨a, vs, rfl, sq, lv⟩ := hv.seq R e
    refine ⟨a, vs, rfl, sq.symm, fun p hp => ?_⟩
    refine k _ _ (A ++ [p]) _ _ (grow_mut R hp) (R.newMut hp lv) (.mut ?_) q
    rw [← R.len, List.getElem?_append_right (Nat.le_refl _), Nat.sub_self]
    rfl
def oTupl : LD := fun ds S Q => match ds with
  | [x] => ∃ es, seqD S x = some es ∧ Q (.tup es) S
  | _ => False
/-- list(xs), the result left as it is -/
def oListF : LD := fun ds S Q => match ds with
  | [x] => ∃ es, seqD S x = some es ∧ Q (.lst es) S
  | _ => False
theorem snd_listF {mg : MG} : SndC mg (fun xs H Q => ∃ p ys, xs = [.ref p] ∧ (SqL mg.K H p ys ∨ SqT mg.K H p ys) ∧ ∀ l, H l = none → Q (.ref l) (upd H l (.lst ys))) oListF := by
  intro A S H xs ds Q Q' R l q k
  match ds, q, l with
  | [x], ⟨es, e, q⟩, l =>
    obtain ⟨v, rfl, hv⟩ := l.one
    obtain ⟨a, vs, rfl, sq, lv⟩ := hv.seq R e
    refine ⟨a, vs, rfl, sq.symm, fun p hp => ?_⟩
    have g := grow_new (o := .lst vs) R hp
    exact k _ S A _ _ g (R.new hp) (.lst (R.fresh hp) upd_same (lv.mono g)) q
theorem snd_tupl {mg : MG} : SndC mg (fun xs H Q => ∃ p ys, xs = [.ref p] ∧ ((SqL mg.K H p ys ∧ ∀ l, H l = none → Q (.ref l) (upd H l (.tup ys))) ∨ (SqT mg.K H p ys ∧ Q (.ref p) H))) oTupl := by
  intro A S H xs ds Q Q' R l q k
  match ds, q, l with
  | [x], ⟨es, e, q⟩, l =>
    obtain ⟨v, rfl, hv⟩ := l.one
    cases hv with
    | @tup a vs fs n r l' =>
      cases e
      exact ⟨a, vs, rfl, .inr ⟨.inl r, k _ S A _ H .refl R (.tup n r l') q⟩⟩
    | @lst a vs fs n r l' =>
      cases e
      exact ⟨a, vs, rfl, .inl ⟨.of r, fun p hp => k _ S A _ _ (grow_new R hp) (R.new hp) (.tup (R.fresh hp) (.inl upd_same) (l'.mono (grow_new R hp))) q⟩⟩
    | @scr a vs fs n r l' =>
      cases e
      exact ⟨a, vs, rfl, .inl ⟨.inl r, fun p hp => k _ S A _ _ (grow_new R hp) (R.new hp) (.tup (R.fresh hp) (.inl upd_same) (l'.mono (grow_new R hp))) q⟩⟩
    | @scrK a vs fs r l' =>
      cases e
      exact ⟨a, vs, rfl, .inl ⟨r H, fun p hp => k _ S A _ _ (grow_new R hp) (R.new hp) (.tup (R.fresh hp) (.inl upd_same) (l'.mono (grow_new R hp))) q⟩⟩
    | @«mut» a m ea =>
      obtain ⟨vs, h1, l'⟩ := R.at_ m a (.l es) ea (lsAt_eq e)
      exact ⟨a, vs, rfl, .inl ⟨.of h1, fun p hp => k _ S A _ _ (grow_new R hp) (R.new hp) (.tup (R.fresh hp) (.inl upd_same) (l'.mono (grow_new R hp))) q⟩⟩
    | _ => cases e
/-! ### slices of lists: new lists that never change -/
def listD (S : MS) : D → Option (List D)
  | .lst ds => some ds
  | .scr ds => some ds
  | .mut m => lsAt S m
  | _ => none
theorem Is.lis {mg : MG} {A : List Addr} {S : MS} {H : Hp} {v : V} {d : D} {ds : List D} (R : Rep mg A S H) (h : Is mg A H v d) (e : listD S d = some ds) : ∃ a vs, v = .ref a ∧ SqL mg.K H a vs ∧ IsL mg A H vs ds := by
  cases h with
  | @lst a vs es n r l => cases e; exact ⟨a, vs, rfl, .of r, l⟩
  | @scr a vs es n r l => cases e; exact ⟨a, vs, rfl, .inl r, l⟩
  | @scrK a vs es r l => cases e; exact ⟨a, vs, rfl, r H, l⟩
  | @«mut» a m ea =>
    obtain ⟨vs, h1, l⟩ := R.at_ m a (.l ds) ea (lsAt_eq e)
    exact ⟨a, vs, rfl, .of h1, l⟩
  | _ => cases e
def wCut (we : WD) (lo hi : Option Int) : WD := fun ρ S Q => we ρ S fun x S1 => ∃ ds, listD S1 x = some ds ∧ Q (.lst (cutD ds lo hi)) S1
section
variable {X : Cx} {e : Expr} {te : TE} {we : WD} {n : Int} {j : Nat} {p1 p2 p3 pos : Pos}
/-- xs[n:], n written -/
theorem d_cutFrom (he : PD X e te we) : PD X (.Subscript e (.Slice (some (.Constant (.int n) j p1)) none none p2) pos) (tSl (rSlL X.K) te (tPart (tC (.int n))) tNoPart) (wCut we (some n) none) := by
  refine ⟨pe_slice sl_list he.pe (po_some pe_int) po_none, fun A S σ H ρ Q Q' R E h k => ?_⟩
  refine he.sd A S σ H ρ _ _ R E h fun d S1 A1 v H1 g1 R1 hv q1 => ?_
  obtain ⟨ds, ed, q1⟩ := q1
  obtain ⟨a, vs, rfl, sq, l⟩ := hv.lis R1 ed
  refine ⟨n, rfl, a, vs, rfl, sq, fun p hp => ?_⟩
  have g := grow_new (o := .lst (cutV vs (some n) none)) R1 hp
  exact k _ S1 A1 _ _ (g1.trans g) (R1.new hp) (.lst (R1.fresh hp) upd_same ((l.cut _ _).mono g)) q1
/-- xs[:n], n written -/
theorem d_cutToM (he : PD X e te we) : PD X (.Subscript e (.Slice none (some (.Constant (.int n) j p1)) none p2) pos) (tSl (rSlL X.K) te tNoPart (tPart (tC (.int n)))) (wCut we none (some n)) := by
  refine ⟨pe_slice sl_list he.pe po_none (po_some pe_int), fun A S σ H ρ Q Q' R E h k => ?_⟩
  refine he.sd A S σ H ρ _ _ R E h fun d S1 A1 v H1 g1 R1 hv q1 => ?_
  obtain ⟨ds, ed, q1⟩ := q1
  obtain ⟨a, vs, rfl, sq, l⟩ := hv.lis R1 ed
  refine ⟨n, rfl, a, vs, rfl, sq, fun p hp => ?_⟩
  have g := grow_new (o := .lst (cutV vs none (some n))) R1 hp
  exact k _ S1 A1 _ _ (g1.trans g) (R1.new hp) (.lst (R1.fresh hp) upd_same ((l.cut _ _).mono g)) q1
/-- xs[-n:], n written -/
theorem d_cutFromN (he : PD X e te we) : PD X (.Subscript e (.Slice (some (.UnaryOp .USub (.Constant (.int n) j p1) p3)) none none p2) pos) (tSl (rSlL X.K) te (tPart (tUn (rU fun i => .int (-i)) (tC (.int n)))) tNoPart) (wCut we (some (-n)) none) := by
  refine ⟨pe_slice sl_list he.pe (po_some (pe_un un_neg pe_int)) po_none, fun A S σ H ρ Q Q' R E h k => ?_⟩
  refine he.sd A S σ H ρ _ _ R E h fun d S1 A1 v H1 g1 R1 hv q1 => ?_
  obtain ⟨ds, ed, q1⟩ := q1
  obtain ⟨a, vs, rfl, sq, l⟩ := hv.lis R1 ed
  refine ⟨n, rfl, -n, rfl, a, vs, rfl, sq, fun p hp => ?_⟩
  have g := grow_new (o := .lst (cutV vs (some (-n)) none)) R1 hp
  exact k _ S1 A1 _ _ (g1.trans g) (R1.new hp) (.lst (R1.fresh hp) upd_same ((l.cut _ _).mono g)) q1
end
theorem cut_from1 (d : D) (ds : List D) : cutD (d :: ds) (some 1) none = ds := by
  unfold cutD HT.sIx
  simp
/-! ### a list unpacked -/
def gwLst (n : Nat) (ws : WGs) : WG := fun d ρ S Q => ∃ ds, listD S d = some ds ∧ ds.length = n ∧ ws ds ρ S Q
theorem dg_lst {X : Cx} {es : List Expr} {n0 : Nat} {t : TGs} {ws : WGs} {n : Nat} {pos : Pos} (hc : X.calm = true) (h : PDGs X es t ws)
    (hn : (assignEach es X.env).length = n := by rfl) (hst : (assignEach es X.env).findIdx? (·.1) = none := by rfl) : PDG X (.Tuple es n0 pos) (L2.gLst X.K n t) (gwLst n ws) := by
  refine ⟨L2.pg_lst hc h.pe hn hst, fun A S σ H ρ v d Q Q' R E hv q k => ?_⟩
  obtain ⟨ds, e, hl, q⟩ := q
  obtain ⟨a, vs, rfl, sq, l⟩ := hv.lis R e
  exact ⟨a, vs, rfl, sq, by rw [l.length]; exact hl, h.sd A S σ H ρ _ _ _ _ R E l q k⟩
/-! ### calls by three names -/
def perm3V {α : Type} (f : α → α → α → List α) : List α → List α → List α
  | [], [a, b, c] => f a b c
  | _, _ => []
def p3rev {α : Type} (a b c : α) : List α := [c, b, a]
def p3mid {α : Type} (a b c : α) : List α := [a, c, b]
theorem perm3_rev {vs zs : List V} {us ws : List Value} (r : Vals vs us) (rz : Vals zs ws) : Vals (perm3V p3rev vs zs) (perm3V p3rev us ws) := by
  cases r with
  | cons _ _ => exact .nil
  | nil =>
    match rz with
    | .nil => exact .nil
    | .cons h1 .nil => exact .nil
    | .cons h1 (.cons h2 .nil) => exact .nil
    | .cons h1 (.cons h2 (.cons h3 .nil)) => exact .cons h3 (.cons h2 (.cons h1 .nil))
    | .cons h1 (.cons h2 (.cons h3 (.cons _ _))) => exact .nil
theorem perm3_mid {vs zs : List V} {us ws : List Value} (r : Vals vs us) (rz : Vals zs ws) : Vals (perm3V p3mid vs zs) (perm3V p3mid us ws) := by
  cases r with
  | cons _ _ => exact .nil
  | nil =>
    match rz with
    | .nil => exact .nil
    | .cons h1 .nil => exact .nil
    | .cons h1 (.cons h2 .nil) => exact .nil
    | .cons h1 (.cons h2 (.cons h3 .nil)) => exact .cons h1 (.cons h3 (.cons h2 .nil))
    | .cons h1 (.cons h2 (.cons h3 (.cons _ _))) => exact .nil
def wCallP3 (f : D → D → D → List D) (w : WF) (wl : WL) : WD := fun ρ S Q => wl ρ S fun ds S1 => match ds with
  | [a, b, c] => w (f a b c) S1 Q
  | _ => False
section
variable {X : Cx} {k : Nat} {f : Addr} {fd : FuncData} {ps ks : List Str} {x : Str} {p pos : Pos} {kws : List Keyword} {tk : TA} {wl : WL} {w : WF} {G' : MG}
theorem d_callP3rev (F : FnOk X.prog X.w X.K X.mg X.base CX0 k f fd ps (spW G' 3 w)) (hr : Room k X.A) (hm : X.mg x = some (.ref f)) (hk : PySem.W.keepIn X.K (.ref f) = true) (hb : KBinds X.K fd ps ks (perm3V p3rev) (perm3V p3rev)) (hkw : PDK X kws tk wl) (hG : G' = X.G := by rfl) (hg : Gl X x := by rfl)
    (hall : (backToKw pos (keywordEach kws X.env)).all (·.1.isSome) = true := by rfl) (hks : (backToKw pos (keywordEach kws X.env)).filterMap (·.1) = ks := by rfl) (hdb : (x == ("__debug__" : Str)) = false := by decide)
    (hpl : ((backTo pos (starEach [] X.env)).any (·.1) || (backToKw pos (keywordEach kws X.env)).any (·.1.isNone)) = false := by rfl) :
    PD X (.Call (.Name x p) [] kws pos) (tCallK (spW G' 3 w) (perm3V p3rev) E0 tNil tk) (wCallP3 p3rev w wl) := by
  subst hG
  refine ⟨pe_callK0 F hr hg hm hk hb pass0 hkw.pe hall hks hdb hpl, fun A S σ H ρ Q Q' R E h k => ?_⟩
  refine hkw.sd A S σ H ρ _ _ R E h fun ds S1 A1 vs H1 g1 R1 hv q1 => ?_
  match ds, hv, q1 with
  | [a, b, c], hv, q1 =>
    obtain ⟨v, w', u, rfl, h1, h2, h3⟩ := hv.three
    exact ⟨A1, S1, [c, b, a], Q', R1, .cons h3 (.cons h2 (.cons h1 .nil)), rfl, q1, k.mono g1⟩
theorem d_callP3mid (F : FnOk X.prog X.w X.K X.mg X.base CX0 k f fd ps (spW G' 3 w)) (hr : Room k X.A) (hm : X.mg x = some (.ref f)) (hk : PySem.W.keepIn X.K (.ref f) = true) (hb : KBinds X.K fd ps ks (perm3V p3mid) (perm3V p3mid)) (hkw : PDK X kws tk wl) (hG : G' = X.G := by rfl) (hg : Gl X x := by rfl)
    (hall : (backToKw pos (keywordEach kws X.env)).all (·.1.isSome) = true := by rfl) (hks : (backToKw pos (keywordEach kws X.env)).filterMap (·.1) = ks := by rfl) (hdb : (x == ("__debug__" : Str)) = false := by decide)
    (hpl : ((backTo pos (starEach [] X.env)).any (·.1) || (backToKw pos (keywordEach kws X.env)).any (·.1.isNone)) = false := by rfl) :
    PD X (.Call (.Name x p) [] kws pos) (tCallK (spW G' 3 w) (perm3V p3mid) E0 tNil tk) (wCallP3 p3mid w wl) := by
  subst hG
  refine ⟨pe_callK0 F hr hg hm hk hb pass0 hkw.pe hall hks hdb hpl, fun A S σ H ρ Q Q' R E h k => ?_⟩
  refine hkw.sd A S σ H ρ _ _ R E h fun ds S1 A1 vs H1 g1 R1 hv q1 => ?_
  match ds, hv, q1 with
  | [a, b, c], hv, q1 =>
    obtain ⟨v, w', u, rfl, h1, h2, h3⟩ := hv.three
    exact ⟨A1, S1, [a, c, b], Q', R1, .cons h1 (.cons h3 (.cons h2 .nil)), rfl, q1, k.mono g1⟩
end
/-! ### states that only grow -/
/-- what stood stands; new lists may have come -/
def Ext (S S' : MS) : Prop := ∀ (j : Nat) (x : MO), S[j]? = some x → S'[j]? = some x
theorem Ext.refl {S : MS} : Ext S S := fun _ _ h => h
theorem Ext.trans {S S1 S2 : MS} (a : Ext S S1) (b : Ext S1 S2) : Ext S S2 := fun j x h => b j x (a j x h)
theorem Ext.app {S M : MS} : Ext S (S ++ M) := fun j x h => by rw [List.getElem?_append_left (List.getElem?_eq_some_iff.mp h).1]; exact h
theorem Ext.set {S S1 : MS} {m : Nat} {x : MO} (h : Ext S S1) (hm : S.length ≤ m) : Ext S (S1.set m x) := fun j y hj => by
  have hl := (List.getElem?_eq_some_iff.mp hj).1
  rw [List.getElem?_set_ne (by omega)]
  exact h j y hj
theorem new_at {S : MS} {x : MO} : (S ++ [x])[S.length]? = some x := by
  rw [List.getElem?_append_right (Nat.le_refl _), Nat.sub_self]
  rfl
theorem set_at {S : MS} {m : Nat} {x y : MO} (h : S[m]? = some y) : (S.set m x)[m]? = some x := by
  rw [List.getElem?_set_self (List.getElem?_eq_some_iff.mp h).1]
/-- all but the d-th list stays -/
def ExtB (d : Nat) (S S' : MS) : Prop := S.length ≤ S'.length ∧ ∀ (j : Nat) (x : MO), j ≠ d → S[j]? = some x → S'[j]? = some x
theorem ExtB.refl {d : Nat} {S : MS} : ExtB d S S := ⟨Nat.le_refl _, fun _ _ _ h => h⟩
theorem ExtB.trans {d : Nat} {S S1 S2 : MS} (a : ExtB d S S1) (b : ExtB d S1 S2) : ExtB d S S2 := ⟨Nat.le_trans a.1 b.1, fun j x n h => b.2 j x n (a.2 j x n h)⟩
theorem Ext.len {S S' : MS} (h : Ext S S') : S.length ≤ S'.length := by
  rcases Nat.eq_zero_or_pos S.length with z | z
  · omega
  · have hl : S.length - 1 < S.length := by omega
    have := (List.getElem?_eq_some_iff.mp (h (S.length - 1) _ (List.getElem?_eq_getElem hl))).1
    omega
theorem Ext.b {d : Nat} {S S' : MS} (h : Ext S S') : ExtB d S S' := ⟨h.len, fun j x _ e => h j x e⟩
theorem ExtB.set {d : Nat} {S S1 : MS} {m : Nat} {x : MO} (h : ExtB d S S1) (hm : S.length ≤ m) : ExtB d S (S1.set m x) := ⟨by rw [List.length_set]; exact h.1, fun j y n hj => by
  have hl := (List.getElem?_eq_some_iff.mp hj).1
  rw [List.getElem?_set_ne (by omega)]
  exact h.2 j y n hj⟩
theorem ExtB.setD {d : Nat} {S S1 : MS} {x : MO} (h : ExtB d S S1) : ExtB d S (S1.set d x) := ⟨by rw [List.length_set]; exact h.1, fun j y n hj => by
  rw [List.getElem?_set_ne (fun z => n z.symm)]
  exact h.2 j y n hj⟩
/-! ### turn by turn -/
theorem lcO_run {α : Type} {ok : MS → Prop} {step : D → MS → (MS → Prop) → Prop} {fin : MS → Prop} (f : α → D) (J : Nat → MS → Prop) : ∀ (xs : List α) (n : Nat), (∀ i S, J i S → ok S) → (∀ i x S nx, xs[i]? = some x → J (n + i) S → (∀ S', J (n + i + 1) S' → nx S') → step (f x) S nx) →
    (∀ S, J (n + xs.length) S → fin S) → ∀ S, J n S → lcO ok (xs.map f) step fin S
  | [], n, hok, _, hf, S, h => ⟨hok n S h, hf S h⟩
  | x :: xs, n, hok, hs, hf, S, h => ⟨hok n S h, hs 0 x S _ rfl h fun S' h' => lcO_run f J xs (n + 1) hok (fun i y S nx hy j k => hs (i + 1) y S nx (by simpa using hy) (by rw [show n + (i + 1) = n + 1 + i by omega]; exact j) (fun S' j' => k S' (by rw [show n + 1 + i + 1 = n + (i + 1) + 1 by omega]; exact j'))) (fun S j => hf S (by rw [List.length_cons, show n + (xs.length + 1) = n + 1 + xs.length by omega]; exact j)) S' h'⟩
/-- a list made item by item; what stood stands -/
def MapJ (S0 : MS) (m : Nat) (ys : List D) (i : Nat) (S : MS) : Prop := Ext S0 S ∧ S[m]? = some (.l (ys.take i))
theorem MapJ.start {S : MS} {ys : List D} : MapJ S S.length ys 0 (S ++ [.l []]) := ⟨Ext.app, by rw [List.take_zero]; exact new_at⟩
theorem map_next {S0 S S4 : MS} {m i : Nat} {ys : List D} {y : D} {nx : MS → Prop} (hm : S0.length ≤ m) (hJ : MapJ S0 m ys i S) (e : Ext S S4) (hy : ys[i]? = some y) (hl : ys.length ≤ sizeLine) (hn : ∀ S', MapJ S0 m ys (i + 1) S' → nx S') :
    ∃ acc, S4[m]? = some (.l acc) ∧ acc.length < sizeLine ∧ nx (S4.set m (.l (acc ++ [y]))) := by
  have hi := (List.getElem?_eq_some_iff.mp hy).1
  refine ⟨_, e _ _ hJ.2, by rw [List.length_take]; omega, hn _ ⟨(hJ.1.trans e).set hm, ?_⟩⟩
  rw [set_at (e _ _ hJ.2), List.take_add_one, hy]
  rfl
theorem MapJ.fin {S0 S : MS} {m : Nat} {ys : List D} {n : Nat} (h : MapJ S0 m ys n S) (e : ys.length = n) : Ext S0 S ∧ S[m]? = some (.l ys) := ⟨h.1, by rw [h.2, ← e, List.take_length]⟩
/-- the same while the d-th list changes -/
def MapB (d : Nat) (S0 : MS) (m : Nat) (ys : List D) (i : Nat) (S : MS) : Prop := ExtB d S0 S ∧ S[m]? = some (.l (ys.take i))
theorem enum_map {α : Type} (f : α → D) : ∀ (xs : List α) (k : Nat), enumD k (xs.map f) = (xs.zipIdx k).map fun p => D.tup [.int (p.2 : Nat), f p.1]
  | [], _ => rfl
  | x :: xs, k => by
    show D.tup [.int k, f x] :: enumD (k + 1) (xs.map f) = _
    rw [enum_map f xs (k + 1), List.zipIdx_cons, List.map_cons]
theorem zip_map {α β : Type} (f : α → D) (g : β → D) (xs : List α) (ys : List β) : zipD (xs.map f) (ys.map g) = (xs.zip ys).map fun p => D.tup [f p.1, g p.2] := by
  unfold zipD
  rw [List.zipWith_map, List.zip, List.map_zipWith]
theorem zip3_map {α β γ : Type} (f : α → D) (g : β → D) (h : γ → D) (xs : List α) (ys : List β) (zs : List γ) : zip3D (xs.map f) (ys.map g) (zs.map h) = (xs.zip (ys.zip zs)).map fun p => D.tup [f p.1, g p.2.1, h p.2.2] := by
  unfold zip3D
  rw [List.zip_map, List.zipWith_map]
  generalize ys.zip zs = q
  rw [List.zip, List.map_zipWith]
  rfl
end DL

set_option Elab.async false
set_option linter.all false
set_option maxRecDepth 100000
/-! Rules for pieces within a comprehension: their terms do not name the inner frame. -/
namespace DL
open PySem PySem.Spec PyProof.Rows L2
section
variable {X : Cx} {G' : MG} {k n : Nat} {f C : Addr} {fd : FuncData} {ps : List Str} {w : WF} {x c : Str} {p pos : Pos} {e o a b : Expr} {es : List Expr} {t : TA} {wl : WL} {te ta tb : TE} {we wa wb : WD}
theorem d_ixC (ha : PD X a ta wa) (hb : PD X b tb wb) (hG : G' = X.G := by rfl) (hs : PlainIx b := by intro _ _; rfl) : PD X (.Subscript a b pos) (tOp (rIx G'.K) ta tb) (wOp oIx wa wb) := by
  subst hG
  exact d_ix ha hb hs
theorem d_propC {f' : Str} {pa g : Addr} (he : PD X e te we) (hC : X.mg c = some (.ref C)) (cl : Cls X.K C) (hp : PropOf X.K C f' pa g) (F : FnOk X.prog X.w X.K X.mg X.base CX0 k g fd ps (spW G' 1 w)) (hr : Room (k + 1) X.A) (hb : Binds X.K fd ps []) (hG : G' = X.G := by rfl)
    (hab : attributeBase e f' X.env (eval e X.env) = eval e X.env := by rfl) : PD X (.Attribute e f' pos) (tProp C (spW G' 1 w) [] E0 te) (wProp c w we) := by
  subst hG
  exact d_prop he hC cl hp F hr hb hab
theorem d_makeC {wi : WI} {dvs : List V} {ds : List Value} {dds : List D} (M : Mk X.K C f) (F : FnOk X.prog X.w X.K X.mg X.base CX0 k f fd ps (spInit G' x n wi)) (hr : Room (k + 1) X.A) (hm : X.mg x = some (.ref C)) (hb : Binds X.K fd ps ds) (hd : Vals dvs ds) (hdd : ∀ A H, IsL G' A H dvs dds)
    (ha : PDA X (e :: es) t wl) (hG : G' = X.G := by rfl) (hg : Gl X x := by rfl) (hdb : (x == ("__debug__" : Str)) = false := by decide) (he : starEach (e :: es) X.env = (false, eval e X.env) :: starEach es X.env := by rfl) (hpl : (backTo pos (starEach es X.env)).any (·.1) = false := by rfl) :
    PD X (.Call (.Name x p) (e :: es) [] pos) (tMake C (spInit G' x n wi) dvs E0 t) (wMake x n wi dds wl) := by
  subst hG
  exact d_make M F hr hm hb hd hdd ha hg hdb he hpl
end
end DL

set_option Elab.async false
set_option linter.all false
set_option maxRecDepth 100000
/-! name = [..] on one line: the name is stored within the comprehension's own run. -/
namespace DL
open PySem PySem.Spec PyProof.Rows L2
structure PLC (X : Cx) (e : Expr) (t : TE) (w : WD) : Prop where
  pd : PD X e t w
  ps : ∀ {i : Nat} {y : Str} {py spos : Pos}, X.N.Nodup → X.N[i]? = some y → X.env.scope.names.lookup y = some .local → swapsWith e (some (.Name y py)) spos.line X.env = pure true → PS X (.Assign [.Name y py] e spos) (tAsg t (gName i))
theorem ds_setL {X : Cx} {e : Expr} {te : TE} {we : WD} {i : Nat} {y : Str} {py pos : Pos} (hN : X.N.Nodup) (he : PLC X e te we) (hi : X.N[i]? = some y := by rfl) (hy : X.env.scope.names.lookup y = some .local := by rfl) (hs : swapsWith e (some (.Name y py)) pos.line X.env = pure true := by exact sw_true rfl rfl rfl (by decide +kernel)) :
    PDS X (.Assign [.Name y py] e pos) (tAsg te (gName i)) (sAsg we (gwName i)) := by
  refine ⟨he.ps hN hi hy hs, fun A S σ H ρ D D' R E h k => ?_⟩
  exact he.pd.sd A S σ H ρ _ _ R E h fun d S1 A1 v H1 g1 R1 hv q1 => sndg_name A1 S1 σ H1 ρ v d _ _ R1 (E.mono g1) hv q1 (k.nx.mono g1)
section
variable {X : Cx} {elt tg iter : Expr} {ifs : List Expr} {scope : Scope} {own : List (Str × Nat)} {pos : Pos} {g : TG} {wg : WG} {tt : TT} {wt : WB} {te : TE} {we : WD} {ti : TI} {wi : WIt}
theorem p_lcI (hc : X.calm = true) (hN : X.N.Nodup) (hi : PDI X tg iter ti wi) (ok : BlkOk X.N X.env.scope scope own) (go : GOwn (own.map (·.2)) g)
    (hg : ∀ (s : Shared) (H : Hp) (C : Addr) (cl : List (Str × Addr)) (fp : List Addr), PDG (X.blk s H scope (compEnvC scope cl C X.env) fp) tg g wg) (ht : ∀ (s : Shared) (H : Hp) (C : Addr) (cl : List (Str × Addr)) (fp : List Addr), PDTs (X.blk s H scope (compEnvC scope cl C X.env) fp) ifs tt wt)
    (he : ∀ (s : Shared) (H : Hp) (C : Addr) (cl : List (Str × Addr)) (fp : List Addr), PD (X.blk s H scope (compEnvC scope cl C X.env) fp) elt te we) (hs : ∀ x, foldedSetIterable iter X.env x = pure x := by intro _; rfl) :
    PLC X (.ListComp elt [⟨tg, iter, ifs, 0⟩] scope pos) (tLc ti g tt te (own.map (·.2))) (wLcI wi (own.map (·.2)) wg wt we) := ⟨d_lcI hc hN hi ok go hg ht he hs, fun hN hy hyl hsw => ps_setLc hc hN hy hyl hsw hi.pe ok (fun s H C cl fp => (hg s H C cl fp).pe) (fun s H C cl fp => (ht s H C cl fp).pe) (fun s H C cl fp => (he s H C cl fp).pe) hs⟩
end
end DL

set_option Elab.async false
set_option linter.all false
set_option maxRecDepth 100000
/-! A body's rest kept aside. -/
namespace DL
open PySem PySem.Spec PyProof.Rows L2
theorem seqG {t u : WS} {DD : DEnds} {ρ : DEnv} {S : MS} (h : ∀ R, R = u → sSeq t R DD ρ S) : sSeq t u DD ρ S := h u rfl
end DL

set_option Elab.async false
set_option linter.all false
set_option maxRecDepth 100000
/-! Errors made with nothing, try .. except X without a name, enumerate of a list in a for, x or y of lists, xs[:e], a list times a number. -/
namespace DL
open PySem PySem.Spec PyProof.Rows L2
section
variable {X : Cx} {W : WX} {C : Addr} {bmB : List Value} {B newId initId : String}
/-- X() -/
theorem pmk_own0 {x : Str} {p pos : Pos} (F : ExcBaseFacts B newId initId bmB) (q : PySem.W.excIn X.K C bmB newId = true) (gC : X.mg x = some (.ref C)) (kC : PySem.W.keepIn X.K (.ref C) = true) (r : Raises X (.ref C)) (hg : Gl X x)
    (hdb : (x == ("__debug__" : Str)) = false := by decide) : PMk X (.Call (.Name x p) [] [] pos) (fun _ H Q => Q (.ref C) none H) := by
  intro pins s σ H Q I h
  refine wpAny_Call_Name_kw (ld_glob I hg gC ?_ hdb)
  refine PySem.W.callWith_K0 I.kIn kC ?_
  show wpAny _ _ (call (.ref C) []) _ _ _
  obtain ⟨bm, N, nm, qn, bs, hdct, sn, sub, ab, col, dd, k0, k1, k2, k3, k5, mN, hC, hN, hni, T⟩ := exc_obj I.kIn q
  refine wpAny_call_exc_subT F T hC hN hni (fun h' e hm => ?_) (Nat.zero_le _)
  exact mk_of I hm r h (I.hok.gone hm.new)
theorem dx_raise0 {x : Str} {p p2 pos : Pos} (hc : X.calm = true) (tk : Takes X W) (F : ExcBaseFacts B newId initId bmB) (q : PySem.W.excIn X.K C bmB newId = true) (gC : X.mg x = some (.ref C)) (kC : PySem.W.keepIn X.K (.ref C) = true) (r : Raises X (.ref C)) (hg : Gl X x := by rfl)
    (hdb : (x == ("__debug__" : Str)) = false := by decide) : PDSX X W (.Raise (some (.Call (.Name x p) [] [] p2)) none pos) (fun _ σ H => W (.ref C) none σ H) (fun E' _ ρ S => E' ρ x [] S) :=
  ⟨ps_raise hc tk (pmk_own0 F q gC kC r hg hdb), fun A S σ H ρ D D' E' R E x h k => x _ _ S A σ H ρ C none .refl R E gC rfl h⟩
end
/-! ### try .. except X, without a name -/
def sTryO (mg : MG) (b : Value) (wb : EX → WS) (ws : WS) : WS := fun DD ρ S => wb (fun ρ' c fs S' => ∀ C, mg.f c = some (.ref C) → PySem.W.exmOne mg.K (.ref C) b = some true ∧ ws DD ρ' S') DD ρ S
theorem ds_try_only {X : Cx} {G' : MG} {x : Str} {c : Value} {body suite : List Stmt} {b₀ : Stmt} {np pos pos' : Pos} {tb : WX → TS} {wb : EX → WS} {ts : Addr → Value → Option Addr → TS} {ws : WS} (hs : X.stack = X.env :: X.outer) (hf : X.env.frame = some X.env.locals) (hc : Names X x c)
    (hb : ∀ (W : WX) (pn : List (Addr × Obj)) (xe : Value → Shared → Prop), Takes (X.tr pn xe) W → PDSsX (X.tr pn xe) W body (tb W) wb)
    (hsu : ∀ (a : Addr) (oe : Obj) (cls : Value) (d : Option Addr) (pn : List (Addr × Obj)), Zc cls d oe → (∃ vs, oe.data = .fields vs) → PDSs (X.suite a ((a, oe) :: pn)) (b₀ :: suite) (ts a cls d) ws)
    (hG : G' = X.G := by rfl) :
    PDS X (.Try body [.ExceptHandler (some (.Name x np)) none (b₀ :: suite) pos'] [] [] pos) (fun D σ H => tb (wOnly X.K c ts (fun _ _ _ _ => False) D) D σ H) (sTryO G' c wb ws) := by
  subst hG
  refine ⟨ps_try_only hs hf hc takes0 (fun W pn xe tk _ => (hb W pn xe tk).pe) (fun a oe cls d pn hz hd => (hsu a oe cls d pn hz hd).pe), fun A S σ H ρ D D' R E h k => ?_⟩
  refine (hb (wOnly X.K c ts (fun _ _ _ _ => False) D) [] (fun _ _ => True) (fun _ _ _ => True.intro)).sd A S σ H ρ D D' _ R E ?_ h k
  intro cn fs S1 A1 σ1 H1 ρ1 C d g1 R1 E1 hC xf q
  obtain ⟨e1, q1⟩ := q C hC
  refine ⟨true, e1, fun _ a ha => ?_, fun z => Bool.noConfusion z⟩
  have dat : ∃ vs, (⟨.ref C, d, .fields #[], #[]⟩ : Obj).data = .fields vs := ⟨_, rfl⟩
  exact (hsu a ⟨.ref C, d, .fields #[], #[]⟩ (.ref C) d [] ⟨rfl, rfl⟩ dat).sd A1 S1 σ1 H1 ρ1 _ _ R1 E1 q1 (k.mono g1)
theorem forO_run {α : Type} {ok : MS → Prop} (f : α → D) (I : Nat → DEnv → MS → Prop) {step : D → DEnv → MS → (DEnv → MS → Prop) → Prop} {fin : DEnv → MS → Prop} (hok : ∀ i ρ S, I i ρ S → ok S) : ∀ (xs : List α) (k : Nat),
    (∀ (i : Nat) (x : α) (ρ : DEnv) (S : MS) (nx : DEnv → MS → Prop), xs[i]? = some x → I (k + i) ρ S → (∀ ρ' S', I (k + i + 1) ρ' S' → nx ρ' S') → step (f x) ρ S nx) →
    (∀ ρ S, I (k + xs.length) ρ S → fin ρ S) → ∀ ρ S, I k ρ S → forO ok (xs.map f) step fin ρ S
  | [], k, _, hf, ρ, S, h => ⟨hok _ _ _ h, hf ρ S h⟩
  | x :: xs, k, hs, hf, ρ, S, h => ⟨hok _ _ _ h, hs 0 x ρ S _ rfl h fun ρ' S' h' => forO_run f I hok xs (k + 1) (fun i y ρ2 S2 nx hy h2 hn => hs (i + 1) y ρ2 S2 nx hy (by rw [show k + (i + 1) = k + 1 + i by omega]; exact h2) (fun ρ3 S3 h3 => hn ρ3 S3 (by rw [show k + 1 + i + 1 = k + (i + 1) + 1 by omega]; exact h3)))
      (fun ρ2 S2 h2 => hf ρ2 S2 (by rw [show k + (x :: xs).length = k + 1 + xs.length by simp; omega]; exact h2)) ρ' S' h'⟩
/-! ### x or y, x a list -/
def wOrL (wa wb : WD) : WD := fun ρ S Q => wa ρ S fun x S1 => match x with
  | .lst ds => if ds.isEmpty = true then wb ρ S1 Q else Q x S1
  | _ => False
section
variable {X : Cx} {a b : Expr} {rest : List Expr} {ta tb : TE} {wa wb : WD} {pos : Pos}
theorem d_orL (ha : PD X a ta wa) (hb : PD X (.BoolOp .Or (b :: rest) pos) tb wb) : PD X (.BoolOp .Or (a :: b :: rest) pos) (tOrT X.K ta tb) (wOrL wa wb) := by
  refine ⟨pe_orT ha.pe hb.pe, fun A S σ H ρ Q Q' R E h k => ?_⟩
  refine ha.sd A S σ H ρ _ _ R E h fun x S1 A1 vx H1 g1 R1 hx h1 => ?_
  cases hx <;> first | exact h1.elim | skip
  rename_i a' vs ds n r l
  refine ⟨!vs.isEmpty, .inl ⟨vs, .of r, rfl⟩, ?_⟩
  rw [isEmpty_isL l]
  dsimp only at h1
  cases he : ds.isEmpty with
  | true =>
    rw [he] at h1
    exact iteF (hb.sd A1 S1 σ H1 ρ _ _ R1 (E.mono g1) (by simpa using h1) (k.mono g1))
  | false =>
    rw [he] at h1
    exact iteT (k _ S1 A1 _ H1 g1 R1 (.lst n r l) (by simpa using h1))
end
/-! ### xs[:e] -/
def wCutE (we wu : WD) : WD := fun ρ S Q => we ρ S fun x S1 => wu ρ S1 fun y S2 => match y with
  | .int n => ∃ ds, listD S2 x = some ds ∧ Q (.lst (cutD ds none (some n))) S2
  | _ => False
theorem d_cutToE {X : Cx} {e u : Expr} {te tu : TE} {we wu : WD} {p2 pos : Pos} (he : PD X e te we) (hu : PD X u tu wu) : PD X (.Subscript e (.Slice none (some u) none p2) pos) (tSl (rSlL X.K) te tNoPart (tPart tu)) (wCutE we wu) := by
  refine ⟨pe_slice sl_list he.pe po_none (po_some hu.pe), fun A S σ H ρ Q Q' R E h k => ?_⟩
  refine he.sd A S σ H ρ _ _ R E h fun d S1 A1 v H1 g1 R1 hv q1 => ?_
  refine hu.sd A1 S1 σ H1 ρ _ _ R1 (E.mono g1) q1 fun d2 S2 A2 v2 H2 g2 R2 hv2 q2 => ?_
  cases hv2 <;> first | exact q2.elim | skip
  rename_i n
  obtain ⟨ds, ed, q2⟩ := q2
  obtain ⟨a, vs, rfl, sq, l⟩ := (hv.mono g2).lis R2 ed
  refine ⟨n, rfl, a, vs, rfl, sq, fun p hp => ?_⟩
  have g := grow_new (o := .lst (cutV vs none (some n))) R2 hp
  exact k _ S2 A2 _ _ ((g1.trans g2).trans g) (R2.new hp) (.lst (R2.fresh hp) upd_same ((l.cut _ _).mono g)) q2
/-! ### a list times a number -/
def oRepL : OD := fun x y S Q => match y with
  | .int k => ∃ ds, itemsD S x = some ds ∧ 0 ≤ k ∧ k < 2 ^ 62 ∧ ds.length * k.toNat ≤ sizeLine ∧ Q (.lst (List.replicate k.toNat ds).flatten) S
  | _ => False
theorem IsL.rep {mg : MG} {A : List Addr} {H : Hp} {vs : List V} {ds : List D} (l : IsL mg A H vs ds) : ∀ n : Nat, IsL mg A H (List.replicate n vs).flatten (List.replicate n ds).flatten
  | 0 => .nil
  | n + 1 => by
    rw [List.replicate_succ, List.replicate_succ, List.flatten_cons, List.flatten_cons]
    exact l.append (IsL.rep l n)
theorem snd_repL {mg : MG} : SndR mg rRep oRepL := by
  intro A S H x y dx dy Q Q' R hx hy q k
  cases hy <;> first | exact q.elim | skip
  rename_i n
  obtain ⟨ds, h1, h2, h3, hz, q⟩ := q
  obtain ⟨a, vs, rfl, e1, l1⟩ := hx.items R h1
  refine ⟨a, n, vs, rfl, rfl, e1, by omega, by omega, by rw [l1.length]; exact hz, fun p hp => ?_⟩
  have g := grow_new (o := .lst (List.replicate n.toNat vs).flatten) R hp
  exact k _ S A _ _ g (R.new hp) (.lst (R.fresh hp) upd_same ((l1.rep n.toNat).mono g)) q
end DL

set_option Elab.async false
set_option linter.all false
/-! A loop with what its turns need kept aside. -/
namespace DL
open PySem PySem.Spec PyProof.Rows L2
theorem whileG {c : WB} {b : WS} {DD : DEnds} {ρ : DEnv} {S : MS} (W : Nat → DEnv → MS → Prop) (h0 : ∃ m, W m ρ S)
    (h : ∀ m ρ S nx, W m ρ S → (∀ m' ρ' S', m' < m → W m' ρ' S' → nx ρ' S') → c ρ S fun bl S1 => if bl = true then b { DD with nx := nx, ct := nx, bk := DD.nx } ρ S1 else DD.nx ρ S1) : sWhile c b DD ρ S :=
  ⟨W, h0, fun m ρ S w => h m ρ S _ w fun m' ρ' S' l w' => ⟨m', l, w'⟩⟩
end DL

set_option Elab.async false
set_option linter.all false
set_option maxRecDepth 100000
/-! Lists made in a piece of the text and left as they are become data that never changes: the store behind is as before. -/
namespace DL
open PySem PySem.Spec PyProof.Rows L2
mutual
/-- data that names the first n lists that may change alone -/
inductive Lo (n : Nat) : D → Prop where
  | non : Lo n .non
  | bl (b : Bool) : Lo n (.bl b)
  | int (i : Int) : Lo n (.int i)
  | str (x : Str) : Lo n (.str x)
  | ty (x : String) : Lo n (.ty x)
  | cls (c : Str) : Lo n (.cls c)
  | tup {ds : List D} (h : LoL n ds) : Lo n (.tup ds)
  | tpk {ds : List D} (h : LoL n ds) : Lo n (.tpk ds)
  | lst {ds : List D} (h : LoL n ds) : Lo n (.lst ds)
  | scr {ds : List D} (h : LoL n ds) : Lo n (.scr ds)
  | ins {c : Str} {fs : List (Str × D)} (h : LoF n fs) : Lo n (.ins c fs)
  | mut {i : Nat} (h : i < n) : Lo n (.mut i)
  | obj (a : Addr) : Lo n (.obj a)
  | dct {ks : List (Key × D)} (h : LoK n ks) : Lo n (.dct ks)
  | exc {a d : Addr} {fs : List (Str × D)} (h : LoF n fs) : Lo n (.exc a d fs)
  | err {c : Str} {fs : List (Str × D)} (h : LoF n fs) : Lo n (.err c fs)
inductive LoL (n : Nat) : List D → Prop where
  | nil : LoL n []
  | cons {d : D} {ds : List D} (h : Lo n d) (t : LoL n ds) : LoL n (d :: ds)
inductive LoF (n : Nat) : List (Str × D) → Prop where
  | nil : LoF n []
  | cons {f : Str} {d : D} {ds : List (Str × D)} (h : Lo n d) (t : LoF n ds) : LoF n ((f, d) :: ds)
inductive LoK (n : Nat) : List (Key × D) → Prop where
  | nil : LoK n []
  | cons {f : Key} {d : D} {ds : List (Key × D)} (h : Lo n d) (t : LoK n ds) : LoK n ((f, d) :: ds)
end
section
variable {mg : MG} {A A' : List Addr} {S : MS} {H : Hp} {n : Nat}
theorem lt_of_at {i : Nat} {a : Addr} (e : A[i]? = some a) : i < A.length := (List.getElem?_eq_some_iff.mp e).1
mutual
theorem Is.lo : ∀ {v : V} {d : D}, Is mg A H v d → Lo A.length d
  | _, _, .non => .non
  | _, _, .bl b => .bl b
  | _, _, .int i => .int i
  | _, _, .str x => .str x
  | _, _, .ty n => .ty n
  | _, _, .cls _ => .cls _
  | _, _, .tup _ _ l => .tup (IsL.lo l)
  | _, _, .tupK _ l => .tpk (IsL.lo l)
  | _, _, .lst _ _ l => .lst (IsL.lo l)
  | _, _, .scr _ _ l => .scr (IsL.lo l)
  | _, _, .scrK _ l => .scr (IsL.lo l)
  | _, _, .ins _ _ _ l => .ins (IsF.lo l)
  | _, _, .mut e => .mut (lt_of_at e)
  | _, _, .obj a => .obj a
  | _, _, .dct _ _ l => .dct (IsK.lo l)
  | _, _, .exc _ _ l => .exc (IsF.lo l)
  | _, _, .err _ _ _ _ _ l => .err (IsF.lo l)
  | _, _, .err0 _ _ _ => .err .nil
theorem IsL.lo : ∀ {vs : List V} {ds : List D}, IsL mg A H vs ds → LoL A.length ds
  | _, _, .nil => .nil
  | _, _, .cons h t => .cons (Is.lo h) (IsL.lo t)
theorem IsF.lo : ∀ {fs : List (Str × V)} {fds : List (Str × D)}, IsF mg A H fs fds → LoF A.length fds
  | _, _, .nil => .nil
  | _, _, .cons h t => .cons (Is.lo h) (IsF.lo t)
theorem IsK.lo : ∀ {fs : List (Key × V)} {fds : List (Key × D)}, IsK mg A H fs fds → LoK A.length fds
  | _, _, .nil => .nil
  | _, _, .cons h t => .cons (Is.lo h) (IsK.lo t)
end
/-- fewer lists that may change -/
structure Less (A A' : List Addr) (n : Nat) : Prop where
  sub : ∀ a, a ∈ A → a ∈ A'
  at_ : ∀ i a, i < n → A'[i]? = some a → A[i]? = some a
mutual
theorem Is.less (g : Less A A' n) : ∀ {v : V} {d : D}, Is mg A' H v d → Lo n d → Is mg A H v d
  | _, _, .non, _ => .non
  | _, _, .bl b, _ => .bl b
  | _, _, .int i, _ => .int i
  | _, _, .str x, _ => .str x
  | _, _, .ty n, _ => .ty n
  | _, _, .cls e, _ => .cls e
  | _, _, .tup m r l, .tup h => .tup (fun z => m (g.sub _ z)) r (IsL.less g l h)
  | _, _, .tupK r l, .tpk h => .tupK r (IsL.less g l h)
  | _, _, .lst m r l, .lst h => .lst (fun z => m (g.sub _ z)) r (IsL.less g l h)
  | _, _, .scr m r l, .scr h => .scr (fun z => m (g.sub _ z)) r (IsL.less g l h)
  | _, _, .scrK r l, .scr h => .scrK r (IsL.less g l h)
  | _, _, .ins m e r l, .ins h => .ins (fun z => m (g.sub _ z)) e r (IsF.less g l h)
  | _, _, .mut e, .mut h => .mut (g.at_ _ _ h e)
  | _, _, .obj a, _ => .obj a
  | _, _, .dct m r l, .dct h => .dct (fun z => m (g.sub _ z)) r (IsK.less g l h)
  | _, _, .exc m r l, .exc h => .exc (fun z => m (g.sub _ z)) r (IsF.less g l h)
  | _, _, .err m nd e ra rd l, .err h => .err (fun z => m (g.sub _ z)) (fun z => nd (g.sub _ z)) e ra rd (IsF.less g l h)
  | _, _, .err0 m e ra, _ => .err0 (fun z => m (g.sub _ z)) e ra
theorem IsL.less (g : Less A A' n) : ∀ {vs : List V} {ds : List D}, IsL mg A' H vs ds → LoL n ds → IsL mg A H vs ds
  | _, _, .nil, _ => .nil
  | _, _, .cons h t, .cons q r => .cons (Is.less g h q) (IsL.less g t r)
theorem IsF.less (g : Less A A' n) : ∀ {fs : List (Str × V)} {fds : List (Str × D)}, IsF mg A' H fs fds → LoF n fds → IsF mg A H fs fds
  | _, _, .nil, _ => .nil
  | _, _, .cons h t, .cons q r => .cons (Is.less g h q) (IsF.less g t r)
theorem IsK.less (g : Less A A' n) : ∀ {fs : List (Key × V)} {fds : List (Key × D)}, IsK mg A' H fs fds → LoK n fds → IsK mg A H fs fds
  | _, _, .nil, _ => .nil
  | _, _, .cons h t, .cons q r => .cons (Is.less g h q) (IsK.less g t r)
end
/-- an object that names the first n alone -/
def LoM (n : Nat) : MO → Prop
  | .l ds => LoL n ds
  | .d ks => LoK n ks
  | .i _ fs => LoF n fs
theorem MoIs.lo {a : Addr} : ∀ {o : MO}, MoIs mg A H a o → LoM A.length o
  | .l _, ⟨_, _, l⟩ => l.lo
  | .d _, ⟨_, _, l⟩ => l.lo
  | .i _ _, ⟨_, _, _, _, _, l⟩ => l.lo
theorem MoIs.less {a : Addr} (g : Less A A' n) : ∀ {o : MO}, MoIs mg A' H a o → LoM n o → MoIs mg A H a o
  | .l _, ⟨vs, h, l⟩, q => ⟨vs, h, l.less g q⟩
  | .d _, ⟨vs, h, l⟩, q => ⟨vs, h, l.less g q⟩
  | .i _ _, ⟨C, dx, fs, e, h, l⟩, q => ⟨C, dx, fs, e, h, l.less g q⟩
theorem Rep.lo {i : Nat} {o : MO} (R : Rep mg A S H) (e : S[i]? = some o) : LoM S.length o := by
  obtain ⟨a, ha⟩ := R.addr e
  rw [← R.len]
  exact (R.at_ i a o ha e).lo
theorem EnvD.lo {σ : L2.St} {ρ : DEnv} {i : Nat} {d : D} (R : Rep mg A S H) (E : EnvD mg A H σ ρ) (e : ρ[i]? = some (some d)) : Lo S.length d := by
  obtain ⟨v, _, h⟩ := E.at_ i d e
  rw [← R.len]
  exact h.lo
end
/-- what is left of an object that changes no more -/
def frz : MO → D
  | .l ds => .lst ds
  | .d ks => .dct ks
  | .i c fs => .ins c fs
/-- an end that takes what is new out of the store: told as it is, or as a list that never changes -/
def Fz (S : MS) (Q : D → MS → Prop) : D → MS → Prop := fun x S' => ∃ S1 E, S' = S1 ++ E ∧ S1.length = S.length ∧ (∀ (i : Nat) (o : MO), S1[i]? = some o → S[i]? = some o ∨ LoM S.length o) ∧
  ((Lo S.length x ∧ Q x S1) ∨ ∃ k o, x = .mut k ∧ S.length ≤ k ∧ S'[k]? = some o ∧ LoM S.length o ∧ Q (frz o) S1)
theorem Fz.keep {S : MS} {Q : D → MS → Prop} {x : D} {E : MS} (h : Lo S.length x) (q : Q x S) : Fz S Q x (S ++ E) := ⟨S, E, rfl, rfl, fun _ _ z => .inl z, .inl ⟨h, q⟩⟩
theorem Fz.keep0 {S : MS} {Q : D → MS → Prop} {x : D} (h : Lo S.length x) (q : Q x S) : Fz S Q x S := ⟨S, [], by simp, rfl, fun _ _ z => .inl z, .inl ⟨h, q⟩⟩
theorem Fz.list {S : MS} {Q : D → MS → Prop} {acc : List D} {E : MS} (h : LoL S.length acc) (q : Q (.lst acc) S) : Fz S Q (.mut S.length) (S ++ .l acc :: E) :=
  ⟨S, _, rfl, rfl, fun _ _ z => .inl z, .inr ⟨_, .l acc, rfl, Nat.le_refl _, by simp, h, q⟩⟩
theorem Fz.dict {S : MS} {Q : D → MS → Prop} {acc : List (Key × D)} {E : MS} (h : LoK S.length acc) (q : Q (.dct acc) S) : Fz S Q (.mut S.length) (S ++ .d acc :: E) :=
  ⟨S, _, rfl, rfl, fun _ _ z => .inl z, .inr ⟨_, .d acc, rfl, Nat.le_refl _, by simp, h, q⟩⟩
section
variable {mg : MG} {A A' : List Addr} {S S' : MS} {H H' : Hp}
theorem less_of {n : Nat} (g : Grow A A' H H') (e : A.length = n) : Less A A' n := by
  refine ⟨fun a ha => ?_, fun i a hi ea => ?_⟩
  · obtain ⟨i, hi⟩ := List.getElem?_of_mem ha
    exact List.mem_of_getElem? (g.pre i a hi)
  · have hA : i < A.length := by omega
    have e2 := g.pre i _ (List.getElem?_eq_getElem hA)
    rw [ea] at e2
    cases e2
    exact List.getElem?_eq_getElem hA
theorem grow_less (g : Grow A A' H H') : Grow A A H H' := ⟨fun _ _ e => e, fun b o n e => ⟨(g.keep b o n e).1, n⟩⟩
theorem rep_less {S1 E : MS} (g : Grow A A' H H') (R : Rep mg A S H) (R' : Rep mg A' (S1 ++ E) H') (hl : S1.length = S.length) (hS : ∀ (i : Nat) (o : MO), S1[i]? = some o → S[i]? = some o ∨ LoM S.length o) : Rep mg A S1 H' := by
  refine ⟨R.len.trans hl.symm, R.nd, fun i a o e1 e2 => ?_⟩
  have hi := (List.getElem?_eq_some_iff.mp e2).1
  exact (R'.at_ i a o (g.pre i a e1) (by rw [List.getElem?_append_left hi]; exact e2)).less (less_of g R.len) ((hS i o e2).elim R.lo id)
theorem end_fz {Q : VK} {Q' : D → MS → Prop} (R : Rep mg A S H) (k : EndV mg A H Q Q') : EndV mg A H Q (Fz S Q') := by
  rintro d S' A' v H' g R' hv ⟨S1, E, rfl, hl, hS, q⟩
  have ls := less_of g R.len
  have R2 := rep_less g R R' hl hS
  rcases q with ⟨lo, q⟩ | ⟨i, acc, rfl, hi, e, lo, q⟩
  · exact k d S1 A v H' (grow_less g) R2 (hv.less ls lo) q
  · cases hv with
    | @«mut» a _ ea =>
      have na : a ∉ A := fun z => by
        obtain ⟨j, hj⟩ := List.getElem?_of_mem z
        have e2 := g.pre j a hj
        have : j = i := (List.getElem?_inj (List.getElem?_eq_some_iff.mp e2).1 R'.nd).mp (e2.trans ea.symm)
        have := lt_of_at hj
        have := R.len
        omega
      refine k (frz acc) S1 A _ H' (grow_less g) R2 ?_ q
      match acc, R'.at_ i a acc ea e, lo with
      | .l _, ⟨vs, h1, l⟩, lo => exact .lst na h1 (l.less ls lo)
      | .d _, ⟨vs, h1, l⟩, lo => exact .dct na (.inl h1) (l.less ls lo)
      | .i _ _, ⟨C, dx, fs, eC, h1, l⟩, lo => exact .ins na eC h1 (l.less ls lo)
end
/-- an expression, its new list taken out of the store -/
def wFz (w : WD) : WD := fun ρ S Q => w ρ S (Fz S Q)
theorem d_fz {X : Cx} {e : Expr} {t : TE} {w : WD} (h : PD X e t w) : PD X e t (wFz w) := ⟨h.pe, fun A S σ H ρ Q Q' R E q k => h.sd A S σ H ρ _ _ R E q (end_fz R k)⟩
/-- a def, what is new in the store taken out at its end -/
theorem spW_fz {mg : MG} {n : Nat} {w : WF} {vs : List V} {H : Hp} {Q : VK} {E : XK} (h : spW mg n w vs H Q E) : spW mg n (fun ds S Q => w ds S Q) vs H Q E := h
section
variable {P : Program} {w : World} {K : PySem.W.Frag} {mg : Str → Option Value} {base : Heap}
theorem fnDF {x qual : Str} {st : Stmt} {f : Addr} {fd : FuncData} {N ps : List Str} {k : Nat} {wf : WF} {ws : WS} (F : Fun K x qual st f fd) (S : FnScope N ps (defScope st))
    (hb : ∀ (cdv : Value) (A : Around) (outer : List Env) (s : Shared) (H : Hp) (E : XK), Room k (A.deeper (envOfC qual (defScope st) s.heap.objs.size f cdv)) →
      ∃ t, PDSs (cxOf CX0 P w K mg base N qual (defScope st) f cdv A outer s H E).nox (defBody st) t ws)
    (hw : ∀ ds S Q, ds.length = ps.length → LoL S.length ds → wf ds S Q → ws { nx := fun _ S' => Fz S Q .non S', rt := Fz S Q } (startD N ds) S) : FnOk P w K mg base CX0 (k + 1) f fd ps (spW ⟨K, mg⟩ ps.length wf) := by
  refine F.ok S (fun vs H Q E h => h.len) fun cdv A outer s H vs Q E hr h => ?_
  obtain ⟨t, hp⟩ := hb cdv A outer s H E hr
  obtain ⟨A', S', ds, Q', R, l, e, q, k⟩ := h
  have kf := end_fz R k
  refine ⟨t, hp.pe, hp.sd A' S' (L2.start N vs) H (startD N ds) _ _ R (env_start l) (hw ds S' Q' e (by rw [← R.len]; exact l.lo) q) ⟨fun ρ1 S1 A1 σ1 H1 g1 R1 E1 q1 => kf _ S1 A1 .non H1 g1 R1 .non q1, kf, ?_, ?_⟩⟩
  · intro ρ1 S1 A1 σ1 H1 g1 R1 E1 q1
    exact q1.elim
  · intro ρ1 S1 A1 σ1 H1 g1 R1 E1 q1
    exact q1.elim
theorem fnDGF {x qual : Str} {st : Stmt} {f : Addr} {fd : FuncData} {N ps : List Str} {k : Nat} {wf : WF} {ws : WS} (F : Fun K x qual st f fd) (S : FnScope N ps (defScope st))
    (hb : ∀ (cdv : Value) (A : Around) (outer : List Env) (s : Shared) (H : Hp), Room k (A.deeper (envOfC qual (defScope st) s.heap.objs.size f cdv)) → A.guards = some [] →
      ∃ t, PDSs (cxOf CX0 P w K mg base N qual (defScope st) f cdv A outer s H E0).nox (defBody st) t ws)
    (hw : ∀ ds S Q, ds.length = ps.length → LoL S.length ds → wf ds S Q → ws { nx := fun _ S' => Fz S Q .non S', rt := Fz S Q } (startD N ds) S) : FnG P w K mg base (k + 1) f fd ps (spW ⟨K, mg⟩ ps.length wf) := by
  refine fnG F S (fun vs H Q h => h.len) fun cdv A outer s H vs Q hr hg h => ?_
  obtain ⟨t, hp⟩ := hb cdv A outer s H hr hg
  obtain ⟨A', S', ds, Q', R, l, e, q, kk⟩ := h
  have kf := end_fz R kk
  refine ⟨t, hp.pe, hp.sd A' S' (L2.start N vs) H (startD N ds) _ _ R (env_start l) (hw ds S' Q' e (by rw [← R.len]; exact l.lo) q) ⟨fun ρ1 S1 A1 σ1 H1 g1 R1 E1 q1 => kf _ S1 A1 .non H1 g1 R1 .non q1, kf, ?_, ?_⟩⟩
  · intro ρ1 S1 A1 σ1 H1 g1 R1 E1 q1; exact q1.elim
  · intro ρ1 S1 A1 σ1 H1 g1 R1 E1 q1; exact q1.elim
end
/-! ### repr of data with lists that may change inside -/
mutual
def datX (S : MS) : D → Option PyData
  | .non => some .none
  | .bl b => some (.bool b)
  | .int i => some (.int i)
  | .str x => some (.str x)
  | .tup ds => (datXL S ds).map .tuple
  | .lst ds => (datXL S ds).map .list
  | .mut m => match S[m]? with | some (.l ds) => (datL S ds).map .list | _ => none
  | _ => none
def datXL (S : MS) : List D → Option (List PyData)
  | [] => some []
  | d :: ds => match datX S d, datXL S ds with
    | some a, some l => some (a :: l)
    | _, _ => none
end
section
variable {mg : MG} {A : List Addr} {S : MS} {H : Hp} {K : PySem.W.Frag}
mutual
theorem Is.dpX (R : Rep mg A S H) : ∀ {v : V} {d : D} {p : PyData}, Is mg A H v d → datX S d = some p → Dp K H v p
  | _, _, _, .non, e => by cases e; exact .non
  | _, _, _, .bl b, e => by cases e; exact .bl b
  | _, _, _, .int i, e => by cases e; exact .int i
  | _, _, _, .str x, e => by cases e; exact .str x
  | _, _, _, .ty n, e => by cases e
  | _, _, _, .cls _, e => by cases e
  | _, _, p, .tup n r l, e => by
    rw [datX] at e
    cases q : datXL S _ with
    | none => rw [q] at e; cases e
    | some ps => rw [q] at e; cases e; exact .tup (.inl r) (IsL.dpX R l q)
  | _, _, _, .tupK _ _, e => by cases e
  | _, _, p, .lst n r l, e => by
    rw [datX] at e
    cases q : datXL S _ with
    | none => rw [q] at e; cases e
    | some ps => rw [q] at e; cases e; exact .lst (.of r) (IsL.dpX R l q)
  | _, _, p, .scr n r l, e => by cases e
  | _, _, p, .scrK r l, e => by cases e
  | _, _, _, .ins _ _ _ _, e => by cases e
  | _, _, p, .mut ea, e => Is.dpM R (.mut ea) e
  | _, _, _, .obj _, e => by cases e
  | _, _, _, .dct _ _ _, e => by cases e
  | _, _, _, .exc _ _ _, e => by cases e
  | _, _, _, .err _ _ _ _ _ _, e => by cases e
  | _, _, _, .err0 _ _ _, e => by cases e
theorem IsL.dpX (R : Rep mg A S H) : ∀ {vs : List V} {ds : List D} {ps : List PyData}, IsL mg A H vs ds → datXL S ds = some ps → DpAll K H vs ps
  | _, _, _, .nil, e => by cases e; exact .nil
  | _, _, _, .cons h t, e => by
    rw [datXL] at e
    split at e
    · rename_i a l h1 h2
      cases e
      exact .cons (Is.dpX R h h1) (IsL.dpX R t h2)
    · cases e
end
end
def oReprX : LD := fun ds S Q => match ds with
  | [x] => ∃ d, datX S x = some d ∧ Shows d ∧ Q (.str d.shown) S
  | _ => False
theorem snd_reprX {mg : MG} {K : PySem.W.Frag} : SndC mg (rReprD K) oReprX := by
  intro A S H xs ds Q Q' R l q k
  match ds, q, l with
  | [x], ⟨d, h1, h2, q⟩, l =>
    obtain ⟨v, rfl, hv⟩ := l.one
    exact ⟨v, d, rfl, hv.dpX R h1, h2, k _ S A _ H .refl R (.str _) q⟩
/-! ### lists of data without parts, compared with themselves -/
def Leafs (ds : List D) : Prop := ∀ d ∈ ds, ∃ p, (∀ S, dat S d = some p) ∧ PyData.canLay0 p = true ∧ PyData.depth p = 0
theorem leafs_dat : ∀ {ds : List D}, Leafs ds → ∃ ps, (∀ S, datL S ds = some ps) ∧ PyData.canLayAll0 ps = true ∧ PyData.depthAll ps = 0
  | [], _ => ⟨[], fun _ => rfl, rfl, rfl⟩
  | d :: ds, h => by
    obtain ⟨p, h1, h2, h3⟩ := h d List.mem_cons_self
    obtain ⟨ps, g1, g2, g3⟩ := leafs_dat (ds := ds) fun e he => h e (List.mem_cons_of_mem _ he)
    refine ⟨p :: ps, fun S => ?_, ?_, ?_⟩
    · show (match dat S d, datL S ds with
        | some a, some l => some (a :: l)
        | _, _ => none) = _
      rw [h1 S, g1 S]
    · show (PyData.canLay0 p && PyData.canLayAll0 ps) = true
      rw [h2, g2]
      rfl
    · show max (PyData.depth p) (PyData.depthAll ps) = 0
      rw [h3, g3]
      rfl
theorem leafs_shaped {ds : List D} (h : Leafs ds) : ∃ p, (∀ S, datM S (.lst ds) = some p) ∧ SeqAt.shaped p = true ∧ PyData.eqv p p = true := by
  obtain ⟨ps, g1, g2, g3⟩ := leafs_dat h
  have c : PyData.canLay0 (.list ps) = true := g2
  refine ⟨.list ps, fun S => ?_, ?_, PySem.SeqAt.eqv_refl _ c⟩
  · show (datL S ds).map PyData.list = _
    rw [g1 S]
    rfl
  · unfold SeqAt.shaped
    have d : PyData.depth (.list ps) ≤ 64 := by
      show PyData.depthAll ps + 1 ≤ 64
      rw [g3]
      decide
    rw [c, decide_eq_true d]
    rfl
theorem ne_same {S : MS} {ds : List D} {Q : D → MS → Prop} (h : Leafs ds) (q : Q (.bl false) S) : oNeD (.lst ds) (.lst ds) S Q := by
  obtain ⟨p, h1, h2, h3⟩ := leafs_shaped h
  refine ⟨p, p, h1 S, h1 S, h2, h2, ?_⟩
  rw [h3]
  exact q
theorem eq_same {S : MS} {ds : List D} {Q : D → MS → Prop} (h : Leafs ds) (q : Q (.bl true) S) : oEqD (.lst ds) (.lst ds) S Q := by
  obtain ⟨p, h1, h2, h3⟩ := leafs_shaped h
  refine ⟨p, p, h1 S, h1 S, h2, h2, ?_⟩
  rw [h3]
  exact q
theorem leafs_bl {α : Type} {f : α → Bool} {xs : List α} : Leafs (xs.map fun x => .bl (f x)) := fun d hd => by
  obtain ⟨x, _, rfl⟩ := List.mem_map.mp hd
  exact ⟨.bool (f x), fun _ => rfl, rfl, rfl⟩
theorem leafs_int {α : Type} {f : α → Int} {xs : List α} : Leafs (xs.map fun x => .int (f x)) := fun d hd => by
  obtain ⟨x, _, rfl⟩ := List.mem_map.mp hd
  exact ⟨.int (f x), fun _ => rfl, rfl, rfl⟩
theorem leafs_str {xs : List Str} (h : ∀ x ∈ xs, PyData.strOk x = true) : Leafs (xs.map D.str) := fun d hd => by
  obtain ⟨x, hx, rfl⟩ := List.mem_map.mp hd
  exact ⟨.str x, fun _ => rfl, h x hx, rfl⟩
/-- a comprehension of which each turn gives one value and leaves the store -/
theorem lcO_all {α : Type} {S : MS} {ok : MS → Prop} {step : D → MS → (MS → Prop) → Prop} {Q : D → MS → Prop} (g f : α → D) (xs : List α) (hok : ∀ acc, ok (S ++ [.l acc])) (hl : xs.length ≤ sizeLine) (lo : LoL S.length (xs.map f))
    (hs : ∀ x ∈ xs, ∀ acc k, acc.length < sizeLine → k (S ++ [.l (acc ++ [f x])]) → step (g x) (S ++ [.l acc]) k) (q : Q (.lst (xs.map f)) S) : lcO ok (xs.map g) step (fun S' => Fz S Q (.mut S.length) S') (S ++ [.l []]) := by
  have gen : ∀ (ys : List α) (acc : List D), acc ++ ys.map f = xs.map f → (∀ y ∈ ys, y ∈ xs) → lcO ok (ys.map g) step (fun S' => Fz S Q (.mut S.length) S') (S ++ [.l acc]) := by
    intro ys
    induction ys with
    | nil =>
      intro acc e _
      rw [List.map_nil, List.append_nil] at e
      subst e
      exact ⟨hok _, Fz.list lo q⟩
    | cons y ys ih =>
      intro acc e hy
      have len := congrArg List.length e
      simp only [List.length_append, List.length_map, List.length_cons] at len
      refine ⟨hok _, hs y (hy y List.mem_cons_self) acc _ (by omega) (ih _ ?_ fun z hz => hy z (List.mem_cons_of_mem _ hz))⟩
      rw [List.append_assoc]
      exact e
  exact gen xs [] (List.nil_append _) fun _ h => h
/-- each turn gives one value or none -/
theorem lcO_some {α : Type} {S : MS} {ok : MS → Prop} {step : D → MS → (MS → Prop) → Prop} {Q : D → MS → Prop} (g : α → D) (r : α → Option D) (xs : List α) (hok : ∀ acc, ok (S ++ [.l acc])) (hl : xs.length ≤ sizeLine) (lo : LoL S.length (xs.filterMap r))
    (hs : ∀ x ∈ xs, ∀ acc k, acc.length < sizeLine → k (S ++ [.l (acc ++ (r x).toList)]) → step (g x) (S ++ [.l acc]) k) (q : Q (.lst (xs.filterMap r)) S) : lcO ok (xs.map g) step (fun S' => Fz S Q (.mut S.length) S') (S ++ [.l []]) := by
  have gen : ∀ (ys : List α) (acc : List D), acc ++ ys.filterMap r = xs.filterMap r → acc.length + ys.length ≤ xs.length → (∀ y ∈ ys, y ∈ xs) → lcO ok (ys.map g) step (fun S' => Fz S Q (.mut S.length) S') (S ++ [.l acc]) := by
    intro ys
    induction ys with
    | nil =>
      intro acc e _ _
      rw [List.filterMap_nil, List.append_nil] at e
      subst e
      exact ⟨hok _, Fz.list lo q⟩
    | cons y ys ih =>
      intro acc e len hy
      simp only [List.length_cons] at len
      refine ⟨hok _, hs y (hy y List.mem_cons_self) acc _ (by omega) (ih _ ?_ ?_ fun z hz => hy z (List.mem_cons_of_mem _ hz))⟩
      · rw [← e, List.filterMap_cons, List.append_assoc]
        cases r y <;> rfl
      · cases r y <;> simp <;> omega
  exact gen xs [] (List.nil_append _) (by simp) fun _ h => h
theorem at_acc {S : MS} {o : MO} : (S ++ [o])[S.length]? = some o := by simp
theorem set_acc {S : MS} {o u : MO} : (S ++ [o]).set S.length u = S ++ [u] := by simp
theorem acc_end {S : MS} {acc : List D} {y : D} {k : MS → Prop} (h : acc.length < sizeLine) (q : k (S ++ [.l (acc ++ [y])])) : ∃ acc', (S ++ [MO.l acc])[S.length]? = some (.l acc') ∧ acc'.length < sizeLine ∧ k ((S ++ [MO.l acc]).set S.length (.l (acc' ++ [y]))) :=
  ⟨acc, at_acc, h, by rw [set_acc]; exact q⟩
/-- a dict made turn by turn -/
theorem dcO_all {α : Type} {S : MS} {ok : MS → Prop} {step : D → MS → (MS → Prop) → Prop} {Q : D → MS → Prop} (g : α → D) (f : List (Key × D) → α → List (Key × D)) (xs : List α) (hok : ∀ acc, ok (S ++ [.d acc])) (hl : xs.length ≤ sizeLine) (hf : ∀ acc x, (f acc x).length ≤ acc.length + 1) (lo : LoK S.length (xs.foldl f []))
    (hs : ∀ x ∈ xs, ∀ acc k, acc.length < sizeLine → k (S ++ [.d (f acc x)]) → step (g x) (S ++ [.d acc]) k) (q : Q (.dct (xs.foldl f [])) S) : lcO ok (xs.map g) step (fun S' => Fz S Q (.mut S.length) S') (S ++ [.d []]) := by
  have gen : ∀ (ys : List α) (acc : List (Key × D)), ys.foldl f acc = xs.foldl f [] → acc.length + ys.length ≤ xs.length → (∀ y ∈ ys, y ∈ xs) → lcO ok (ys.map g) step (fun S' => Fz S Q (.mut S.length) S') (S ++ [.d acc]) := by
    intro ys
    induction ys with
    | nil =>
      intro acc e _ _
      rw [List.foldl_nil] at e
      subst e
      exact ⟨hok _, Fz.dict lo q⟩
    | cons y ys ih =>
      intro acc e len hy
      simp only [List.length_cons] at len
      have := hf acc y
      exact ⟨hok _, hs y (hy y List.mem_cons_self) acc _ (by omega) (ih _ e (by omega) fun z hz => hy z (List.mem_cons_of_mem _ hz))⟩
  exact gen xs [] rfl (by simp) fun _ h => h
theorem putD_len (kvs : List (Key × D)) (k : Key) (v : D) : (putD kvs k v).length ≤ kvs.length + 1 := by
  unfold putD
  split
  · rw [List.length_map]; omega
  · simp
theorem dct_end {S : MS} {acc : List (Key × D)} {x : D} {key : Key} {y : D} {k : MS → Prop} (hx : x = keyD key) (h : acc.length < sizeLine) (q : k (S ++ [.d (putD acc key y)])) : ∃ kvs key', x = keyD key' ∧ (S ++ [MO.d acc])[S.length]? = some (.d kvs) ∧ kvs.length < sizeLine ∧ k ((S ++ [MO.d acc]).set S.length (.d (putD kvs key' y))) :=
  ⟨acc, key, hx, at_acc, h, by rw [set_acc]; exact q⟩
theorem loL_of {n : Nat} {ds : List D} (h : ∀ d ∈ ds, Lo n d) : LoL n ds := by
  induction ds with
  | nil => exact .nil
  | cons d ds ih => exact .cons (h d List.mem_cons_self) (ih fun e he => h e (List.mem_cons_of_mem _ he))
theorem loL_bl {n : Nat} {α : Type} {f : α → Bool} {xs : List α} : LoL n (xs.map fun x => .bl (f x)) := loL_of fun d hd => by
  obtain ⟨x, _, rfl⟩ := List.mem_map.mp hd
  exact .bl _
theorem loL_int {n : Nat} {α : Type} {f : α → Int} {xs : List α} : LoL n (xs.map fun x => .int (f x)) := loL_of fun d hd => by
  obtain ⟨x, _, rfl⟩ := List.mem_map.mp hd
  exact .int _
theorem loL_str {n : Nat} {α : Type} {f : α → Str} {xs : List α} : LoL n (xs.map fun x => .str (f x)) := loL_of fun d hd => by
  obtain ⟨x, _, rfl⟩ := List.mem_map.mp hd
  exact .str _
theorem rangeD_map (n : Nat) : rangeD 0 n = (List.range n).map fun i : Nat => D.int (0 + i) := rfl
theorem ifF {c : Prop} [Decidable c] {A B : Prop} (h : ¬ c) (b : B) : if decide c = true then A else B := by
  rw [decide_eq_false h]
  exact b
theorem ifT {c : Prop} [Decidable c] {A B : Prop} (h : c) (a : A) : if decide c = true then A else B := by
  rw [decide_eq_true h]
  exact a
end DL

set_option Elab.async false
set_option linter.all false
set_option maxRecDepth 100000
/-! Dicts by data: read, asked, stored, walked, sorted by their keys. -/
namespace DL
open PySem PySem.Spec PyProof.Rows L2
/-- what a dict holds now -/
def dctAt (S : MS) : D → Option (List (Key × D))
  | .dct ks => some ks
  | .mut m => match S[m]? with
    | some (.d ks) => some ks
    | _ => none
  | _ => none
theorem dctAt_mut {S : MS} {m : Nat} {ks : List (Key × D)} (h : S[m]? = some (.d ks)) : dctAt S (.mut m) = some ks := by
  show (match S[m]? with
    | some (.d ks) => some ks
    | _ => none) = _
  rw [h]
def valD (kds : List (Key × D)) (k : Key) : Option D := (kds.find? fun kv => decide (kv.1 = k)).map (·.2)
section
variable {mg : MG} {A A' : List Addr} {S : MS} {H H' : Hp}
theorem IsK.val {k : Key} : ∀ {as : List (Key × V)} {cs : List (Key × D)}, IsK mg A H as cs → (∀ d, valD cs k = some d → ∃ v, valV as k = some v ∧ Is mg A H v d) ∧ (valD cs k = none → valV as k = none)
  | _, _, .nil => ⟨fun d h => by simp [valD] at h, fun _ => rfl⟩
  | _, _, .cons (f := f) (v := v) (d := d0) (fs := as) (fds := cs) h0 t => by
    obtain ⟨i1, i2⟩ := IsK.val (k := k) t
    by_cases e : f = k
    · have e1 : valD ((f, d0) :: cs) k = some d0 := by simp [valD, e]
      have e2 : valV ((f, v) :: as) k = some v := by simp [valV, e]
      exact ⟨fun d h => by rw [e1] at h; cases h; exact ⟨v, e2, h0⟩, fun h => by rw [e1] at h; cases h⟩
    · have e1 : valD ((f, d0) :: cs) k = valD cs k := by simp [valD, e]
      have e2 : valV ((f, v) :: as) k = valV as k := by simp [valV, e]
      rw [e1, e2]
      exact ⟨i1, i2⟩
theorem IsK.some {k : Key} {as : List (Key × V)} {cs : List (Key × D)} (l : IsK mg A H as cs) : (valV as k).isSome = (valD cs k).isSome := by
  cases h : valD cs k with
  | none => rw [l.val.2 h]; rfl
  | some d =>
    obtain ⟨v, e, _⟩ := l.val.1 d h
    rw [e]; rfl
theorem Is.dict {v : V} {d : D} {kds : List (Key × D)} (R : Rep mg A S H) (h : Is mg A H v d) (e : dctAt S d = some kds) : ∃ a kvs, v = .ref a ∧ Rd H a (.dK kvs) ∧ IsK mg A H kvs kds := by
  cases h with
  | @dct a kvs _ n r l => cases e; exact ⟨a, kvs, rfl, r, l⟩
  | @«mut» a m ea =>
    unfold dctAt at e
    dsimp only at e
    split at e
    · rename_i ks q
      cases e
      obtain ⟨kvs, h1, l⟩ := R.at_ m a (.d kds) ea q
      exact ⟨a, kvs, rfl, .inl h1, l⟩
    · cases e
  | _ => cases e
theorem key_is {k : Key} : Is mg A H (kV k) (keyD k) := by
  cases k with
  | inl i => exact .int i
  | inr x => exact .str x
end
def wDGet (wa wb : WD) : WD := fun ρ S Q => wa ρ S fun x S1 => wb ρ S1 fun y S2 => ∃ kds k v, dctAt S2 x = some kds ∧ y = keyD k ∧ valD kds k = some v ∧ Q v S2
/-- y in d; neg: not in -/
def wDIn (neg : Bool) (wa wb : WD) : WD := fun ρ S Q => wa ρ S fun y S1 => wb ρ S1 fun x S2 => ∃ kds k, dctAt S2 x = some kds ∧ y = keyD k ∧ Q (.bl (neg ^^ (valD kds k).isSome)) S2
section
variable {X : Cx} {a b : Expr} {ta tb : TE} {wa wb : WD} {pos : Pos} {k : Nat}
theorem room_u {k : Nat} {A : Around} (r : Room k A) : A.units + 1 < cLine := by
  have := r.un
  omega
theorem d_dget (hr : Room k X.A) (ha : PD X a ta wa) (hb : PD X b tb wb) (hs : NoSl b := by intro _ _; rfl) : PD X (.Subscript a b pos) (tDGet ta tb) (wDGet wa wb) := by
  refine ⟨pe_dget (room_u hr) ha.pe hb.pe hs, fun A S σ H ρ Q Q' R E h kk => ?_⟩
  refine ha.sd A S σ H ρ _ _ R E h fun x S1 A1 vx H1 g1 R1 hx q1 => ?_
  refine hb.sd A1 S1 σ H1 ρ _ _ R1 (E.mono g1) q1 fun y S2 A2 vy H2 g2 R2 hy q2 => ?_
  obtain ⟨kds, key, v, e, rfl, ev, q⟩ := q2
  obtain ⟨ad, kvs, rfl, r, l⟩ := (hx.mono g2).dict R2 e
  obtain ⟨vv, e2, i2⟩ := l.val.1 v ev
  cases is_key hy
  exact ⟨ad, vv, rfl, .inl ⟨kvs, key, r, rfl, e2.symm⟩, kk v S2 A2 vv H2 (g1.trans g2) R2 i2 q⟩
theorem snd_din {mg : MG} (ha : SndE mg ta wa) (hb : SndE mg tb wb) : SndE mg (tDIn ta tb) (wDIn false wa wb) := by
  intro A S σ H ρ Q Q' R E h kk
  refine ha A S σ H ρ _ _ R E h fun y S1 A1 vy H1 g1 R1 hy q1 => ?_
  refine hb A1 S1 σ H1 ρ _ _ R1 (E.mono g1) q1 fun x S2 A2 vx H2 g2 R2 hx q2 => ?_
  obtain ⟨kds, key, e, rfl, q⟩ := q2
  obtain ⟨ad, kvs, rfl, r, l⟩ := hx.dict R2 e
  cases is_key (hy.mono g2)
  refine ⟨ad, valV kvs key, rfl, .inl ⟨kvs, key, r, rfl, rfl⟩, ?_⟩
  rw [l.some]
  have z : (valD kds key).isSome = (false ^^ (valD kds key).isSome) := by cases (valD kds key).isSome <;> rfl
  rw [z]
  exact kk _ S2 A2 _ H2 (g1.trans g2) R2 (.bl _) q
theorem snd_dnotin {mg : MG} (ha : SndE mg ta wa) (hb : SndE mg tb wb) : SndE mg (tDNotIn ta tb) (wDIn true wa wb) := by
  intro A S σ H ρ Q Q' R E h kk
  refine ha A S σ H ρ _ _ R E h fun y S1 A1 vy H1 g1 R1 hy q1 => ?_
  refine hb A1 S1 σ H1 ρ _ _ R1 (E.mono g1) q1 fun x S2 A2 vx H2 g2 R2 hx q2 => ?_
  obtain ⟨kds, key, e, rfl, q⟩ := q2
  obtain ⟨ad, kvs, rfl, r, l⟩ := hx.dict R2 e
  cases is_key (hy.mono g2)
  refine ⟨ad, valV kvs key, rfl, .inl ⟨kvs, key, r, rfl, rfl⟩, ?_⟩
  rw [l.some]
  have z : (!(valD kds key).isSome) = (true ^^ (valD kds key).isSome) := by cases (valD kds key).isSome <;> rfl
  rw [z]
  exact kk _ S2 A2 _ H2 (g1.trans g2) R2 (.bl _) q
theorem d_din (hr : Room k X.A) (ha : PD X a ta wa) (hb : PD X b tb wb) (h1 : behindInMarks .In b = false := by first | exact nobehind _ (by decide) (by decide) | rfl | with_unfolding_all rfl) : PD X (.Compare a [.In] [b] pos) (tDIn ta tb) (wDIn false wa wb) :=
  ⟨pe_cmp (pc_din (room_u hr) ha.pe hb.pe) h1, snd_din ha.sd hb.sd⟩
theorem d_dnotin (hr : Room k X.A) (ha : PD X a ta wa) (hb : PD X b tb wb) (h1 : behindInMarks .NotIn b = false := by first | exact nobehind _ (by decide) (by decide) | rfl | with_unfolding_all rfl) : PD X (.Compare a [.NotIn] [b] pos) (tDNotIn ta tb) (wDIn true wa wb) :=
  ⟨pe_cmp (pc_dnotin (room_u hr) ha.pe hb.pe) h1, snd_dnotin ha.sd hb.sd⟩
theorem dt_din (hr : Room k X.A) (ha : PD X a ta wa) (hb : PD X b tb wb) (h1 : behindInMarks .In b = false := by first | exact nobehind _ (by decide) (by decide) | rfl | with_unfolding_all rfl) : PDT X (.Compare a [.In] [b] pos) (tB (tDIn ta tb)) (wTest (wDIn false wa wb)) :=
  ⟨pt_cmp (pc_din (room_u hr) ha.pe hb.pe) h1, snd_test (d_din hr ha hb h1 (pos := pos)).sd⟩
theorem dt_dnotin (hr : Room k X.A) (ha : PD X a ta wa) (hb : PD X b tb wb) (h1 : behindInMarks .NotIn b = false := by first | exact nobehind _ (by decide) (by decide) | rfl | with_unfolding_all rfl) : PDT X (.Compare a [.NotIn] [b] pos) (tB (tDNotIn ta tb)) (wTest (wDIn true wa wb)) :=
  ⟨pt_cmp (pc_dnotin (room_u hr) ha.pe hb.pe) h1, snd_test (d_dnotin hr ha hb h1 (pos := pos)).sd⟩
/-- d.get(k, x) -/
def wDGet2 (wa wb wc : WD) : WD := fun ρ S Q => wa ρ S fun x S1 => (∃ kds, dctAt S1 x = some kds) ∧ wb ρ S1 fun y S2 => wc ρ S2 fun z S3 => ∃ kds k, dctAt S3 x = some kds ∧ y = keyD k ∧ Q ((valD kds k).getD z) S3
theorem d_dget2 {c : Expr} {tc : TE} {wc : WD} {apos cpos : Pos} (hr : Room k X.A) (ha : PD X a ta wa) (hb : PD X b tb wb) (hc : PD X c tc wc) (m : M2 X a "get" apos b c cpos) : PD X (.Call (.Attribute a "get" apos) [b, c] [] cpos) (tDGet2 ta tb tc) (wDGet2 wa wb wc) := by
  refine ⟨pe_dget2 (room_u hr) ha.pe hb.pe hc.pe m, fun A S σ H ρ Q Q' R E h kk => ?_⟩
  refine ha.sd A S σ H ρ _ _ R E h fun x S1 A1 vx H1 g1 R1 hx q1 => ?_
  obtain ⟨⟨kds0, e0⟩, q1⟩ := q1
  obtain ⟨ad0, kvs0, rfl, r0, _⟩ := hx.dict R1 e0
  refine ⟨ad0, rfl, .inl ⟨kvs0, r0⟩, ?_⟩
  refine hb.sd A1 S1 σ H1 ρ _ _ R1 (E.mono g1) q1 fun y S2 A2 vy H2 g2 R2 hy q2 => ?_
  refine hc.sd A2 S2 σ H2 ρ _ _ R2 (E.mono (g1.trans g2)) q2 fun z S3 A3 vz H3 g3 R3 hz q3 => ?_
  obtain ⟨kds, key, e, rfl, q⟩ := q3
  obtain ⟨ad, kvs, ea, r, l⟩ := (hx.mono (g2.trans g3)).dict R3 e
  cases ea
  cases is_key hy
  refine ⟨valV kvs key, .inl ⟨kvs, key, r, rfl, rfl⟩, ?_⟩
  have gg := g1.trans (g2.trans g3)
  cases hv : valD kds key with
  | none =>
    rw [hv] at q
    rw [l.val.2 hv]
    exact kk z S3 A3 vz H3 gg R3 hz q
  | some d =>
    rw [hv] at q
    obtain ⟨w, e2, i2⟩ := l.val.1 d hv
    rw [e2]
    exact kk d S3 A3 w H3 gg R3 i2 q
/-- d[k] = v -/
def sDPut (wa wb wv : WD) : WS := fun DD ρ S => wv ρ S fun v S1 => wa ρ S1 fun x S2 => wb ρ S2 fun y S3 => match x with
  | .mut m => ∃ kds k, S3[m]? = some (.d kds) ∧ y = keyD k ∧ kds.length < sizeLine ∧ DD.nx ρ (S3.set m (.d (putD kds k v)))
  | _ => False
theorem ds_dput {v : Expr} {tv : TE} {wv : WD} {pos' : Pos} (hr : Room k X.A) (ha : PD X a ta wa) (hb : PD X b tb wb) (hv : PD X v tv wv) (hs : swapsWith v (some (.Subscript a b pos')) pos.line X.env = pure false := by rfl) :
    PDS X (.Assign [.Subscript a b pos'] v pos) (L2.sDPut ta tb tv) (sDPut wa wb wv) := by
  refine ⟨ps_dput (room_u hr) ha.pe hb.pe hv.pe hs, fun A S σ H ρ D D' R E h kk => ?_⟩
  refine hv.sd A S σ H ρ _ _ R E h fun v S1 A1 vv H1 g1 R1 hvv q1 => ?_
  refine ha.sd A1 S1 σ H1 ρ _ _ R1 (E.mono g1) q1 fun x S2 A2 vx H2 g2 R2 hx q2 => ?_
  refine hb.sd A2 S2 σ H2 ρ _ _ R2 (E.mono (g1.trans g2)) q2 fun y S3 A3 vy H3 g3 R3 hy q3 => ?_
  cases x <;> first | exact q3.elim | skip
  rename_i m
  obtain ⟨kds, key, e, rfl, hl, q⟩ := q3
  cases hx with
  | @«mut» ad _ ea =>
    have ea3 := g3.pre _ _ ea
    obtain ⟨kvs, h1, l⟩ := R3.at_ m ad (.d kds) ea3 e
    cases is_key hy
    have l2 := l.put (k := key) (hvv.mono (g2.trans g3))
    have gw := grow_write (H := H3) (o := .dK (putK kvs key vv)) ea3
    have gg := (g1.trans (g2.trans g3)).trans gw
    exact ⟨ad, _, rfl, .inl ⟨kvs, key, h1, rfl, by rw [l.length]; exact hl, rfl⟩, kk.nx ρ _ A3 σ _ gg (R3.writeD ea3 l2) (E.mono gg) q⟩
end
/-! ### len, truth, list, tuple of a dict -/
section
variable {mg : MG} {X : Cx}
theorem isEmpty_isK {A : List Addr} {H : Hp} {vs : List (Key × V)} {ds : List (Key × D)} (l : IsK mg A H vs ds) : vs.isEmpty = ds.isEmpty := by cases l <;> rfl
def oListD : LD := fun ds S Q => match ds with
  | [x] => ∃ kds, dctAt S x = some kds ∧ Q (.lst (kds.map fun kv => keyD kv.1)) S
  | _ => False
theorem keys_isL {A : List Addr} {H : Hp} : ∀ {vs : List (Key × V)} {ds : List (Key × D)}, IsK mg A H vs ds → IsL mg A H (vs.map fun kv => kV kv.1) (ds.map fun kv => keyD kv.1)
  | _, _, .nil => .nil
  | _, _, .cons h t => .cons key_is (keys_isL t)
theorem snd_listD : SndC mg (fun xs H Q => ∃ (a : Addr) (kvs : List (Key × V)), xs = [.ref a] ∧ Rd H a (.dK kvs) ∧ ∀ p, H p = none → Q (.ref p) (upd H p (.lst (kvs.map fun kv => kV kv.1)))) oListD := by
  intro A S H xs ds Q Q' R l q k
  match ds, q, l with
  | [x], ⟨kds, e, q⟩, l =>
    obtain ⟨v, rfl, hv⟩ := l.one
    obtain ⟨a, kvs, rfl, r, lk⟩ := hv.dict R e
    refine ⟨a, kvs, rfl, r, fun p hp => ?_⟩
    have g := grow_new (o := .lst (kvs.map fun kv => kV kv.1)) R hp
    exact k _ S A _ _ g (R.new hp) (.lst (R.fresh hp) upd_same ((keys_isL lk).mono g)) q
end
/-! ### any, max of a list -/
section
variable {mg : MG}
def oAny : LD := fun ds S Q => match ds with
  | [x] => ∃ es bs, listD S x = some es ∧ bls es = some bs ∧ Q (.bl (bs.any id)) S
  | _ => False
theorem snd_any {K : PySem.W.Frag} (hK : mg.K = K) : SndC mg (rAny K) oAny := by
  subst hK
  intro A S H xs ds Q Q' R l q k
  match ds, q, l with
  | [x], ⟨es, bs, e, eb, q⟩, l =>
    obtain ⟨v, rfl, hv⟩ := l.one
    obtain ⟨a, vs, rfl, sq, lv⟩ := hv.lis R e
    exact ⟨a, bs, rfl, by rw [← lv.bls eb]; exact sq, k _ S A _ H .refl R (.bl _) q⟩
def oMaxL : LD := fun ds S Q => match ds with
  | [x] => ∃ (es : List D) (ns : List Int), listD S x = some es ∧ es = ns.map D.int ∧ 0 < ns.length ∧ ∀ m, m ∈ ns → (∀ y, y ∈ ns → y ≤ m) → Q (.int m) S
  | _ => False
theorem IsL.ints {A : List Addr} {H : Hp} : ∀ {vs : List V} {ns : List Int}, IsL mg A H vs (ns.map D.int) → vs = ns.map V.int
  | [], [], _ => rfl
  | [], _ :: _, h => by cases h
  | _ :: _, [], h => by cases h
  | v :: vs, n :: ns, h => by
    cases h with
    | cons h t =>
      cases h
      rw [List.map_cons, IsL.ints t]
theorem snd_maxL {K : PySem.W.Frag} (hK : mg.K = K) : SndC mg (rMax K) oMaxL := by
  subst hK
  intro A S H xs ds Q Q' R l q k
  match ds, q, l with
  | [x], ⟨es, ns, e, ee, hn, q⟩, l =>
    obtain ⟨v, rfl, hv⟩ := l.one
    obtain ⟨a, vs, rfl, sq, lv⟩ := hv.lis R e
    subst ee
    have ev := lv.ints
    subst ev
    exact ⟨a, ns, rfl, sq, hn, fun m h1 h2 => k _ S A _ H .refl R (.int _) (q m h1 h2)⟩
end
end DL

set_option Elab.async false
set_option linter.all false
set_option maxRecDepth 100000
/-! Defs with *rest, static methods, instances made by any __init__ and their fields while they may change. -/
namespace DL
open PySem PySem.Spec PyProof.Rows L2
section
variable {mg : MG} {A A' : List Addr} {S : MS} {H H' : Hp}
theorem IsL.split : ∀ {vs : List V} {ds es : List D}, IsL mg A H vs (ds ++ es) → ∃ ws us, vs = ws ++ us ∧ IsL mg A H ws ds ∧ IsL mg A H us es
  | vs, [], es, h => ⟨[], vs, rfl, .nil, h⟩
  | _, d :: ds, es, .cons h t => by
    obtain ⟨ws, us, e, a, b⟩ := IsL.split (ds := ds) t
    exact ⟨_ :: ws, us, by rw [e]; rfl, .cons h a, b⟩
end
/-! ### def f(a, .., *v) -/
def spWS (mg : MG) (n : Nat) (w : WF) : Sp := fun vs H Q _ => ∃ A S ds rest Q', Rep mg A S H ∧ IsL mg A H vs (ds ++ rest) ∧ ds.length = n ∧ rest.length ≤ sizeLine ∧ w (ds ++ [.tup rest]) S Q' ∧ EndV mg A H Q Q'
section
variable {P : Program} {w : World} {K : PySem.W.Frag} {mg : Str → Option Value} {base : Heap}
theorem star_of {n : Nat} {wf : WF} {vs : List V} {H : Hp} {Q : VK} {E : XK} (h : spWS ⟨K, mg⟩ n wf vs H Q E) :
    ∃ ws rest, vs = ws ++ rest ∧ ws.length = n ∧ rest.length ≤ sizeLine ∧ ∀ p, H p = none → spW ⟨K, mg⟩ (n + 1) wf (ws ++ [V.ref p]) (upd H p (.tup rest)) Q E := by
  obtain ⟨A, S, ds, rest, Q', R, l, e, hz, q, k⟩ := h
  obtain ⟨ws, us, rfl, l1, l2⟩ := l.split
  refine ⟨ws, us, rfl, by rw [l1.length, e], by rw [l2.length]; exact hz, fun p hp => ?_⟩
  have g := grow_new (o := .tup us) R hp
  exact ⟨A, S, ds ++ [.tup rest], Q', R.new hp, (l1.mono g).append (.cons (.tup (R.fresh hp) (.inl upd_same) (l2.mono g)) .nil), by simp [e], q, k.mono g⟩
theorem fnStarF {x qual pv : Str} {st : Stmt} {f : Addr} {fd : FuncData} {N ps : List Str} {k : Nat} {wf : WF} {ws : WS} (F : Fun K x qual st f fd) (S : FnScope N (ps ++ [pv]) (defScope st))
    (hbi : ∀ (kV doc pm : Value) (an : Option Addr) (cdv ct : Value) (us rest : List Value), us.length = ps.length → bindArgs (PySem.W.fnOf x qual (defArgs st) (defBody st) (defScope st) .none kV doc pm an cdv ct) ⟨us ++ rest, []⟩ = (newTuple rest >>= fun t => pure (ps.zip us ++ [(pv, t)])))
    (hb : ∀ (cdv : Value) (A : Around) (outer : List Env) (s : Shared) (H : Hp) (E : XK), Room k (A.deeper (envOfC qual (defScope st) s.heap.objs.size f cdv)) →
      ∃ t, PDSs (cxOf CX0 P w K mg base N qual (defScope st) f cdv A outer s H E).nox (defBody st) t ws)
    (hw : ∀ ds S Q, ds.length = ps.length + 1 → LoL S.length ds → wf ds S Q → ws { nx := fun _ S' => Fz S Q .non S', rt := Fz S Q } (startD N ds) S) : FnR P w K mg base CX0 (k + 1) f (spWS ⟨K, mg⟩ ps.length wf) := by
  obtain ⟨oc, od, kV, doc, pm, an, cdv, ct, osl, rfl, lk, hcd⟩ := F.ex
  refine (StX.fn_star (sp := spW ⟨K, mg⟩ (ps.length + 1) wf) lk hcd S StX.cxUp_none (hbi kV doc pm an cdv ct) fun A outer s H vs Q E hr h => ?_).imp fun vs H Q E h => star_of h
  obtain ⟨t, hp⟩ := hb cdv A outer s H E hr
  obtain ⟨A', S', ds, Q', R, l, e, q, k⟩ := h
  have kf := end_fz R k
  refine ⟨t, hp.pe.nox, hp.sd A' S' (L2.start N vs) H (startD N ds) _ _ R (env_start l) (hw ds S' Q' e (by rw [← R.len]; exact l.lo) q) ⟨fun ρ1 S1 A1 σ1 H1 g1 R1 E1 q1 => kf _ S1 A1 .non H1 g1 R1 .non q1, kf, ?_, ?_⟩⟩
  · intro ρ1 S1 A1 σ1 H1 g1 R1 E1 q1
    exact q1.elim
  · intro ρ1 S1 A1 σ1 H1 g1 R1 E1 q1
    exact q1.elim
end
/-! ### C.m(..), m a static method -/
structure SMet (K : PySem.W.Frag) (C : Addr) (mc : Value) (m : Str) (p g : Addr) : Prop where
  at_ : PySem.W.findCls K (.ref C) mc m = some (.get (.builtin "staticmethod.__get__") (.ref p) .none (.ref C))
  rc : ∃ rest, PySem.W.recIn K p "staticmethod" = some (.ref g :: rest)
  kp : PySem.W.keepIn K (.ref g) = true
section
variable {X : Cx} {pins : List (Addr × Obj)} {σ : L2.St} {H : Hp} {s : Shared} {C p g : Addr} {mc : Value} {m : Str} {A : Around} {E : Value → Shared → Prop}
theorem getmethsm_ok {pl : Sem Bool} {Q : Value × List Value → Shared → Prop} (I : Inv X pins σ H s) (r : ClX.CRead X.K C mc) (k : SMet X.K C mc m p g)
    (h : ∀ s', Inv X pins σ H s' → Q (.ref g, []) s') : wpAny (model X.prog X.w) A (getMethod (.ref C) m pl) Q E s := by
  obtain ⟨rest, hp⟩ := k.rc
  refine PySem.W.method_cls I.kIn r.ga (PySem.W.cls_bind I.kIn r.rd k.at_ ?_)
  refine wpAny_call (PySem.W.sm_get (s := { s with toks := s.toks + 1 }) I.kIn hp (PySem.W.handed_on rfl ?_))
  exact h _ (I.tok _)
end
def tSMeth (C : Addr) (sp : Sp) (E : XK) (ta : TE) (t : TA) : TE := fun σ H Q => ta σ H fun x H1 => x = .ref C ∧ t σ H1 fun vs H2 => sp vs H2 Q E
section
variable {X : Cx} {CX : CXT} {k : Nat} {C p g : Addr} {mc : Value} {sp : Sp} {E : XK} {o e : Expr} {es : List Expr} {f m : Str} {pos apos : Pos} {ta : TE} {t : TA} {pl : Sem Bool}
theorem pe_smeth (he : PE X o ta) (r : ClX.CRead X.K C mc) (c : SMet X.K C mc m p g) (F : FnR X.prog X.w X.K X.mg X.base CX k g sp) (hr : Room k X.A) (hx : Passes CX X E) (ha : PA X (e :: es) t)
    (hst : starEach (e :: es) X.env = (false, eval e X.env) :: starEach es X.env := by rfl) (hpl : (backTo pos (starEach es X.env)).any (·.1) = false := by rfl)
    (ht : eval (.Call (.Attribute o m apos) (e :: es) [] pos) X.env = (do
      let ov ← eval o X.env
      standAt apos.atName
      let (f, first) ← holding [ov] (getMethod ov m pl)
      callWith pos f first (backTo pos (starEach (e :: es) X.env)) (backToKw pos (keywordEach [] X.env))) := by rfl) :
    PE X (.Call (.Attribute o m apos) (e :: es) [] pos) (tSMeth C sp E ta t) := by
  refine ⟨fun pins s σ H Q I h => ?_⟩
  refine PySem.W.methodCall_KW (pl := pl) (thn (he.run pins s σ H _ I h) fun u s1 ⟨x, H1, I1, rx, ex, q⟩ => ?_) ht
  subst ex
  obtain rfl : u = Value.ref C := rx
  refine getmethsm_ok I1 r c fun s2 I2 => ?_
  refine PySem.W.callWith_K (h₀ := X.base) (first := []) I.ok.mod.kin c.kp (thn (ha.run pos pins s2 σ H1 _ I2 q) fun us s3 ⟨vs, H2, I3, rv, q2⟩ => ⟨I3.kIn, ?_⟩) hst hpl
  exact wpAny_call (run_fnR F hr hx I3 rv q2)
theorem pe_smeth0 (he : PE X o ta) (r : ClX.CRead X.K C mc) (c : SMet X.K C mc m p g) (F : FnR X.prog X.w X.K X.mg X.base CX k g sp) (hr : Room k X.A) (hx : Passes CX X E)
    (ht : eval (.Call (.Attribute o m apos) [] [] pos) X.env = (do
      let ov ← eval o X.env
      standAt apos.atName
      let (f, first) ← holding [ov] (getMethod ov m pl)
      callWith pos f first (backTo pos (starEach [] X.env)) (backToKw pos (keywordEach [] X.env))) := by rfl) :
    PE X (.Call (.Attribute o m apos) [] [] pos) (tSMeth C sp E ta tNil) := by
  refine ⟨fun pins s σ H Q I h => ?_⟩
  refine PySem.W.methodCall_KW (pl := pl) (thn (he.run pins s σ H _ I h) fun u s1 ⟨x, H1, I1, rx, ex, q⟩ => ?_) ht
  subst ex
  obtain rfl : u = Value.ref C := rx
  refine getmethsm_ok I1 r c fun s2 I2 => ?_
  exact PySem.W.callWith_K0 (first := []) I2.kIn c.kp (wpAny_call (run_fnR F hr hx I2 .nil q))
end
def wSMeth (n : Nat) (w : WF) (wl : WL) : WD := fun ρ S Q => wl ρ S fun ds S1 => n ≤ ds.length ∧ ds.length ≤ sizeLine ∧ w (ds.take n ++ [.tup (ds.drop n)]) S1 Q
section
variable {X : Cx} {k n : Nat} {C p g : Addr} {mc : Value} {e : Expr} {es : List Expr} {x c m : Str} {xpos pos apos : Pos} {t : TA} {wl : WL} {w : WF} {pl : Sem Bool}
theorem snd_star {mg : MG} {A : List Addr} {S : MS} {H : Hp} {vs : List V} {ds : List D} {Q : VK} {Q' : D → MS → Prop} {E : XK} (R : Rep mg A S H) (l : IsL mg A H vs ds) (h : n ≤ ds.length ∧ ds.length ≤ sizeLine ∧ w (ds.take n ++ [.tup (ds.drop n)]) S Q') (k : EndV mg A H Q Q') : spWS mg n w vs H Q E :=
  ⟨A, S, ds.take n, ds.drop n, Q', R, by rw [List.take_append_drop]; exact l, by rw [List.length_take]; omega, by rw [List.length_drop]; omega, h.2.2, k⟩
theorem d_smeth (hg : X.mg c = some (.ref C)) (hgl : Gl X c := by rfl) (r : ClX.CRead X.K C mc) (cm : SMet X.K C mc m p g) (F : FnR X.prog X.w X.K X.mg X.base CX0 k g (spWS X.G n w)) (hr : Room k X.A) (ha : PDA X (e :: es) t wl) (hdb : (c == ("__debug__" : Str)) = false := by decide)
    (hst : starEach (e :: es) X.env = (false, eval e X.env) :: starEach es X.env := by rfl) (hpl : (backTo pos (starEach es X.env)).any (·.1) = false := by rfl)
    (ht : eval (.Call (.Attribute (.Name c xpos) m apos) (e :: es) [] pos) X.env = (do
      let ov ← eval (.Name c xpos) X.env
      standAt apos.atName
      let (f, first) ← holding [ov] (getMethod ov m pl)
      callWith pos f first (backTo pos (starEach (e :: es) X.env)) (backToKw pos (keywordEach [] X.env))) := by rfl) :
    PD X (.Call (.Attribute (.Name c xpos) m apos) (e :: es) [] pos) (tSMeth C (spWS X.G n w) E0 (tC (.ref C)) t) (wSMeth n w wl) := by
  refine ⟨pe_smeth (d_cls hg hgl hdb).pe r cm F hr pass0 ha.pe hst hpl ht, fun A S σ H ρ Q Q' R E h k => ?_⟩
  refine ⟨rfl, ha.sd A S σ H ρ _ _ R E h fun ds S1 A1 vs H1 g1 R1 hv q1 => ?_⟩
  exact snd_star R1 hv q1 (k.mono g1)
theorem d_smeth0 (hg : X.mg c = some (.ref C)) (hgl : Gl X c := by rfl) (r : ClX.CRead X.K C mc) (cm : SMet X.K C mc m p g) (F : FnR X.prog X.w X.K X.mg X.base CX0 k g (spWS X.G n w)) (hr : Room k X.A) (hdb : (c == ("__debug__" : Str)) = false := by decide)
    (ht : eval (.Call (.Attribute (.Name c xpos) m apos) [] [] pos) X.env = (do
      let ov ← eval (.Name c xpos) X.env
      standAt apos.atName
      let (f, first) ← holding [ov] (getMethod ov m pl)
      callWith pos f first (backTo pos (starEach [] X.env)) (backToKw pos (keywordEach [] X.env))) := by rfl) :
    PD X (.Call (.Attribute (.Name c xpos) m apos) [] [] pos) (tSMeth C (spWS X.G n w) E0 (tC (.ref C)) tNil) (wSMeth n w wNil) := by
  refine ⟨pe_smeth0 (d_cls hg hgl hdb).pe r cm F hr pass0 ht, fun A S σ H ρ Q Q' R E h k => ?_⟩
  exact ⟨rfl, snd_star (E := E0) R .nil h k⟩
end
/-! ### an instance that may change: made, a field set, a field read -/
/-- made by an __init__ that is told as any def: self is the new object -/
def wMakeI (c : Str) (n : Nat) (w : WF) (wl : WL) : WD := fun ρ S Q => wl ρ S fun ds S1 => ds.length = n ∧ w (.mut S1.length :: ds) (S1 ++ [.i c []]) fun d S2 => d = .non ∧ Q (.mut S1.length) S2
def putFD (f : Str) (v : D) : List (Str × D) → List (Str × D)
  | [] => [(f, v)]
  | (g, x) :: r => if g = f then (g, v) :: r else (g, x) :: putFD f v r
section
variable {mg : MG} {A A' : List Addr} {S : MS} {H H' : Hp}
theorem IsF.put {f : Str} {v : V} {d : D} (h : Is mg A H v d) : ∀ {fs : List (Str × V)} {fds : List (Str × D)}, IsF mg A H fs fds → IsF mg A H (putF f v fs) (putFD f d fds)
  | _, _, .nil => .cons h .nil
  | _, _, .cons (f := g) h0 t => by
    unfold putF putFD
    split
    · exact .cons h t
    · exact .cons h0 (IsF.put h t)
theorem IsF.length : ∀ {fs : List (Str × V)} {fds : List (Str × D)}, IsF mg A H fs fds → fs.length = fds.length
  | _, _, .nil => rfl
  | _, _, .cons _ t => congrArg Nat.succ (IsF.length t)
end
section
variable {X : Cx} {k n : Nat} {f C : Addr} {fd : FuncData} {ps : List Str} {w : WF} {x c : Str} {p pos pos' : Pos} {e o : Expr} {es : List Expr} {t : TA} {wl : WL} {te tv : TE} {we wv : WD}
theorem d_makeI (M : Mk X.K C f) (F : FnOk X.prog X.w X.K X.mg X.base CX0 k f fd ps (spW X.G (n + 1) w)) (hr : Room (k + 1) X.A) (hm : X.mg x = some (.ref C)) (hb : Binds X.K fd ps [])
    (ha : PDA X (e :: es) t wl) (hg : Gl X x := by rfl) (hdb : (x == ("__debug__" : Str)) = false := by decide) (he : starEach (e :: es) X.env = (false, eval e X.env) :: starEach es X.env := by rfl) (hpl : (backTo pos (starEach es X.env)).any (·.1) = false := by rfl) :
    PD X (.Call (.Name x p) (e :: es) [] pos) (tMake C (spW X.G (n + 1) w) [] E0 t) (wMakeI x n w wl) := by
  refine ⟨pe_make M F hr hg hm hb .nil pass0 ha.pe hdb he hpl, fun A S σ H ρ Q Q' R E h k => ?_⟩
  refine ha.sd A S σ H ρ _ _ R E h fun ds S1 A1 vs H1 g1 R1 hv q1 => ?_
  intro a dx na nd ne
  have hx1 : upd H1 dx (.own a) a = none := by rw [upd_ne (Ne.symm ne)]; exact na
  have ga := grow_new (o := .own a) R1 nd
  have Ra := R1.new (o := .own a) nd
  have gb := grow_mut (o := .ins C dx []) Ra hx1
  have Rb := Ra.newMO (u := .ins C dx []) (o := .i x []) hx1 ⟨C, dx, [], hm, upd_same, .nil⟩
  have g := ga.trans gb
  have at_ : (A1 ++ [a])[S1.length]? = some a := by rw [← R1.len]; simp
  refine ⟨A1 ++ [a], S1 ++ [.i x []], .mut S1.length :: ds, _, Rb, ?_, by rw [List.length_cons, q1.1], q1.2, fun d S' A' v H' g' R' hv' q' => ?_⟩
  · rw [List.append_nil]
    exact .cons (.mut at_) (hv.mono g)
  · obtain ⟨rfl, q'⟩ := q'
    cases hv'
    exact ⟨rfl, k _ S' A' _ H' (g1.trans (g.trans g')) R' (.mut (g'.pre _ _ at_)) q'⟩
/-- e.f = v -/
def sSetF (c f : Str) (we wv : WD) : WS := fun DD ρ S => wv ρ S fun v S1 => we ρ S1 fun x S2 => match x with
  | .mut m => ∃ fds, S2[m]? = some (.i c fds) ∧ fds.length < 1000 ∧ DD.nx ρ (S2.set m (.i c (putFD f v fds)))
  | _ => False
theorem ds_setf {f' c : Str} {v : Expr} (he : PD X e te we) (hv : PD X v tv wv) (hC : X.mg c = some (.ref C)) (cl : Cls X.K C) (na : NoAttr X.K C f') (hs : swapsWith v (some (.Attribute e f' pos')) pos.line X.env = pure false := by rfl) :
    PDS X (.Assign [.Attribute e f' pos'] v pos) (sFld X.K te tv f') (sSetF c f' we wv) := by
  refine ⟨ps_fld he.pe hv.pe hs, fun A S σ H ρ D D' R E h kk => ?_⟩
  refine hv.sd A S σ H ρ _ _ R E h fun v S1 A1 vv H1 g1 R1 hvv q1 => ?_
  refine he.sd A1 S1 σ H1 ρ _ _ R1 (E.mono g1) q1 fun x S2 A2 vx H2 g2 R2 hx q2 => ?_
  cases x <;> first | exact q2.elim | skip
  rename_i m
  obtain ⟨fds, e, hl, q⟩ := q2
  cases hx with
  | @«mut» a _ ea =>
    obtain ⟨C', dx, fs, eC, h1, l⟩ := R2.at_ m a (.i c fds) ea e
    have eC' := (show X.mg _ = _ from eC)
    rw [hC] at eC'
    cases eC'
    have gw := grow_write (H := H2) (o := .ins C dx (putF f' vv fs)) ea
    have gg := (g1.trans g2).trans gw
    exact ⟨a, C, dx, fs, rfl, h1, cl, na, by rw [l.length]; exact hl, kk.nx ρ _ A2 σ _ gg (R2.writeMO (o := .i c (putFD f' v fds)) ea ⟨C, dx, _, eC, upd_same, (l.mono gw).put ((hvv.mono g2).mono gw)⟩) (E.mono gg) q⟩
end
end DL

set_option Elab.async false
set_option linter.all false
set_option maxRecDepth 100000
/-! {**a, **b} in the model. -/
namespace DL
open PySem PySem.Spec PyProof.Rows
section
variable {prog : Program} {w : World} {K : Type} [DecidableEq K] {knd : KeyKind prog w K} {A : Around} {E : Value → Shared → Prop} {s : Shared}
theorem dictPut_pairs {d : Addr} {kvs : List (K × Value)} {k : K} {key v : Value} {Q : Unit → Shared → Prop} (hkey : knd.is k key = true) (hm : s.heap.DictOf knd d kvs)
    (hQ : ∀ h', h'.DictOf knd d (stored kvs k v) → Heap.SameBut d s.heap h' → Q () { s with heap := h' }) (hsz : kvs.length ≤ sizeLine) :
    wpAny (model prog w) A (dictPut d (knd.hash k) key v) Q E s := by
  obtain ⟨o, es, ep, ho, hc, hd, hk, hp, hn⟩ := hm
  have hes : es.size ≤ sizeLine := by
    have e1 := hp.length
    have e2 : es.toList.length = es.size := by simp
    omega
  unfold dictPut
  refine wpAny_bind (wpAny_dictFind_of hkey ho hd hk ?_)
  have hidx : (es.findIdx? fun e => knd.is k e.key) = kvs.findIdx? fun kv => decide (kv.1 = k) := by
    rw [← hp.findIdx k]; obtain ⟨l⟩ := es; simp
  cases hi : es.findIdx? fun e => knd.is k e.key with
  | some i =>
    refine wpAny_updateDict ho hd (hQ _ ⟨_, _, ep, Heap.get?_update_self _ ho (Obj.isFreed_of_dict (Obj.data_mapDict hd _)), hc.mapDict _, Obj.data_mapDict hd _, hk.modify _ _, ?_, ?_⟩ (Heap.SameBut.update ..))
    · rw [stored, if_pos (any_of_findIdx_some (hidx ▸ hi))]
      have hl : (es.toList.findIdx? fun e => knd.is k e.key) = some i := by rw [← hi]; obtain ⟨l⟩ := es; simp
      have := hp.modify hn hl v
      obtain ⟨l⟩ := es
      simpa using this
    · rw [stored, if_pos (any_of_findIdx_some (hidx ▸ hi)), keys_map_store]; exact hn
  | none =>
    have hnot : k ∉ kvs.map (·.1) := not_mem_of_findIdx_none (hidx ▸ hi)
    have hany : ¬ (kvs.any fun kv => decide (kv.1 = k)) = true := by
      rw [List.any_eq_true]; rintro ⟨kv, hkv, he⟩
      exact hnot (List.mem_map.mpr ⟨kv, hkv, of_decide_eq_true he⟩)
    refine wpAny_updateDictKeys (hz := hes) ho hd (hQ _ ⟨_, _, ep + 1, Heap.get?_update_self _ ho (Obj.isFreed_of_dict (Obj.data_mapDictKeys hd _)), hc.mapDictKeys _, Obj.data_mapDictKeys hd _, hk.push hkey _, ?_, ?_⟩ (Heap.SameBut.update ..))
    · rw [stored, if_neg hany]
      have := hp.append hkey (knd.hash k) v
      obtain ⟨l⟩ := es
      simpa using this
    · rw [stored, if_neg hany, List.map_append, List.nodup_append]
      refine ⟨hn, by simp, ?_⟩
      intro a ha b hb
      simp only [List.map_cons, List.map_nil, List.mem_singleton] at hb
      subst hb
      exact fun e => hnot (e ▸ ha)
theorem mergeMapping_pairs {d o : Addr} {kvs more : List (K × Value)} {Q : Unit → Shared → Prop} (hnr : ∀ k v, knd.is k v = true → ∀ r, v ≠ Value.ref r) (hdo : d ≠ o) (hoS : (o == sysModules) = false)
    (hd : s.heap.DictOf knd d kvs) (ho : s.heap.DictOf knd o more)
    (hQ : ∀ h', h'.DictOf knd d (merged kvs more) → Heap.SameBut d s.heap h' → Q () { s with heap := h' })
    (hsz : kvs.length + more.length ≤ sizeLine) : wpAny (model prog w) A (mergeMapping d (.ref o) false) Q E s := by
  obtain ⟨od, esd, epd, hod, hcd, hdd, hkd, hpd, hnd⟩ := id hd
  obtain ⟨oo, eso, epo, hoo, hco, hdo', hko, hpo, hno⟩ := id ho
  have hlen : more.length = eso.size := by rw [← hpo.length]; simp
  unfold mergeMapping
  refine wpAny_bind (wpAny_isInstance ho.typeIs isSubtype_dict_dict ?_)
  rw [if_pos rfl]
  refine wpAny_bind (wpAny_specialOf ho.typeIs F.slot_dict_iter.lookup (wpAny_bind (wpAny_pure ?_)))
  simp only [beq_self_eq_true]
  rw [if_neg (by rw [hoS]; exact Bool.false_ne_true)]
  have loop : wpAny (model prog w) A (do
      let l ← dictEntries o
      let epoch ← dictEpoch o
      forIn (List.range l.size) PUnit.unit fun i (_ : PUnit) => (do
          let l' ← dictEntries o
          match l'[i]? with
            | some e => do
              holding [e.key, e.val] (dictPut d e.hash e.key e.val)
              let ep' ← dictEpoch o
              if (ep' != epoch) = true then do
                  (unsupported "dict.changed-during-merge" : Sem PUnit)
                  pure (ForInStep.yield PUnit.unit)
                else pure (ForInStep.yield PUnit.unit)
            | _ => do
              (unsupported "dict.changed-during-merge" : Sem PUnit)
              pure (ForInStep.yield PUnit.unit) : Sem (ForInStep PUnit))
      pure ()) Q E s := by
    refine wpAny_bind (wpAny_dictEntries hoo hdo' ?_)
    refine wpAny_bind (wpAny_dictEpoch hoo hdo' ?_)
    refine wpAny_bind ?_
    rw [List.range_eq_range']
    refine wpAny_forIn_list _
      (fun rest _ s' => ∃ h' i, s' = { s with heap := h' } ∧ rest = List.range' i (eso.size - i) ∧ i ≤ eso.size ∧ h'.DictOf knd d (merged kvs (more.take i)) ∧ h'.get? o = some oo ∧ Heap.SameBut d s.heap h')
      _ ?_ ?_ _ _ ⟨s.heap, 0, rfl, by simp, Nat.zero_le _, by simpa [merged] using hd, hoo, Heap.SameBut.refl _ _⟩
    · rintro x rest b s' ⟨h', i, rfl, hr, hi, hd', hoo', hs'⟩
      have hlt : i < eso.size := by
        rcases Nat.lt_or_ge i eso.size with h | h
        · exact h
        · rw [Nat.sub_eq_zero_of_le h] at hr; simp at hr
      obtain ⟨rfl, hrest⟩ : x = i ∧ rest = List.range' (i + 1) (eso.size - (i + 1)) := by
        have e : eso.size - i = (eso.size - (i + 1)) + 1 := by omega
        rw [e, List.range'_succ] at hr
        injection hr with h1 h2
        exact ⟨h1, h2⟩
      refine wpAny_bind (wpAny_dictEntries hoo' hdo' ?_)
      rw [Array.getElem?_eq_getElem hlt]
      obtain ⟨kv, hkv⟩ : ∃ kv, more[x]? = some kv := ⟨more[x]'(by rw [hlen]; exact hlt), List.getElem?_eq_getElem _⟩
      obtain ⟨k, v⟩ := kv
      obtain ⟨hkey, hval⟩ := hpo.get? (e := eso[x]) (by simp [hlt]) hkv
      obtain ⟨k', hkey', hhash⟩ := hko eso[x] (Array.getElem_mem hlt)
      obtain rfl : k' = k := knd.inj _ _ _ hkey' hkey
      show wpAny _ _ (holding [eso[x].key, eso[x].val] (dictPut d eso[x].hash eso[x].key eso[x].val) >>= _) _ _ _
      rw [hhash, hval]
      have hmx : (merged kvs (more.take x)).length ≤ sizeLine := by
        have e1 := merged_length_le kvs (more.take x)
        have e2 : (more.take x).length ≤ more.length := by rw [List.length_take]; omega
        omega
      refine wpAny_bind (wpAny_holding (dictPut_pairs (hsz := hmx) hkey hd' fun h'' hd'' hs'' => ?_))
      have hoo'' : h''.get? o = some oo := (hs''.2 o (Ne.symm hdo)).trans hoo'
      refine wpAny_bind (wpAny_dictEpoch hoo'' hdo' ?_)
      rw [if_neg (by simp)]
      exact wpAny_pure ⟨h'', x + 1, rfl, hrest, hlt, by rw [merged_take_succ kvs more x (k', v) hkv]; exact hd'', hoo'', hs'.trans hs''⟩
    · rintro b s' ⟨h', i, rfl, hr, hi, hd', hoo', hs'⟩
      have hin : i = eso.size := by
        rcases Nat.lt_or_ge i eso.size with h | h
        · have e : eso.size - i = (eso.size - (i + 1)) + 1 := by omega
          rw [e, List.range'_succ] at hr; exact nomatch hr
        · exact Nat.le_antisymm hi h
      refine wpAny_pure (hQ h' ?_ hs')
      rw [hin, ← hlen, List.take_length] at hd'; exact hd'
  have keys : ∀ {Q' : PUnit → Shared → Prop}, Q' PUnit.unit s → wpAny (model prog w) A (forIn eso PUnit.unit fun e (_ : PUnit) => (match e.key with
      | Value.ref a => do
        let l ← specialOf e.key (Str.ofString "__eq__")
        if (l != some (Value.builtin "object.__eq__")) = true then
            if (Array.filter (fun x => x.hash == e.hash) eso).size > 1 then do
              (unsupported "dict.merge-into-an-empty-dict:keys-of-equal-hash" : Sem PUnit)
              pure (ForInStep.yield PUnit.unit)
            else pure (ForInStep.yield PUnit.unit)
          else pure (ForInStep.yield PUnit.unit)
      | x => pure (ForInStep.yield PUnit.unit) : Sem (ForInStep PUnit))) Q' E s := by
    intro Q' q
    rw [← Array.forIn_toList]
    refine wpAny_forIn_list _ (fun rest _ s' => s' = s ∧ ∀ e ∈ rest, e ∈ eso) _ ?_ ?_ _ _ ⟨rfl, fun e he => Array.mem_toList_iff.mp he⟩
    · rintro x rest b s' ⟨rfl, hm⟩
      obtain ⟨k', hkey', _⟩ := hko x (hm x List.mem_cons_self)
      have hn := hnr _ _ hkey'
      split
      · rename_i a e
        exact absurd e (hn a)
      · exact wpAny_pure ⟨rfl, fun e he => hm e (List.mem_cons_of_mem _ he)⟩
    · rintro b s' ⟨rfl, _⟩
      exact q
  refine wpAny_bind (wpAny_dictEntries hod hdd ?_)
  split
  · refine wpAny_bind (wpAny_dictEntries hoo hdo' (wpAny_bind (keys ?_)))
    exact loop
  · exact loop
end
end DL

set_option Elab.async false
set_option linter.all false
set_option maxRecDepth 100000
/-! {**a, **b}; sorted(d, key=int); x in own. -/
namespace DL
open PySem PySem.Spec PyProof.Rows L2
theorem eval_Dict2 (a b : Expr) (pos : Pos) (env : Env) : eval (.Dict [none, none] [a, b] pos) env = (do
    standAt pos
    dictDisplay [(none, do let x ← eval a env; standAt pos; pure x), (none, do let x ← eval b env; standAt pos; pure x)]) := by
  first | rfl | with_unfolding_all rfl
def tMerge2 (t1 t2 : TE) : TE := fun σ H Q => ∀ p, H p = none → t1 σ (upd H p (.dK [])) fun x H1 => ∃ a kas kps, x = .ref a ∧ a ≠ p ∧ H1 p = some (.dK kps) ∧ Rd H1 a (.dK kas) ∧ kps.length + kas.length ≤ sizeLine ∧
  t2 σ (upd H1 p (.dK (mergeK kps kas))) fun y H2 => ∃ b kbs kqs, y = .ref b ∧ b ≠ p ∧ H2 p = some (.dK kqs) ∧ Rd H2 b (.dK kbs) ∧ kqs.length + kbs.length ≤ sizeLine ∧ Q (.ref p) (upd H2 p (.dK (mergeK kqs kbs)))
theorem mix_noref {P : Program} {w : World} : ∀ (k : Key) (v : Value), (mixKind P w).is k v = true → ∀ r, v ≠ Value.ref r := by
  intro k v h r e
  subst e
  cases k <;> cases h
section
variable {X : Cx} {pins : List (Addr × Obj)} {σ : L2.St} {H : Hp} {s : Shared}
theorem d_mergeM {p a : Addr} {kas kbs : List (Key × V)} {Q : Unit → Shared → Prop} {A : Around} {E : Value → Shared → Prop} (I : Inv X pins σ H s) (hp : H p = some (.dK kas)) (ha : Rd H a (.dK kbs)) (hne : a ≠ p) (hz : kas.length + kbs.length ≤ sizeLine)
    (h : ∀ s', Inv X pins σ (upd H p (.dK (mergeK kas kbs))) s' → Q () s') : wpAny (model X.prog X.w) A (mergeMapping p (.ref a) false) Q E s := by
  obtain ⟨z, hd, vs, rel, dd⟩ := dk_of I.hok hp
  obtain ⟨z2, hd2, vs2, rel2, dd2⟩ := dk_rd I.hok ha
  refine mergeMapping_pairs mix_noref (Ne.symm hne) hd2 dd dd2 (fun h' dd' hs => h _ ?_) (by rw [← rel.length, ← rel2.length]; exact hz)
  have hl : (mergeK kas kbs).length ≤ sizeLine := by have := length_mergeK kbs kas; omega
  have he : ∃ q, h'.get? p = some q := let ⟨q, _, _, hq, _⟩ := dd'; ⟨q, hq⟩
  exact d_write (t' := s.toks) I (by rw [hp]; exact True.intro) hs he (dk_new hl hd (rel2.merge rel) dd')
end
theorem merge_step {M : Model} {A : Around} {E : Value → Shared → Prop} {s : Shared} {m : Sem Unit} {vs : List Value} {k1 k2 : Value → Sem Unit} {kc : Value → Sem Unit} {Q : Unit → Shared → Prop} (h : wpAny M A m Q (fun _ _ => False) s) :
    wpAny M A ((((holding vs m).onRaise k1).tryCatch kc).onRaise k2) Q E s := by
  refine wpAny_onRaise ?_
  show wpAny M A (tryCatch ((holding vs m).onRaise k1) kc) _ _ s
  refine wpAny_tryCatch (wpAny_onRaise (wpAny_holding (wpAny_mono h (fun _ _ z => z) fun _ _ z => z.elim)))
section
variable {X : Cx} {a b : Expr} {ta tb : TE} {wa wb : WD} {pos : Pos}
theorem pe_merge2 (ha : PE X a ta) (hb : PE X b tb) : PE X (.Dict [none, none] [a, b] pos) (tMerge2 ta tb) := by
  refine ⟨fun pins s σ H Q I h => ?_⟩
  rw [eval_Dict2]
  refine wpAny_bind (wpAny_standAt ?_)
  have hn := I.hok.fresh (Nat.le_refl s.heap.objs.size)
  have I1 := I.laid (a := s.heap.objs.size) (o := .dK []) (h' := s.heap.push { cls := .type "dict", data := .dict #[] }) (t' := s.toks) (fun _ _ q => Heap.get?_push_of_some _ q) (Nat.le_refl _) (dk_empty s.heap I.big)
  unfold dictDisplay
  simp only [List.forIn_cons, List.forIn_nil, List.isEmpty_nil, if_true, pure_bind]
  refine wpAny_bind ?_
  refine wpAny_bind (wpAny_bind (wpAny_alloc ?_))
  refine wpAny_bind (wpAny_holding (wpAny_bind (thn (ha.run pins _ σ _ _ I1 (h _ hn)) fun u s1 ⟨x, H1, I2, rx, aa, kas, kps, ex, hne, e1, ra, hz1, q⟩ => wpAny_bind (wpAny_standAt (wpAny_pure ?_)))))
  subst ex
  obtain rfl : u = Value.ref aa := rx
  refine wpAny_bind (merge_step (d_mergeM I2 e1 ra hne hz1 fun s2 I3 => wpAny_pure ?_))
  dsimp only
  refine wpAny_bind (wpAny_bind ?_)
  simp only [List.isEmpty_nil, if_true]
  refine wpAny_pure ?_
  dsimp only
  refine wpAny_bind (wpAny_holding (wpAny_bind (thn (hb.run pins _ σ _ _ I3 q) fun u s3 ⟨y, H2, I4, ry, bb, kbs, kqs, ey, hne2, e2, rb, hz, q2⟩ => wpAny_bind (wpAny_standAt (wpAny_pure ?_)))))
  subst ey
  obtain rfl : u = Value.ref bb := ry
  refine wpAny_bind (merge_step (d_mergeM I4 e2 rb hne2 hz fun s4 I5 => wpAny_pure ?_))
  dsimp only
  refine wpAny_pure (wpAny_bind ?_)
  simp only [List.isEmpty_nil, if_true]
  refine wpAny_pure (wpAny_pure ?_)
  exact ⟨.ref s.heap.objs.size, _, I5, rfl, q2⟩
end
def wMerge2 (w1 w2 : WD) : WD := fun ρ S Q => w1 ρ (S ++ [.d []]) fun x S1 => ∃ kas, x = .dct kas ∧ S1[S.length]? = some (.d []) ∧ kas.length ≤ sizeLine ∧ w2 ρ (S1.set S.length (.d (mergeD [] kas))) fun y S2 => ∃ kbs kqs, y = .dct kbs ∧ S2[S.length]? = some (.d kqs) ∧
  kqs.length + kbs.length ≤ sizeLine ∧ Q (.mut S.length) (S2.set S.length (.d (mergeD kqs kbs)))
section
variable {X : Cx} {a b : Expr} {ta tb : TE} {wa wb : WD} {pos : Pos}
theorem d_merge2 (ha : PD X a ta wa) (hb : PD X b tb wb) : PD X (.Dict [none, none] [a, b] pos) (tMerge2 ta tb) (wMerge2 wa wb) := by
  refine ⟨pe_merge2 ha.pe hb.pe, fun A S σ H ρ Q Q' R E h k p hp => ?_⟩
  have g0 := grow_mut (o := .dK []) R hp
  have at0 : (A ++ [p])[S.length]? = some p := by rw [← R.len]; simp
  unfold wMerge2 at h
  refine ha.sd (A ++ [p]) (S ++ [MO.d []]) σ _ ρ _ _ (R.newMud hp .nil) (E.mono g0) h fun x S1 A1 v H1 g1 R1 hv q1 => ?_
  obtain ⟨kas, rfl, e1, hz1, q1⟩ := q1
  have at1 := g1.pre _ _ at0
  obtain ⟨kv1, h1, l1⟩ := R1.at_ _ p (.d []) at1 e1
  cases l1
  cases hv with
  | @dct aa kva _ na ra la =>
    have lm := IsK.merge (as := []) (cs := []) la .nil
    have gw := grow_write (H := H1) (o := .dK (mergeK [] kva)) at1
    refine ⟨aa, kva, [], rfl, fun z => na (z ▸ List.mem_of_getElem? at1), h1, ra, by rw [la.length]; simpa using hz1, ?_⟩
    refine hb.sd A1 _ σ _ ρ _ _ (R1.writeD at1 lm) (E.mono (g0.trans (g1.trans gw))) q1 fun y S2 A2 v2 H2 g2 R2 hv2 q2 => ?_
    obtain ⟨kbs, kqs, rfl, e2, hz, q2⟩ := q2
    have at2 := g2.pre _ _ at1
    obtain ⟨kv2, h2, l2⟩ := R2.at_ _ p (.d kqs) at2 e2
    cases hv2 with
    | @dct bb kvb _ nb rb lb =>
      have gw2 := grow_write (H := H2) (o := .dK (mergeK kv2 kvb)) at2
      refine ⟨bb, kvb, kv2, rfl, fun z => nb (z ▸ List.mem_of_getElem? at2), h2, rb, by rw [l2.length, lb.length]; exact hz, ?_⟩
      exact k _ _ A2 _ _ (g0.trans (g1.trans (gw.trans (g2.trans gw2)))) (R2.writeD at2 (IsK.merge lb l2)) (.mut at2) q2
end
end DL

set_option Elab.async false
set_option linter.all false
set_option maxRecDepth 100000
/-! sorted(d, key=int); x in own; own == inside lists; != by ==; augmented own operators. -/
namespace DL
open PySem PySem.Spec PyProof.Rows L2
/-! ### sorted(d, key=int) -/
theorem each_ints : ∀ {us : List Value} {ns : List Int}, IntsAre us ns → PySem.W.EachIs (fun (v : Value) (n : Int) => ∃ t, v = Value.int n t) us ns
  | _, _, .nil => .nil
  | _, _, .cons n t h => .cons ⟨t, rfl⟩ (each_ints h)
theorem vals_each : ∀ {us : List Value} {ns : List Int}, PySem.W.EachIs (fun (v : Value) (n : Int) => ∃ t, v = Value.int n t) us ns → Vals (ns.map V.int) us
  | _, _, .nil => .nil
  | _, _, .cons h t => .cons h (vals_each t)
def rSortKI : List V → Hp → VK → Prop := fun xs H Q => ∃ (a : Addr) (kvs : List (Key × V)) (ks : List Int), xs = [.ref a, .ty "int"] ∧ Rd H a (.dK kvs) ∧ kvs.map (·.1) = ks.map Sum.inl ∧
    ∀ (ys : List Int) (p : Addr), ys.Perm ks → ys.Pairwise (· ≤ ·) → H p = none → Q (.ref p) (upd H p (.lst (ys.map V.int)))
section
variable {X : Cx} {k : Nat} {pins : List (Addr × Obj)} {σ : L2.St} {H : Hp} {s : Shared}
theorem call_sortedKI {us : List Value} {xs : List V} {Q : VK} (hcalm : X.calm = true) (hu : X.A.units + 2 < cLine) (I : Inv X pins σ H s) (r : Vals xs us) (q : rSortKI xs H Q) :
    wpAny (model X.prog X.w) X.A (call (.builtin "sorted") (us.take 1) ([Str.ofString "key"].zip (us.drop 1))) (EP X pins σ Q) X.xe s := by
  obtain ⟨a, kvs, ks, ex, hd, hks, q⟩ := q
  subst ex
  obtain ⟨u, u2, rfl, rx, r2⟩ := r.two
  cases rx
  cases r2
  obtain ⟨z, lo, vs, rel, dd⟩ := dk_rd I.hok hd
  obtain ⟨ep, hat⟩ := dd.dictAt
  have hkeys : vs.map (·.1) = ks.map Sum.inl := rel.keys.symm.trans hks
  have hl : vs.length = ks.length := by
    have e := congrArg List.length hkeys
    rw [List.length_map, List.length_map] at e
    exact e
  have h16 : vs.length ≤ sizeLine := by rw [← rel.length]; exact z
  show wpAny _ _ (call (.builtin "sorted") [Value.ref a] [(Str.ofString "key", Value.type "int")]) _ _ _
  refine PyProof.Rows.call_function_entry_kw PyProof.Rows.kind_sorted PyProof.Rows.plain_sorted PyProof.Rows.entry_sorted (PyProof.Rows.ksk_s1 _ _) ?_
  unfold Builtin.«sorted»
  refine wpAny_bind (m := checkCount "sorted" 1 1 _) (wpAny_pure ?_)
  refine wpAny_bind (PySem.W.kdu_collect (A := X.A.in1) (PySem.W.kdl_dict (knd := mixKind X.prog X.w) (kvs := vs) (ep := ep) lo) (I.ok.hd hcalm) hat h16 fun h' tk acc hk hacc => ?_)
  have hal : acc.toList.length = ks.length := by rw [Array.length_toList, hacc.1, hl]
  have hS : IntsAre acc.toList ks := ints_each hal fun j v e => by
    obtain ⟨k, x, e1, e2⟩ := hacc.2 j v (by rw [← Array.getElem?_toList]; exact e)
    have e3 : (vs.map (·.1))[j]? = some k := by rw [List.getElem?_map, e1]; rfl
    rw [hkeys, List.getElem?_map] at e3
    cases e4 : ks[j]? with
    | none => rw [e4] at e3; cases e3
    | some y =>
      rw [e4] at e3
      have e5 : Sum.inl y = k := Option.some.inj e3
      subst e5
      rcases keyIs_shape (show keyIs (Sum.inl y) v = true from e2) with ⟨i, t, ek, ev⟩ | ⟨z, t, ek, ev⟩
      · cases ek
        exact ⟨y, t, rfl, ev⟩
      · cases ek
  have I1 : Inv X pins σ H { s with heap := h', toks := tk } := I.kept hk
  have hL : ks.length ≤ sizeLine := by rw [← hl]; exact h16
  refine wpAny_bind (wpAny_newList ?_ (by rw [hal]; exact hL))
  have hoL : (h'.push (seqObj "list" acc.toList.toArray 0)).get? h'.objs.size = some (seqObj "list" acc.toList.toArray 0) := Heap.get?_push_size _ rfl
  show wpAny _ _ _ _ _ { s with heap := h'.push (seqObj "list" acc.toList.toArray 0), toks := tk }
  refine wpAny_bind (wpAny_holding (PySem.W.list_sort_key_data (b := false) (f := .type "int") (fun n : Int => PyData.int n) hoL (each_ints hS) (PySem.W.AllAlike.of fun _ _ => rfl)
    (PySem.W.Sortable.others fun _ => ⟨fun z => PyData.noConfusion z, fun _ z => PyData.noConfusion z⟩) hL (fun n _ => by show X.A.units + 1 + 1 + 0 < cLine; omega) (PyProof.Rows.ksk_l1 _ _) rfl
    (fun v n hv _ h2 tk2 _ => by
      obtain ⟨t, rfl⟩ := hv
      exact call_int_int ⟨h2, tk2, rfl, fun _ _ e => e, .int _ _⟩) fun out c h3 tk3 kp hD hlen he => ?_))
  have he' := he
  rw [PySem.W.dataLe_int (β := Int) fun n => n] at he'
  have hp : (ks.mergeSort fun a b => decide (a ≤ b)).Perm ks := List.mergeSort_perm _ _
  have hw : (ks.mergeSort fun a b => decide (a ≤ b)).Pairwise (· ≤ ·) := (List.pairwise_mergeSort (fun a b c h1 h2 => by simp at h1 h2 ⊢; omega) (fun a b => by simp; omega) ks).imp fun h => of_decide_eq_true h
  refine wpAny_pure ⟨_, rfl, .ref h'.objs.size, upd H h'.objs.size (.lst ((ks.mergeSort fun a b => decide (a ≤ b)).map V.int)), I1.laid (t' := tk3) (fun b u e => ?_) (Nat.le_refl _)
    (show ObjOk X.prog X.w _ _ _ (.lst ((ks.mergeSort fun a b => decide (a ≤ b)).map V.int)) from ⟨by rw [List.length_map, hp.length_eq]; exact hL, out, c, vals_each he', hD⟩), rfl, q _ _ hp hw (I1.hok.fresh (Nat.le_refl _))⟩
  exact kp b u (Nat.ne_of_lt (Heap.lt_size e)) (Heap.get?_push_of_some _ e)
end
section
variable {X : Cx} {k : Nat} {e : Expr} {t : TE} {w : WD} {p p2 kp pos : Pos}
/-- sorted(e, key=int) -/
def tSortKI (t : TE) : TE := fun σ H Q => (tCons t tNil) σ H fun vs H1 => ∃ x, vs = [x] ∧ rSortKI [x, .ty "int"] H1 Q
theorem pe_sortedKI (he : PE X e t) (hcalm : X.calm = true) (hu : X.A.units + 2 < cLine) (hm : X.mg "sorted" = none) (hi : X.mg "int" = none) (hg : Gl X "sorted" := by rfl) (hgi : Gl X "int" := by rfl)
    (hs0 : starEach [e] X.env = (false, eval e X.env) :: starEach [] X.env := by rfl) (hst : backTo pos (starEach [e] X.env) = (false, eval e X.env) :: backTo pos (starEach [] X.env) := by rfl)
    (hpl : (backTo pos (starEach [e] X.env)).any (·.1) = false := by rfl) : PE X (.Call (.Name "sorted" p) [e] [⟨some "key", .Name "int" p2, kp⟩] pos) (tSortKI t) := by
  have hn : PE X (.Name "int" p2) (tC (.ty "int")) := (d_ty (n := "int") hi (hg := hgi)).pe
  refine ⟨fun pins s σ H Q I h => ?_⟩
  refine wpAny_Call_Name_kw (ld_blt I hg hm (show bootBuiltins (Str.ofString "sorted") = some (.builtin "sorted") by decide +kernel) ?_ (by decide) (by decide))
  refine callWith_kw (thn ((pa_cons he pa_nil hs0).run pos pins s σ H (fun vs H1 => ∃ x, vs = [x] ∧ rSortKI [x, .ty "int"] H1 Q) I h) fun us s1 ⟨vs, H1, I1, r1, x, ev, q1⟩ => ?_) hst hpl
  subst ev
  refine thn ((pk_cons hn pk_nil).run pos pins s1 σ H1 (fun ws H2 => ws = [.ty "int"] ∧ rSortKI [x, .ty "int"] H2 Q) I1 ⟨rfl, q1⟩) fun ws s2 ⟨zs, H2, I2, rz, ez, q2⟩ => ?_
  subst ez
  obtain ⟨u, rfl, ru⟩ := vals1 r1
  obtain ⟨u2, rfl, ru2⟩ := vals1 rz
  exact call_sortedKI (us := [u, u2]) hcalm hu I2 (.cons ru (.cons ru2 .nil)) q2
end
/-- the sorted keys of a dict, all ints: a list that stays -/
def intKeys : List (Key × D) → Option (List Int)
  | [] => some []
  | (.inl i, _) :: r => (intKeys r).map (i :: ·)
  | _ => none
def wSortKI (w : WD) : WD := fun ρ S Q => w ρ S fun x S1 => ∃ kds ks, dctAt S1 x = some kds ∧ intKeys kds = some ks ∧ ∀ ys : List Int, ys.Perm ks → ys.Pairwise (· ≤ ·) → Q (.lst (ys.map D.int)) S1
theorem ints_isK {mg : MG} {A : List Addr} {H : Hp} : ∀ {kvs : List (Key × V)} {kds : List (Key × D)} {ks : List Int}, IsK mg A H kvs kds → intKeys kds = some ks → kvs.map (·.1) = ks.map Sum.inl
  | _, _, _, .nil, e => by cases e; rfl
  | _, _, _, .cons (f := .inl i) (fds := r) h t, e => by
    unfold intKeys at e
    cases q : intKeys r with
    | none => rw [q] at e; cases e
    | some l => rw [q] at e; cases e; rw [List.map_cons, List.map_cons, ints_isK t q]
  | _, _, _, .cons (f := .inr i) h t, e => by unfold intKeys at e; cases e
theorem ints_isL {mg : MG} {A : List Addr} {H : Hp} : ∀ ns : List Int, IsL mg A H (ns.map V.int) (ns.map D.int)
  | [] => .nil
  | n :: ns => .cons (.int n) (ints_isL ns)
section
variable {X : Cx} {k : Nat} {e : Expr} {t : TE} {w : WD} {p p2 kp pos : Pos}
theorem d_sortKI (he : PD X e t w) (hcalm : X.calm = true) (hu : X.A.units + 2 < cLine) (hm : X.mg "sorted" = none) (hi : X.mg "int" = none) (hg : Gl X "sorted" := by rfl) (hgi : Gl X "int" := by rfl)
    (hs0 : starEach [e] X.env = (false, eval e X.env) :: starEach [] X.env := by rfl) (hst : backTo pos (starEach [e] X.env) = (false, eval e X.env) :: backTo pos (starEach [] X.env) := by rfl)
    (hpl : (backTo pos (starEach [e] X.env)).any (·.1) = false := by rfl) : PD X (.Call (.Name "sorted" p) [e] [⟨some "key", .Name "int" p2, kp⟩] pos) (tSortKI t) (wSortKI w) := by
  refine ⟨pe_sortedKI he.pe hcalm hu hm hi hg hgi hs0 hst hpl, fun A S σ H ρ Q Q' R E h k => ?_⟩
  refine he.sd A S σ H ρ _ _ R E h fun x S1 A1 v H1 g1 R1 hv q1 => ?_
  obtain ⟨kds, ks, e1, e2, q⟩ := q1
  obtain ⟨a, kvs, rfl, r, l⟩ := hv.dict R1 e1
  refine ⟨_, rfl, a, kvs, ks, rfl, r, ints_isK l e2, fun ys p hp hw hn => ?_⟩
  have g := grow_new (o := .lst (ys.map V.int)) R1 hn
  exact k _ S1 A1 _ _ (g1.trans g) (R1.new hn) (.lst (R1.fresh hn) upd_same (ints_isL ys)) (q ys hp hw)
end
end DL

set_option Elab.async false
set_option linter.all false
set_option maxRecDepth 100000
/-! x in own; own != own by its ==; augmented own operators; dicts that stand for sets compared; lists of own objects compared. -/
namespace DL
open PySem PySem.Spec PyProof.Rows L2
/-! ### x in own -/
def rOwnIn (C : Addr) (sp : Sp) (neg : Bool) : L2.R2 := fun x y H Q => Ins C H y ∧ sp [y, x] H (fun v H' => ∃ b, v = .bl b ∧ Q (.bl (neg ^^ b)) H') E0
section
variable {X : Cx} {k : Nat} {C g : Addr} {fd : FuncData} {ps : List Str} {sp : Sp} {c : Str} {w : WF}
theorem op_ownIn (M : OwnM X.K C "__contains__" g) (F : FnOk X.prog X.w X.K X.mg X.base CX0 k g fd ps sp) (hr : Room k X.A) (hb : Binds X.K fd ps []) : OpR X (compareOp .In) (rOwnIn C sp false) := by
  intro pins s σ H x y v u Q I rx ry h
  obtain ⟨⟨a, dx, fs, rfl, ha⟩, q⟩ := h
  cases (show u = Value.ref a from ry)
  obtain ⟨mA, OM, _⟩ := ins_get I.hok ha
  obtain ⟨od, J, _⟩ := OM.look
  obtain ⟨m, hF⟩ := I.fr
  have run := run_fn (us := [.ref a, v]) (vs := [.ref a, x]) F hr hb .nil pass0 I (.cons rfl (.cons rx .nil)) q
  refine PySem.W.in_K hF I.ok.mod.kin J M.at_ M.fn (wpAny_mono run (fun w' s' z => ?_) fun _ _ e => e)
  obtain ⟨z, H', I', rz, b, ez, q'⟩ := z
  subst ez
  cases rz
  refine wpAny_truthy_bool ⟨.bl b, H', I', rfl, ?_⟩
  rw [Bool.false_xor] at q'
  exact q'
theorem op_ownNotIn (M : OwnM X.K C "__contains__" g) (F : FnOk X.prog X.w X.K X.mg X.base CX0 k g fd ps sp) (hr : Room k X.A) (hb : Binds X.K fd ps []) : OpR X (compareOp .NotIn) (rOwnIn C sp true) := by
  intro pins s σ H x y v u Q I rx ry h
  obtain ⟨⟨a, dx, fs, rfl, ha⟩, q⟩ := h
  cases (show u = Value.ref a from ry)
  obtain ⟨mA, OM, _⟩ := ins_get I.hok ha
  obtain ⟨od, J, _⟩ := OM.look
  obtain ⟨m, hF⟩ := I.fr
  have run := run_fn (us := [.ref a, v]) (vs := [.ref a, x]) F hr hb .nil pass0 I (.cons rfl (.cons rx .nil)) q
  refine PySem.W.notIn_K hF I.ok.mod.kin J M.at_ M.fn (wpAny_mono run (fun w' s' z => ?_) fun _ _ e => e)
  obtain ⟨z, H', I', rz, b, ez, q'⟩ := z
  subst ez
  cases rz
  refine wpAny_truthy_bool ⟨.bl (!b), H', I', rfl, ?_⟩
  rw [Bool.true_xor] at q'
  exact q'
def oOwnIn (c : Str) (w : WF) (neg : Bool) : OD := fun x y S Q => (∃ fds, y = .ins c fds) ∧ w [y, x] S fun d S2 => ∃ b, d = .bl b ∧ Q (.bl (neg ^^ b)) S2
theorem snd_ownIn {mg : MG} {neg : Bool} (hC : mg.f c = some (.ref C)) : SndR mg (rOwnIn C (spW mg 2 w) neg) (oOwnIn c w neg) := by
  intro A S H x y dx dy Q Q' R hx hy q kk
  obtain ⟨⟨fds, rfl⟩, q⟩ := q
  cases hy with
  | @ins a C' d _ fs _ na ec r l =>
    cases hC.symm.trans (show mg.f _ = _ from ec)
    refine ⟨⟨a, d, fs, rfl, r⟩, A, S, [_, _], _, R, .cons (.ins na hC r l) (.cons hx .nil), rfl, q, fun d' S' A' v H' g R' hv z => ?_⟩
    obtain ⟨b, rfl, z⟩ := z
    cases hv
    exact ⟨b, rfl, kk _ S' A' _ H' g R' (.bl _) z⟩
/-! ### own != own, by its == -/
def rOwnNe (C : Addr) (sp : Sp) : L2.R2 := fun x y H Q => Ins C H x ∧ Ins C H y ∧ sp [x, y] H (fun v H' => ∃ b, v = .bl b ∧ Q (.bl (!b)) H') E0
theorem call_objNe {prog : Program} {w : World} {A : Around} {E : Value → Shared → Prop} {s : Shared} {K : PySem.W.Frag} {x C f : Addr} {ox : Obj} {od : Option Obj} {b : Value} {Q : Value → Shared → Prop} (hu : A.units + 1 < cLine) (X : K.In s.heap) (I : PySem.W.InstAt s.heap x ox C od)
    (hm : PySem.W.mroIn K C (.type "object") = some true) (hs : PySem.W.findIn K (.ref C) "__eq__" = some (some (.ref f))) (hf : PySem.W.isFn K (.ref f) = true)
    (h : wpAny (model prog w) A.in1 (call (.ref f) [.ref x, b]) (fun v s' => ∃ r, v = .bool r ∧ Q (.bool (!r)) s') E s) :
    wpAny (model prog w) A (call (.builtin "object.__ne__") [.ref x, b]) Q E s := by
  refine wpAny_call (codeAny_call_builtin PySem.F.cmp_object.ne.plain PySem.F.cmpEntry_ne (PySem.W.check_slot PySem.F.cmpKind_ne PySem.F.cmpSplit_ne (I.type.andThen (PySem.W.looks_mroIn X hm)) (PySem.F.cmpArgs_ne _ _) ?_))
  unfold Builtin.«object.__ne__»
  refine wpAny_bind (m := slotArgs "__ne__" 1 _) (wpAny_pure ?_)
  dsimp only
  refine wpAny_bind (wpAny_cRoomFor hu ?_)
  refine wpAny_bind (PySem.W.ifBound_K X I hs hf (wpAny_mono h (fun v s' z => ?_) fun _ _ z => z))
  obtain ⟨r, rfl, z⟩ := z
  dsimp only
  exact wpAny_bind (wpAny_truthy_bool (wpAny_pure z))
theorem ifBound_objNe {M : Model} {A : Around} {E : Value → Shared → Prop} {s : Shared} {K : PySem.W.Frag} {x C : Addr} {ox : Obj} {od : Option Obj} {args : List Value} {Q : Option Value → Shared → Prop} (X : K.In s.heap) (I : PySem.W.InstAt s.heap x ox C od) (hs : PySem.W.findIn K (.ref C) "__ne__" = some (some (.builtin "object.__ne__")))
    (h : wpAny M A (call (.builtin "object.__ne__") (.ref x :: args)) (fun v => Q (some v)) E s) : wpAny M A (callSpecialIfBound? (.ref x) "__ne__" args) Q E s := by
  simp only [callSpecialIfBound?, bindSpecialIfBound?]
  refine wpAny_holding (wpAny_bind (wpAny_bind (wpAny_bind (I.type.here ((PySem.W.looks_findIn X hs).here ?_)))))
  refine wpAny_bind (wpAny_askSetting (wpAny_ite ?_))
  have fin : wpAny M A (call (.builtin "object.__ne__") ([.ref x] ++ args) >>= fun v => pure (some v)) Q E s := wpAny_bind (wpAny_mono h (fun v s' h' => wpAny_pure h') fun _ _ h' => h')
  split
  · exact wpAny_bind (wpAny_of_eq (PySem.F.cmp_object.ne.bind _) (wpAny_pure (by exact fin)))
  · exact wpAny_tryCatch (wpAny_bind (wpAny_of_eq (PySem.F.cmp_object.ne.bind _) (wpAny_pure (by exact fin))))
theorem op_ownNe (hu : X.A.units + 1 < cLine) (M : OwnM X.K C "__eq__" g) (hne : PySem.W.findIn X.K (.ref C) "__ne__" = some (some (.builtin "object.__ne__"))) (hm : PySem.W.mroIn X.K C (.type "object") = some true)
    (F : FnOk X.prog X.w X.K X.mg X.base CX0 k g fd ps sp) (hr : Room k X.A.in1) (hb : Binds X.K fd ps []) : OpR X (compareOp .NotEq) (rOwnNe C sp) := by
  intro pins s σ H x y v u Q I rx ry h
  obtain ⟨⟨a, dx, fs, rfl, ha⟩, ⟨b, dy, gs, rfl, hb'⟩, q⟩ := h
  cases (show v = Value.ref a from rx)
  cases (show u = Value.ref b from ry)
  obtain ⟨mA, OM, _⟩ := ins_get I.hok ha
  obtain ⟨od, J, _⟩ := OM.look
  obtain ⟨mB, OM', _⟩ := ins_get I.hok hb'
  obtain ⟨od', J', _⟩ := OM'.look
  have X0 := I.kIn
  have one : wpAny (model X.prog X.w) X.A (tryCompare (.ref a) "__ne__" (.ref b)) (fun r s' => ∃ v, r = some v ∧ EP X pins σ Q v s') X.xe s := by
    unfold tryCompare
    refine wpAny_bind (ifBound_objNe X0 J hne (call_objNe hu X0 J hm M.at_ M.fn ?_))
    refine wpAny_mono (run_at (us := [.ref a, .ref b]) (vs := [.ref a, .ref b]) (A := X.A.in1) F hr I.env0.in1 hb I (.cons rfl (.cons rfl .nil)) q) (fun r s' z => ?_) fun _ _ e => e
    obtain ⟨z, H', I', rz, r, ez, q'⟩ := z
    subst ez
    cases rz
    exact ⟨r, rfl, wpAny_pure ⟨_, rfl, .bl (!r), H', I', rfl, q'⟩⟩
  show wpAny (model X.prog X.w) X.A (richCompare .NotEq (.ref a) (.ref b)) _ _ _
  unfold richCompare
  simp only [oneThing_ref]
  refine wpAny_holding (wpAny_bind (wpAny_cRoomFor (by omega) ?_))
  refine wpAny_bind (J.type.here (wpAny_bind (J'.type.here ?_)))
  rw [show (Value.ref C != Value.ref C) = false from by simp]
  simp only [Bool.false_eq_true, if_false]
  refine wpAny_bind (wpAny_pure ?_)
  simp only [Bool.false_eq_true, if_false]
  refine wpAny_bind (wpAny_mono one (fun r s' z => ?_) fun _ _ e => e)
  obtain ⟨v, rfl, hq⟩ := z
  exact wpAny_pure hq
def oOwnNe (c : Str) (w : WF) : OD := fun x y S Q => (∃ fds, x = .ins c fds) ∧ (∃ fds, y = .ins c fds) ∧ w [x, y] S fun d S2 => ∃ b, d = .bl b ∧ Q (.bl (!b)) S2
theorem snd_ownNe {mg : MG} (hC : mg.f c = some (.ref C)) : SndR mg (rOwnNe C (spW mg 2 w)) (oOwnNe c w) := by
  intro A S H x y dx dy Q Q' R hx hy q kk
  obtain ⟨⟨fds, rfl⟩, ⟨gds, rfl⟩, q⟩ := q
  cases hx with
  | @ins a C' d _ fs _ na ec r l =>
    cases hC.symm.trans (show mg.f _ = _ from ec)
    cases hy with
    | @ins b C' d2 _ gs _ nb ec' r' l' =>
      cases hC.symm.trans (show mg.f _ = _ from ec')
      refine ⟨⟨a, d, fs, rfl, r⟩, ⟨b, d2, gs, rfl, r'⟩, A, S, [_, _], _, R, .cons (.ins na hC r l) (.cons (.ins nb hC r' l') .nil), rfl, q, fun d' S' A' v H' g R' hv z => ?_⟩
      obtain ⟨b, rfl, z⟩ := z
      cases hv
      exact ⟨b, rfl, kk _ S' A' _ H' g R' (.bl _) z⟩
/-! ### own op= own, without a method for op= -/
structure NoIn (K : PySem.W.Frag) (C : Addr) (op : Operator) : Prop where
  mro : ∃ cd, PySem.W.clsIn K C = some cd ∧ cd.mro = [.ref C, .type "object"]
  own : PySem.W.findIn K (.ref C) (dunderI op.info.2) = some none
  obj : PySem.W.findIn K (.type "object") (dunderI op.info.2) = some none
theorem looks_noIn {K : PySem.W.Frag} {M : Model} {h : Heap} {C : Addr} {op : Operator} {add : Bool} (X : K.In h) (n : NoIn K C op) : PySem.W.Looks M h (fillsInplaceSlot (.ref C) op.info.2 add) false := by
  obtain ⟨cd, e, em⟩ := n.mro
  unfold fillsInplaceSlot
  have L : PySem.W.Looks M h (mroOf (.ref C)) [.ref C, .type "object"] := by
    rw [← em]
    exact (PySem.W.looks_clsIn X e).andThen .now
  refine L.andThen ?_
  have a1 := PySem.W.looks_findIn (M := M) X n.own
  have a2 := PySem.W.looks_findIn (M := M) X n.obj
  exact ((a1.andThen .now : PySem.W.Looks M h _ false)).andThen ((a2.andThen .now : PySem.W.Looks M h _ false).andThen .now)
theorem inop_ownK {prog : Program} {w : World} {A : Around} {E : Value → Shared → Prop} {s : Shared} {K : PySem.W.Frag} {x L f : Addr} {h₀ : Heap} {m : Str → Option Value} {ox : Obj} {od : Option Obj} {op : Operator} {b : Value} {Q : Value → Shared → Prop} (F : Fr h₀ L s.heap m) (X₀ : K.In h₀) (I : PySem.W.InstAt s.heap x ox C od)
    (hb : PySem.W.Looks (model prog w) s.heap (typeOf b) (.ref C)) (hc : PySem.W.selfFirst K C = true) (n : NoIn K C op)
    (hs : PySem.W.findIn K (.ref C) (PySem.dunder op.info.2) = some (some (.ref f))) (hf : PySem.W.isFn K (.ref f) = true)
    (h : wpAny (model prog w) A (call (.ref f) [.ref x, b]) (PySem.W.CmpBack Q) E s) : wpAny (model prog w) A (inplaceOp op (.ref x) b) Q E s := by
  have X := X₀.keeps F.keep
  obtain ⟨cd, rest, hcd, hm⟩ := PySem.W.ksp_first hc
  have L0 := looks_noIn (M := model prog w) (add := op == .Add) X n
  unfold inplaceOp
  refine wpAny_holding (wpAny_bind (I.type.here (wpAny_bind (L0.here ?_))))
  simp only [Bool.false_eq_true, if_false]
  refine wpAny_bind ?_
  unfold binaryOp1
  refine wpAny_bind (I.type.here (wpAny_bind (hb.here (wpAny_bind ((PySem.W.fills_K X hcd hm hs).here ?_)))))
  simp only [beq_self_eq_true, if_true]
  refine wpAny_bind (wpAny_pure ?_)
  simp only [Bool.and_false, Bool.false_eq_true, if_false, Bool.false_and]
  refine wpAny_bind (wpAny_pure ?_)
  simp only [Bool.false_eq_true, if_false]
  refine wpAny_bind (m := tryMethod (.ref x) _ b) ?_
  unfold tryMethod
  refine wpAny_bind (PySem.W.special_fn X I hs (beq_iff_eq.mp hf) (wpAny_mono h (fun v s' hv => ?_) fun _ _ e => e))
  cases v <;> first | exact hv.elim | exact wpAny_pure (wpAny_pure (wpAny_pure hv))
def rOwn2 (C : Addr) (sp : Sp) : L2.R2 := fun x y H Q => Ins C H x ∧ Ins C H y ∧ sp [x, y] H Q E0
theorem op_ownAug {op : Operator} (O : PySem.W.selfFirst X.K C = true) (n : NoIn X.K C op) (M : OwnM X.K C (PySem.dunder op.info.2) g)
    (F : FnOk X.prog X.w X.K X.mg X.base CX0 k g fd ps sp) (hr : Room k X.A) (hb : Binds X.K fd ps []) : OpR X (inplaceOp op) (rOwn2 C sp) := by
  intro pins s σ H x y v u Q I rx ry h
  obtain ⟨⟨a, dx, fs, rfl, ha⟩, ⟨b, dy, gs, rfl, hb'⟩, q⟩ := h
  cases (show v = Value.ref a from rx)
  cases (show u = Value.ref b from ry)
  obtain ⟨mA, OM, _⟩ := ins_get I.hok ha
  obtain ⟨od, J, _⟩ := OM.look
  obtain ⟨mB, OM', _⟩ := ins_get I.hok hb'
  obtain ⟨od', J', _⟩ := OM'.look
  obtain ⟨m, hF⟩ := I.fr
  have run := run_fn (us := [.ref a, .ref b]) (vs := [.ref a, .ref b]) F hr hb .nil pass0 I (.cons rfl (.cons rfl .nil)) q
  refine inop_ownK hF I.ok.mod.kin J J'.type O n M.at_ M.fn (wpAny_mono run (fun w s' z => ?_) fun _ _ e => e)
  obtain ⟨z', H', I', rz, qz⟩ := z
  exact cmpback rz ⟨z', H', I', rz, qz⟩
theorem op_own2 {op : Operator} (O : PySem.W.selfFirst X.K C = true) (M : OwnM X.K C (PySem.dunder op.info.2) g)
    (F : FnOk X.prog X.w X.K X.mg X.base CX0 k g fd ps sp) (hr : Room k X.A) (hb : Binds X.K fd ps []) : OpR X (binaryOp op) (rOwn2 C sp) := by
  intro pins s σ H x y v u Q I rx ry h
  obtain ⟨⟨a, dx, fs, rfl, ha⟩, ⟨b, dy, gs, rfl, hb'⟩, q⟩ := h
  cases (show v = Value.ref a from rx)
  cases (show u = Value.ref b from ry)
  obtain ⟨mA, OM, _⟩ := ins_get I.hok ha
  obtain ⟨od, J, _⟩ := OM.look
  obtain ⟨mB, OM', _⟩ := ins_get I.hok hb'
  obtain ⟨od', J', _⟩ := OM'.look
  obtain ⟨m, hF⟩ := I.fr
  have run := run_fn (us := [.ref a, .ref b]) (vs := [.ref a, .ref b]) F hr hb .nil pass0 I (.cons rfl (.cons rfl .nil)) q
  refine PySem.W.binop_K hF I.ok.mod.kin J J'.type O M.at_ M.fn (wpAny_mono run (fun w s' z => ?_) fun _ _ e => e)
  obtain ⟨z', H', I', rz, qz⟩ := z
  exact cmpback rz ⟨z', H', I', rz, qz⟩
theorem op_ownCmp2 {op : CmpOp} (hop : ∀ a b, compareOp op a b = richCompare op a b) (M : OwnM X.K C (cmpInfo op).2.1 g)
    (F : FnOk X.prog X.w X.K X.mg X.base CX0 k g fd ps sp) (hr : Room k X.A) (hb : Binds X.K fd ps []) : OpR X (compareOp op) (rOwn2 C sp) := by
  intro pins s σ H x y v u Q I rx ry h
  obtain ⟨⟨a, dx, fs, rfl, ha⟩, ⟨b, dy, gs, rfl, hb'⟩, q⟩ := h
  cases (show v = Value.ref a from rx)
  cases (show u = Value.ref b from ry)
  obtain ⟨mA, OM, _⟩ := ins_get I.hok ha
  obtain ⟨od, J, _⟩ := OM.look
  obtain ⟨mB, OM', _⟩ := ins_get I.hok hb'
  obtain ⟨od', J', _⟩ := OM'.look
  obtain ⟨m, hF⟩ := I.fr
  have run := run_fn (us := [.ref a, .ref b]) (vs := [.ref a, .ref b]) F hr hb .nil pass0 I (.cons rfl (.cons rfl .nil)) q
  rw [hop]
  refine PySem.W.cmp_K (tb := .ref C) hr.units0 hF I.ok.mod.kin J J'.type (by simp [PySem.W.notFirst]) M.at_ M.fn (wpAny_mono run (fun w s' z => ?_) fun _ _ e => e)
  obtain ⟨z', H', I', rz, qz⟩ := z
  exact cmpback rz ⟨z', H', I', rz, qz⟩
def oOwn2 (c : Str) (w : WF) : OD := fun x y S Q => (∃ fds, x = .ins c fds) ∧ (∃ fds, y = .ins c fds) ∧ w [x, y] S Q
theorem snd_own2 {mg : MG} (hC : mg.f c = some (.ref C)) : SndR mg (rOwn2 C (spW mg 2 w)) (oOwn2 c w) := by
  intro A S H x y dx dy Q Q' R hx hy q kk
  obtain ⟨⟨fds, rfl⟩, ⟨gds, rfl⟩, q⟩ := q
  cases hx with
  | @ins a C' d _ fs _ na ec r l =>
    cases hC.symm.trans (show mg.f _ = _ from ec)
    cases hy with
    | @ins b C' d2 _ gs _ nb ec' r' l' =>
      cases hC.symm.trans (show mg.f _ = _ from ec')
      exact ⟨⟨a, d, fs, rfl, r⟩, ⟨b, d2, gs, rfl, r'⟩, A, S, [_, _], _, R, .cons (.ins na hC r l) (.cons (.ins nb hC r' l') .nil), rfl, q, kk⟩
end
end DL

set_option Elab.async false
set_option linter.all false
set_option maxRecDepth 100000
/-! x op= e; dicts that stand for sets compared; lists of own objects, all equal. -/
namespace DL
open PySem PySem.Spec PyProof.Rows L2
/-! ### dicts that stand for sets: all values True -/
def rEqDT : L2.R2 := fun x y H Q => ∃ a b ks ls, x = .ref a ∧ y = .ref b ∧ Rd H a (.dK ks) ∧ Rd H b (.dK ls) ∧ (∀ p ∈ ks, p.2 = .bl true) ∧ (∀ p ∈ ls, p.2 = .bl true) ∧ Q (.bl (ks.length == ls.length && ks.all fun p => (valV ls p.1).isSome)) H
theorem valV_mem {ks : List (Key × V)} {k : Key} {v : V} (h : valV ks k = some v) : ∃ p ∈ ks, p.2 = v := by
  unfold valV at h
  cases e : ks.find? fun kv => decide (kv.1 = k) with
  | none => rw [e] at h; cases h
  | some p => rw [e] at h; cases h; exact ⟨p, List.mem_of_find?_eq_some e, rfl⟩
theorem hitsT {A : Around} {s : Shared} {ls : List (Key × V)} {vb : List (Key × Value)} (rb : KV ls vb) (hl : ∀ p ∈ ls, p.2 = .bl true) : ∀ {ks : List (Key × V)} {va : List (Key × Value)}, KV ks va → (∀ p ∈ ks, p.2 = .bl true) →
    PySem.W.KeqHits A s vb va (ks.all fun p => (valV ls p.1).isSome) := by
  intro ks va r
  unfold KV at r
  induction r with
  | nil => exact fun _ => .nil
  | @cons p q ps qs h t ih =>
    intro hk
    obtain ⟨p1, p2⟩ := p
    obtain ⟨q1, q2⟩ := q
    obtain ⟨h1, h2⟩ := h
    dsimp only at h1 h2
    subst h1
    have e := hk (p1, p2) List.mem_cons_self
    dsimp only at e
    subst e
    cases (show q2 = Value.bool true from h2)
    have rv := rb.val p1
    have ih' := ih fun p hp => hk p (List.mem_cons_of_mem _ hp)
    rw [List.all_cons]
    cases e1 : valV ls p1 with
    | none =>
      rw [e1] at rv
      cases e2 : valueAt vb p1 with
      | none => exact .miss e2
      | some u => rw [e2] at rv; exact rv.elim
    | some y =>
      obtain ⟨p', hp', ey⟩ := valV_mem e1
      have := hl p' hp'
      rw [ey] at this
      subst this
      rw [e1] at rv
      cases e2 : valueAt vb p1 with
      | none => rw [e2] at rv; exact rv.elim
      | some u =>
        rw [e2] at rv
        cases (show u = Value.bool true from rv)
        exact .hit e2 (SeqAt.EqAt.same _) ih'
section
variable {X : Cx}
theorem op_eqDT (hu : X.A.units < cLine) : OpR X (compareOp .Eq) rEqDT := by
  intro pins s σ H x y v u Q I rx ry h
  obtain ⟨a, b, ks, ls, rfl, rfl, ea, eb, hk, hl, q⟩ := h
  obtain rfl : v = Value.ref a := rx
  obtain rfl : u = Value.ref b := ry
  obtain ⟨_, ya, va, ra, da⟩ := dk_rd I.hok ea
  obtain ⟨_, yb, vb, rb, db⟩ := dk_rd I.hok eb
  exact PySem.W.keq_eq (knd := mixKind X.prog X.w) ya yb da db hu (fun _ => hitsT rb hl ra hk) (fin_bl I q (by rw [ra.length, rb.length]))
end
def oEqDT : OD := fun x y S Q => ∃ ks ls, dctAt S x = some ks ∧ dctAt S y = some ls ∧ (∀ p ∈ ks, p.2 = .bl true) ∧ (∀ p ∈ ls, p.2 = .bl true) ∧ Q (.bl (ks.length == ls.length && ks.all fun p => (valD ls p.1).isSome)) S
section
variable {mg : MG} {A : List Addr} {H : Hp}
theorem IsK.allT : ∀ {ks : List (Key × V)} {ds : List (Key × D)}, IsK mg A H ks ds → (∀ p ∈ ds, p.2 = .bl true) → ∀ p ∈ ks, p.2 = .bl true
  | _, _, .nil, _ => fun p hp => by cases hp
  | _, _, .cons (f := f) (v := v) (d := d) h t, e => fun p hp => by
    rcases List.mem_cons.mp hp with rfl | hp
    · have := e (f, d) List.mem_cons_self
      dsimp only at this
      subst this
      cases h
      rfl
    · exact IsK.allT t (fun q hq => e q (List.mem_cons_of_mem _ hq)) p hp
theorem IsK.allIn {ls : List (Key × V)} {es : List (Key × D)} (l : IsK mg A H ls es) : ∀ {ks : List (Key × V)} {ds : List (Key × D)}, IsK mg A H ks ds → (ks.all fun p => (valV ls p.1).isSome) = ds.all fun p => (valD es p.1).isSome
  | _, _, .nil => rfl
  | _, _, .cons h t => by rw [List.all_cons, List.all_cons, IsK.allIn l t, l.some]
end
theorem snd_eqDT {mg : MG} : SndR mg rEqDT oEqDT := by
  intro A S H x y dx dy Q Q' R hx hy q kk
  obtain ⟨ks, ls, e1, e2, h1, h2, q⟩ := q
  obtain ⟨a, kvs, rfl, r, l⟩ := hx.dict R e1
  obtain ⟨b, lvs, rfl, r', l'⟩ := hy.dict R e2
  refine ⟨a, b, kvs, lvs, rfl, rfl, r, r', l.allT h1, l'.allT h2, ?_⟩
  rw [l.length, l'.length, l'.allIn l]
  exact kk _ S A _ H .refl R (.bl _) q
/-! ### lists of own objects, all equal -/
def lsM (S : MS) : D → Option (List D)
  | .lst ds => some ds
  | .mut m => lsAt S m
  | _ => none
theorem Is.lstM {mg : MG} {A : List Addr} {S : MS} {H : Hp} {v : V} {d : D} {ds : List D} (R : Rep mg A S H) (h : Is mg A H v d) (e : lsM S d = some ds) : ∃ a vs, v = .ref a ∧ H a = some (.lst vs) ∧ IsL mg A H vs ds := by
  cases h with
  | @lst a vs es n r l => cases e; exact ⟨a, vs, rfl, r, l⟩
  | @«mut» a m ea =>
    obtain ⟨vs, h1, l⟩ := R.at_ m a (.l ds) ea (lsAt_eq e)
    exact ⟨a, vs, rfl, h1, l⟩
  | _ => cases e
def SameAll (c : Str) (same : D → D → Prop) (xs ys : List D) : Prop := xs.length = ys.length ∧ ∀ (i : Nat) dx dy, xs[i]? = some dx → ys[i]? = some dy → (∃ f, dx = .ins c f) ∧ (∃ f, dy = .ins c f) ∧ Lo 0 dx ∧ Lo 0 dy ∧ same dx dy
def oOwnLs (c : Str) (same : D → D → Prop) : OD := fun x y S Q => ∃ xs ys, lsM S x = some xs ∧ lsM S y = some ys ∧ SameAll c same xs ys ∧ Q (.bl true) S
def RSame (mg : MG) (c : Str) (same : D → D → Prop) (a b : Addr) (H : Hp) : Prop := ∃ f g, Is mg [] H (.ref a) (.ins c f) ∧ Is mg [] H (.ref b) (.ins c g) ∧ same (.ins c f) (.ins c g)
theorem grow_ext {H H' : Hp} (e : L2.Ext H H') : Grow [] [] H H' := ⟨fun _ _ h => h, fun b o n h => ⟨e b o h, n⟩⟩
theorem less0 {A : List Addr} : Less [] A 0 := ⟨fun a h => (by cases h), fun i a h => (by omega)⟩
theorem snd_ownLs {mg : MG} {c : Str} {C : Addr} {same : D → D → Prop} (hC : mg.f c = some (.ref C)) : SndR mg (rEqG (DList (DIns C (RSame mg c same)))) (oOwnLs c same) := by
  intro A S H x y dx dy Q Q' R hx hy q kk
  obtain ⟨xs, ys, e1, e2, hs, q⟩ := q
  obtain ⟨a, vs, rfl, h1, l1⟩ := hx.lstM R e1
  obtain ⟨b, ws, rfl, h2, l2⟩ := hy.lstM R e2
  refine ⟨⟨a, b, vs, ws, rfl, rfl, h1, h2, by rw [l1.length, l2.length]; exact hs.1, fun i v w hv hw => ?_⟩, fun H' ex => ?_⟩
  · obtain ⟨d1, g1, i1⟩ := l1.getV hv
    obtain ⟨d2, g2, i2⟩ := l2.getV hw
    obtain ⟨⟨f, rfl⟩, ⟨g, rfl⟩, lo1, lo2, sm⟩ := hs.2 i d1 d2 g1 g2
    have j1 := i1.less less0 lo1
    have j2 := i2.less less0 lo2
    cases i1 with
    | @ins p C1 q1 _ fs _ n1 ec1 r1 _ =>
      cases hC.symm.trans (show mg.f _ = _ from ec1)
      cases i2 with
      | @ins p2 C2 q2 _ gs _ n2 ec2 r2 _ =>
        cases hC.symm.trans (show mg.f _ = _ from ec2)
        exact ⟨p, p2, q1, q2, fs, gs, rfl, rfl, r1, r2, f, g, j1, j2, sm⟩
  · have g : Grow A A H H' := ⟨fun _ _ h => h, fun b o n h => ⟨ex b o h, n⟩⟩
    exact kk _ S A _ H' g ⟨R.len, R.nd, fun i a o e1 e2 => (R.at_ i a o e1 e2).mono g fun u hu => ex a u hu⟩ (.bl _) q
section
variable {X : Cx} {k : Nat} {C f : Addr} {fd : FuncData} {ps : List Str} {c : Str} {w : WF} {same : D → D → Prop}
theorem op_ownLs (F : FnOk X.prog X.w X.K X.mg X.base CX0 k f fd ps (spW X.G 2 w)) (hw : ∀ dx dy S Q, same dx dy → Q (.bl true) S → w [dx, dy] S Q) (M : OwnM X.K C "__eq__" f) (hr : Room (k + 1) X.A) (hb : Binds X.K fd ps []) :
    OpR X (compareOp .Eq) (rEqG (DList (DIns C (RSame X.G c same)))) := by
  have F' : FnOk X.prog X.w X.K X.mg X.base CX0 k f fd ps (spEq (RSame X.G c same)) := F.imp fun vs H Q E h => by
    obtain ⟨a, b, rfl, ⟨f, g, i1, i2, sm⟩, kk⟩ := h
    refine ⟨[], [], [.ins c f, .ins c g], fun d _ => d = .bl true, ⟨rfl, List.nodup_nil, fun i a o e => by simp at e⟩, .cons i1 (.cons i2 .nil), rfl, hw _ _ _ _ sm rfl, fun d S' A' v H' g R' hv e => ?_⟩
    subst e
    cases hv
    exact kk H' fun b o e => (g.keep b o (by simp) e).1
  refine op_eqG (rcG_list (mon_ins fun a b H H' e r => ?_) (eqG_ins F' M.at_ M.fn hb pass0)) hr
  obtain ⟨f, g, i1, i2, sm⟩ := r
  exact ⟨f, g, i1.mono (grow_ext e), i2.mono (grow_ext e), sm⟩
end
/-! ### x op= e -/
def sAugD (i : Nat) (we : WD) (o : OD) : WS := fun DD ρ S => ∃ x, ρ[i]? = some (some x) ∧ we ρ S fun y S1 => o x y S1 fun z S2 => DD.nx (ρ.set i (some z)) S2
theorem ds_aug {X : Cx} {i : Nat} {x : Str} {e : Expr} {te : TE} {we : WD} {op : Operator} {r : L2.R2} {o : OD} {pos pos' : Pos} (hN : X.N.Nodup) (ho : OpR X (inplaceOp op) r) (hs : SndR X.G r o) (he : PD X e te we) (hi : X.N[i]? = some x := by rfl) (hx : Loc X.env.scope x := by first | exact Or.inl rfl | exact Or.inr rfl)
    (hf : X.fn x = true ∨ X.env.scope.names.lookup x = some .local := by first | exact .inl rfl | exact .inr rfl) : PDS X (.AugAssign (.Name x pos') op e pos) (tAug i te r) (sAugD i we o) := by
  refine ⟨ps_aug hN hi hx he.pe (fun pins s σ H x y v u Q I rx ry q => ho pins s σ H x y v u Q I rx ry q) hf, fun A S σ H ρ D D' R E h k => ?_⟩
  obtain ⟨d, ed, h⟩ := h
  obtain ⟨v, ev, hv⟩ := E.at_ i d ed
  refine ⟨v, ev, he.sd A S σ H ρ _ _ R E h fun y S1 A1 vy H1 g1 R1 hy q1 => ?_⟩
  refine hs A1 S1 H1 v vy d y _ _ R1 (hv.mono g1) hy q1 fun z S2 A2 vz H2 g2 R2 hz q2 => ?_
  exact k.nx _ S2 A2 _ H2 (g1.trans g2) R2 ((E.mono (g1.trans g2)).set i hz) q2
end DL

set_option Elab.async false
set_option linter.all false
set_option maxRecDepth 100000
/-! Tuples of the written part by their names; bool(d); list(range(..)). -/
namespace DL
open PySem PySem.Spec PyProof.Rows L2
/-! ### a tuple of the written part -/
structure KTup (K : PySem.W.Frag) (a : Addr) (xs : List V) : Prop where
  at_ : ∃ (o : Obj) (its : Array Value) (n : Nat), K.lookup a = some o ∧ o.cls = .type "tuple" ∧ o.data = .seq its n ∧ its.size ≤ sizeLine ∧ Vals xs its.toList
theorem d_globT {X : Cx} {x : Str} {a : Addr} {xs : List V} {ds : List D} {pos : Pos} (hm : X.mg x = some (.ref a)) (kt : KTup X.K a xs) (l : ∀ A H, IsL X.G A H xs ds) (hg : Gl X x := by rfl) (hd : (x == ("__debug__" : Str)) = false := by decide) : PD X (.Name x pos) (tC (.ref a)) (wC (.tpk ds)) :=
  ⟨pe_glob hg hm rfl hd, snd_c fun A H => .tupK (fun _ => .inr kt.at_) (l A H)⟩
/-! ### bool(d), d a dict -/
theorem call_boolD {X : Cx} : CallR X (.type "bool") (fun xs H Q => ∃ (a : Addr) (kvs : List (Key × V)), xs = [.ref a] ∧ Rd H a (.dK kvs) ∧ Q (.bl (!kvs.isEmpty)) H) := by
  intro pins s σ H xs us Q I r h
  obtain ⟨a, kvs, rfl, hd, q⟩ := h
  obtain ⟨u, rfl, ru⟩ := vals1 r
  cases (show u = Value.ref a from ru)
  obtain ⟨z, lo, vs, rel, dd⟩ := dk_rd I.hok hd
  have hl := line63
  have hlen := rel.length
  have e0 : (!vs.isEmpty) = !kvs.isEmpty := isEmpty_kv rel
  refine callType_newIn (S := fun A R s => s.heap.DictOf (mixKind X.prog X.w) a vs ∧ R (.ok (.ret (.bool (!vs.isEmpty)))) { s with toks := s.toks + 1 + 1 })
    PySem.F.called_bool PySem.F.newNe_bool (PySem.F.typeCall_bool_1 _) (PySem.F.newCall_bool_1 _) (fun obj => PySem.F.args_object_init_2 obj _) PySem.F.entry_bool_new ?_ ?_
  · refine MeetsIn.of_wp fun A R s hs => ?_
    obtain ⟨hm, hs⟩ := hs
    have f1 := PySem.F.conv_sub_bool
    obtain ⟨hp, g, d, tk, os⟩ := s
    unfold Builtin.«bool.__new__»
    repeat (any_goals (first | assumption | (with_reducible refine wpAny_truthy_dict (knd := mixKind X.prog X.w) (kvs := vs) lo hm (by omega) ?_) | wp_step))
    all_goals first | exact ⟨_, rfl, hs⟩ | exact hs | skip
  · refine ⟨dd, rfl, .bl (!kvs.isEmpty), H, I.tok _, ?_, q⟩
    rw [← e0]
    rfl
def oBoolD : LD := fun ds S Q => match ds with
  | [x] => ∃ kds, dctAt S x = some kds ∧ Q (.bl (!kds.isEmpty)) S
  | _ => False
theorem snd_boolD {mg : MG} : SndC mg (fun xs H Q => ∃ (a : Addr) (kvs : List (Key × V)), xs = [.ref a] ∧ Rd H a (.dK kvs) ∧ Q (.bl (!kvs.isEmpty)) H) oBoolD := by
  intro A S H xs ds Q Q' R l q k
  match ds, q, l with
  | [x], ⟨kds, e, q⟩, l =>
    obtain ⟨v, rfl, hv⟩ := l.one
    obtain ⟨a, kvs, rfl, r, lk⟩ := hv.dict R e
    refine ⟨a, kvs, rfl, r, ?_⟩
    rw [isEmpty_isK lk]
    exact k _ S A _ H .refl R (.bl _) q
/-! ### list(range(n)), list(range(i, j)) -/
def wListRg (w : WL) : WD := fun ρ S Q => w ρ S fun ds S1 => match ds with
  | [.int n] => (0 ≤ n ∧ n ≤ 16777216) ∧ Q (.lst (rangeD 0 n.toNat)) S1
  | _ => False
theorem range_isL {mg : MG} {A : List Addr} {H : Hp} (n : Int) : IsL mg A H (rgV 0 n) (rangeD 0 n.toNat) := by
  unfold rgV rangeD
  rw [Int.sub_zero]
  generalize List.range n.toNat = l
  induction l with
  | nil => exact .nil
  | cons i l ih => exact .cons (.int _) ih
theorem d_listRg {X : Cx} {a : Expr} {ta : TE} {wa : WD} {p p2 pos pos2 : Pos} (hc : X.calm = true) (hm : X.mg "list" = none) (hr : X.mg "range" = none) (ha : PD X a ta wa) (hg : Gl X "list" := by rfl) (hg2 : Gl X "range" := by rfl) (na : starEach [a] X.env = (false, eval a X.env) :: starEach [] X.env := by rfl)
    (na2 : starEach [.Call (.Name "range" p2) [a] [] pos2] X.env = (false, eval (.Call (.Name "range" p2) [a] [] pos2) X.env) :: starEach [] X.env := by rfl) :
    PD X (.Call (.Name "list" p) [.Call (.Name "range" p2) [a] [] pos2] [] pos) (tLstRg (tRg1 ta)) (wListRg (wCons wa wNil)) := by
  refine ⟨pe_listRg hc hg hm (prg_1 hg2 hr ha.pe na) na2, fun A S σ H ρ Q Q' R E h k => ?_⟩
  refine ha.sd A S σ H ρ _ _ R E h fun d S1 A1 v H1 g1 R1 hv q1 => ?_
  cases d <;> first | exact q1.elim | skip
  rename_i n
  cases hv
  obtain ⟨⟨h0, h1⟩, q1⟩ := q1
  refine ⟨n, rfl, RgOk.of_le (by omega) (by omega) (by omega) h0, fun q hq => ?_⟩
  have g := grow_new (o := .lst (rgV 0 n)) R1 hq
  exact k _ S1 A1 _ _ (g1.trans g) (R1.new hq) (.lst (R1.fresh hq) upd_same (range_isL n)) q1
end DL
namespace DL
open PySem PySem.Spec PyProof.Rows L2
theorem p_fz {X : Cx} {e : Expr} {t : TE} {w : WD} (h : PLC X e t w) : PLC X e t (wFz w) := ⟨d_fz h.pd, h.ps⟩
theorem room_2 {k : Nat} {A : Around} (r : Room k A) : A.units + 2 < cLine := by
  have := r.un
  omega
theorem Fz.inst {S : MS} {Q : D → MS → Prop} {c : Str} {fs : List (Str × D)} {E : MS} (h : LoF S.length fs) (q : Q (.ins c fs) S) : Fz S Q (.mut S.length) (S ++ .i c fs :: E) :=
  ⟨S, .i c fs :: E, rfl, rfl, fun _ _ z => .inl z, .inr ⟨S.length, .i c fs, rfl, Nat.le_refl _, by simp, h, q⟩⟩
end DL

set_option Elab.async false
set_option linter.all false
set_option maxRecDepth 100000
/-! The same rules in a comprehension (K given by hand); readings as functions of the data read. -/
namespace DL
open PySem PySem.Spec PyProof.Rows L2
section
variable {X : Cx} {K' : PySem.W.Frag} {C : Addr} {e : Expr} {te : TE} {we : WD} {c : Str} {pos : Pos}
theorem d_fldC {f' : Str} (he : PD X e te we) (hC : X.mg c = some (.ref C)) (cl : Cls X.K C) (na : NoAttr X.K C f') (hK : K' = X.K := by rfl) (hab : attributeBase e f' X.env (eval e X.env) = eval e X.env := by rfl) : PD X (.Attribute e f' pos) (tFld K' te f') (wFld c f' we) := by
  subst hK
  exact d_fld he hC cl na hab
theorem op_neDC (hu : X.A.units + 64 < cLine) (hK : K' = X.K := by rfl) : OpR X (compareOp .NotEq) (rNeD K') := by
  subst hK
  exact op_neD hu
theorem op_eqDC (hu : X.A.units + 64 < cLine) (hK : K' = X.K := by rfl) : OpR X (compareOp .Eq) (rEqD K') := by
  subst hK
  exact op_eqD hu
theorem op_inDC (hu : X.A.units + 65 < cLine) (hK : K' = X.K := by rfl) : OpR X (compareOp .In) (rInD K') := by
  subst hK
  exact op_inD hu
end
def rLenK (K : PySem.W.Frag) : List V → Hp → VK → Prop := fun xs H Q => ∃ p ys, xs = [.ref p] ∧ (SqL K H p ys ∨ SqT K H p ys) ∧ Q (.int ys.length) H
theorem call_lenC {X : Cx} {K' : PySem.W.Frag} (hK : K' = X.K := by rfl) : CallR X (.builtin "len") (rLenK K') := by
  subst hK
  exact call_len_seq
theorem snd_lenC {mg : MG} {K' : PySem.W.Frag} (hK : mg.K = K' := by rfl) : SndC mg (rLenK K') oLen := by
  subst hK
  exact snd_len
/-! ### readings by the data -/
def FldOf (c f : Str) (x : D) (k : D → Prop) : Prop := match x with
  | .ins c' fds => c' = c ∧ (match fds.lookup f with
    | some d => k d
    | none => False)
  | _ => False
theorem wFld_e {c f : Str} {we : WD} {ρ : DEnv} {S : MS} {Q : D → MS → Prop} : wFld c f we ρ S Q = we ρ S fun x S1 => FldOf c f x fun d => Q d S1 := rfl
def InsOf (c : Str) (x : D) (k : Prop) : Prop := match x with
  | .ins c' _ => c' = c ∧ k
  | _ => False
theorem wProp_e {c : Str} {w : WF} {we : WD} {ρ : DEnv} {S : MS} {Q : D → MS → Prop} : wProp c w we ρ S Q = we ρ S fun x S1 => InsOf c x (w [x] S1 Q) := by
  unfold wProp InsOf
  congr
  funext x S1
  cases x <;> rfl
def AtOf (ds : List D) (i : Int) (k : D → Prop) : Prop := match L2.atI ds i with
  | some d => k d
  | none => False
theorem atOf {ds : List D} {i : Int} {d : D} {k : D → Prop} (e : L2.atI ds i = some d) (q : k d) : AtOf ds i k := by
  unfold AtOf
  rw [e]
  exact q
theorem ixr_lst {ds : List D} {i : Int} {S : MS} {Q : D → MS → Prop} : oIx (.lst ds) (.int i) S Q = AtOf ds i fun d => Q d S := rfl
theorem ixr_scr {ds : List D} {i : Int} {S : MS} {Q : D → MS → Prop} : oIx (.scr ds) (.int i) S Q = AtOf ds i fun d => Q d S := rfl
theorem ixr_tup {ds : List D} {i : Int} {S : MS} {Q : D → MS → Prop} : oIx (.tup ds) (.int i) S Q = AtOf ds i fun d => Q d S := rfl
theorem ixr_tpk {ds : List D} {i : Int} {S : MS} {Q : D → MS → Prop} : oIx (.tpk ds) (.int i) S Q = AtOf ds i fun d => Q d S := rfl
end DL

set_option Elab.async false
set_option linter.all false
set_option maxRecDepth 100000
/-! list(zip(a, b)): the pairs are kept, so zip lays a new tuple each time. -/
namespace DL
open PySem PySem.Spec PyProof.Rows
abbrev IsZipK (h : Heap) (z TI TO : Addr) (a : Nat) (b : Bool) : Prop :=
  h.get? z = some { cls := .type "zip", dict := none, data := .fields #[rawInt a, .bool b, .bool false, .ref TI, .ref TO], slots := #[] }
section
variable {prog : Program} {w : World} {A : Around} {E : Value → Shared → Prop} {s : Shared}
theorem wpAny_loadIfAlive {M : Model} {a : Addr} {o : Obj} {Q : Option Obj → Shared → Prop} (h : s.heap.get? a = some o) (q : Q (some o) s) : wpAny M A (loadIfAlive a) Q E s := fun Γ p hΓ => by
  unfold loadIfAlive
  rw [Sem.wp_loadIfAlive, h]
  exact q
theorem zipK_free {z TI TO : Addr} {a : Nat} {b : Bool} {o : Obj} {Q : Bool → Shared → Prop} (hz : IsZipK s.heap z TI TO a b) (ha : s.heap.get? a = some o)
    (q : ∀ h', IsZipK h' z TI TO a true → Heap.SameBut z s.heap h' → Q false { s with heap := h' }) : wpAny (model prog w) A (Builtin.SmallTypes.ownedTupleIsFree (.ref z)) Q E s := by
  unfold Builtin.SmallTypes.ownedTupleIsFree
  refine wpAny_bind (wpAny_field hz rfl (x := rawInt a) rfl ?_)
  dsimp only [rawInt]
  refine wpAny_bind (wpAny_loadIfAlive (by rw [Int.toNat_natCast]; exact ha) ?_)
  simp only [Option.isNone_some, Bool.false_eq_true, if_false]
  refine wpAny_bind (wpAny_field hz rfl (x := .bool b) rfl ?_)
  cases b with
  | true =>
    rw [if_neg (by simp)]
    exact wpAny_pure (q _ hz (Heap.SameBut.refl _ _))
  | false =>
    rw [if_pos (by simp)]
    exact wpAny_bind (wpAny_setField_rec hz (by simp) fun h' hz' hs' => wpAny_pure (q h' hz' hs'))
theorem zipK_next_item {z TI TO i1 i2 l1 l2 : Addr} {k1 k2 : Nat} {xs ys : Array Value} {x y : Value} {a : Nat} {b : Bool} {o : Obj} {Q : Value → Shared → Prop} (D : ZipApart z TI TO i1 i2 l1 l2)
    (hz : IsZipK s.heap z TI TO a b) (ha : s.heap.get? a = some o) (hTI : IsPair s.heap TI (.ref i1) (.ref i2))
    (h1 : s.heap.IsListIter i1 l1 k1) (h2 : s.heap.IsListIter i2 l2 k2) (hl1 : s.heap.IsList l1 xs) (hl2 : s.heap.IsList l2 ys) (hx : xs[k1]? = some x) (hy : ys[k2]? = some y)
    (hQ : ∀ h', IsZipK h' z TI TO a true → h'.IsListIter i1 l1 (k1 + 1) → h'.IsListIter i2 l2 (k2 + 1) → IsPair h' s.heap.objs.size x y → h'.objs.size = s.heap.objs.size + 1 →
      (∀ c o, c ≠ z → c ≠ i1 → c ≠ i2 → s.heap.get? c = some o → h'.get? c = some o) → Q (.ref s.heap.objs.size) { s with heap := h' }) :
    wpAny (model prog w) A (Builtin.«zip.__next__» ⟨[.ref z], []⟩) (fun fin s' => ∃ v, fin = .done (.ret v) ∧ Q v s') E s := by
  show wpAny _ _ (field (.ref z) 2 >>= _) _ _ _
  refine wpAny_bind (wpAny_field hz rfl (x := .bool false) rfl ?_)
  show wpAny _ _ (field (.ref z) 3 >>= _) _ _ _
  refine wpAny_bind (wpAny_field hz rfl (x := .ref TI) rfl ?_)
  refine wpAny_bind (wpAny_seqItems hTI rfl ?_)
  show wpAny _ _ (Builtin.SmallTypes.ownedTupleIsFree (.ref z) >>= _) _ _ _
  refine wpAny_bind (zipK_free hz ha fun h₁ hz₁ hs₁ => ?_)
  simp only [Bool.false_eq_true, if_false]
  refine wpAny_bind ?_
  rw [← Array.forIn_toList]
  simp only [List.forIn_cons, List.forIn_nil]
  refine wpAny_bind (wpAny_bind (wpAny_holding ?_))
  show wpAny _ _ (Builtin.SmallTypes.nextOf (.ref i1) >>= _) _ _ _
  refine wpAny_bind (wpAny_nextOf_list_item (h1.extBut hs₁.extBut D.i1z) (hl1.extBut hs₁.extBut D.l1z) hx fun h₂ h1₂ hs₂ => wpAny_pure ?_)
  refine wpAny_pure ?_
  dsimp only
  refine wpAny_bind (wpAny_bind (wpAny_holding ?_))
  show wpAny _ _ (Builtin.SmallTypes.nextOf (.ref i2) >>= _) _ _ _
  refine wpAny_bind (wpAny_nextOf_list_item ((h2.extBut hs₁.extBut D.i2z).extBut hs₂.extBut D.i12.symm) ((hl2.extBut hs₁.extBut D.l2z).extBut hs₂.extBut D.l2i1) hy fun h₄ h2₄ hs₄ => wpAny_pure ?_)
  refine wpAny_pure ?_
  dsimp only
  refine wpAny_pure ?_
  dsimp only
  refine wpAny_bind (wpAny_newTuple ?_ (by show 2 ≤ sizeLine; decide))
  have hsz : h₄.objs.size = s.heap.objs.size := by rw [hs₄.1, hs₂.1, hs₁.1]
  have hz₄ : IsZipK h₄ z TI TO a true := hs₄.extBut _ _ D.i2z.symm (hs₂.extBut _ _ D.i1z.symm hz₁)
  have hk₄ : ∀ c o, c ≠ z → c ≠ i1 → c ≠ i2 → s.heap.get? c = some o → h₄.get? c = some o := fun c o c1 c3 c4 e => hs₄.extBut _ _ c4 (hs₂.extBut _ _ c3 (hs₁.extBut _ _ c1 e))
  have h1₄ : h₄.IsListIter i1 l1 (k1 + 1) := h1₂.extBut hs₄.extBut D.i12
  have up : ∀ c o, h₄.get? c = some o → (h₄.push { cls := .type "tuple", data := .seq #[x, y] }).get? c = some o := fun c o e => Heap.get?_push_of_some _ e
  refine wpAny_pure ⟨_, rfl, ?_⟩
  show Q (.ref h₄.objs.size) _
  have hp : (h₄.push { cls := .type "tuple", data := .seq #[x, y] }).get? h₄.objs.size = some { cls := .type "tuple", data := .seq #[x, y] } := Heap.get?_push_size _ rfl
  rw [hsz] at hp ⊢
  exact hQ _ (up _ _ hz₄) (h1₄.at fun o e => up _ o e) (h2₄.at fun o e => up _ o e) hp (by rw [Heap.size_push, hsz]) fun c o c1 c3 c4 e => up c o (hk₄ c o c1 c3 c4 e)
theorem zipK_next_end {z TI TO i1 i2 l1 l2 : Addr} {k1 k2 : Nat} {xs ys : Array Value} {a : Nat} {b : Bool} {o : Obj} {Q : Fin → Shared → Prop} (hh : A.handled = none) (D : ZipApart z TI TO i1 i2 l1 l2)
    (hz : IsZipK s.heap z TI TO a b) (ha : s.heap.get? a = some o) (hTI : IsPair s.heap TI (.ref i1) (.ref i2))
    (h1 : s.heap.IsListIter i1 l1 k1) (h2 : s.heap.IsListIter i2 l2 k2) (hl1 : s.heap.IsList l1 xs) (hl2 : s.heap.IsList l2 ys) (hend : xs[k1]? = none ∨ ys[k2]? = none)
    (hE : ∀ h' e, (∀ c o, c ≠ z → c ≠ i1 → c ≠ i2 → s.heap.get? c = some o → h'.get? c = some o) → (∃ o, h'.get? e = some o ∧ o.cls = .type "StopIteration") → E (.ref e) { s with heap := h' }) :
    wpAny (model prog w) A (Builtin.«zip.__next__» ⟨[.ref z], []⟩) Q E s := by
  show wpAny _ _ (field (.ref z) 2 >>= _) _ _ _
  refine wpAny_bind (wpAny_field hz rfl (x := .bool false) rfl ?_)
  show wpAny _ _ (field (.ref z) 3 >>= _) _ _ _
  refine wpAny_bind (wpAny_field hz rfl (x := .ref TI) rfl ?_)
  refine wpAny_bind (wpAny_seqItems hTI rfl ?_)
  show wpAny _ _ (Builtin.SmallTypes.ownedTupleIsFree (.ref z) >>= _) _ _ _
  refine wpAny_bind (zipK_free hz ha fun h₁ hz₁ hs₁ => ?_)
  simp only [Bool.false_eq_true, if_false]
  refine wpAny_bind ?_
  rw [← Array.forIn_toList]
  simp only [List.forIn_cons, List.forIn_nil]
  refine wpAny_bind (wpAny_bind (wpAny_holding ?_))
  show wpAny _ _ (Builtin.SmallTypes.nextOf (.ref i1) >>= _) _ _ _
  cases hx : xs[k1]? with
  | none =>
    refine wpAny_bind (wpAny_nextOf_list_end hh (h1.extBut hs₁.extBut D.i1z) (hl1.extBut hs₁.extBut D.l1z) hx fun h₂ e hs₂ he => ?_)
    exact hE h₂ e (fun c o c1 c3 c4 x => hs₂ _ _ c3 (hs₁.extBut _ _ c1 x)) he
  | some x =>
    have hy : ys[k2]? = none := by rcases hend with h | h; rw [hx] at h; cases h; exact h
    refine wpAny_bind (wpAny_nextOf_list_item (h1.extBut hs₁.extBut D.i1z) (hl1.extBut hs₁.extBut D.l1z) hx fun h₂ h1₂ hs₂ => wpAny_pure ?_)
    refine wpAny_pure ?_
    dsimp only
    refine wpAny_bind (wpAny_bind (wpAny_holding ?_))
    show wpAny _ _ (Builtin.SmallTypes.nextOf (.ref i2) >>= _) _ _ _
    refine wpAny_bind (wpAny_nextOf_list_end hh ((h2.extBut hs₁.extBut D.i2z).extBut hs₂.extBut D.i12.symm) ((hl2.extBut hs₁.extBut D.l2z).extBut hs₂.extBut D.l2i1) hy fun h₄ e hs₄ he => ?_)
    exact hE h₄ e (fun c o c1 c3 c4 x => hs₄ _ _ c4 (hs₂.extBut _ _ c3 (hs₁.extBut _ _ c1 x))) he
theorem zipK_pyNext_item {z TI TO i1 i2 l1 l2 : Addr} {k1 k2 : Nat} {xs ys : Array Value} {x y : Value} {a : Nat} {b : Bool} {o : Obj} {Q : Option Value → Shared → Prop} (D : ZipApart z TI TO i1 i2 l1 l2)
    (hz : IsZipK s.heap z TI TO a b) (ha : s.heap.get? a = some o) (hTI : IsPair s.heap TI (.ref i1) (.ref i2))
    (h1 : s.heap.IsListIter i1 l1 k1) (h2 : s.heap.IsListIter i2 l2 k2) (hl1 : s.heap.IsList l1 xs) (hl2 : s.heap.IsList l2 ys) (hx : xs[k1]? = some x) (hy : ys[k2]? = some y)
    (hQ : ∀ h', IsZipK h' z TI TO a true → h'.IsListIter i1 l1 (k1 + 1) → h'.IsListIter i2 l2 (k2 + 1) → IsPair h' s.heap.objs.size x y → h'.objs.size = s.heap.objs.size + 1 →
      (∀ c o, c ≠ z → c ≠ i1 → c ≠ i2 → s.heap.get? c = some o → h'.get? c = some o) → Q (some (.ref s.heap.objs.size)) { s with heap := h' }) :
    wpAny (model prog w) A (pyNext (.ref z)) Q E s := by
  have hT : s.TypeIs (.ref z) "zip" := ⟨_, hz, rfl⟩
  unfold pyNext
  exact wpAny_bind (wpAny_attempt (wpAny_callSpecial?_slot (name := Str.ofString "__next__") hT PySem.F.slot_zip_next
    (wpAny_call_entry PySem.F.slot_zip_next hT PySem.F.entry_zip_next
      (zipK_next_item D hz ha hTI h1 h2 hl1 hl2 hx hy fun h' a1 a3 a4 a5 a6 a7 => wpAny_pure (hQ h' a1 a3 a4 a5 a6 a7)) (PySem.F.args_zip_next_1 _))))
theorem zipK_pyNext_end {z TI TO i1 i2 l1 l2 : Addr} {k1 k2 : Nat} {xs ys : Array Value} {a : Nat} {b : Bool} {o : Obj} {Q : Option Value → Shared → Prop} (hh : A.handled = none) (D : ZipApart z TI TO i1 i2 l1 l2)
    (hz : IsZipK s.heap z TI TO a b) (ha : s.heap.get? a = some o) (hTI : IsPair s.heap TI (.ref i1) (.ref i2))
    (h1 : s.heap.IsListIter i1 l1 k1) (h2 : s.heap.IsListIter i2 l2 k2) (hl1 : s.heap.IsList l1 xs) (hl2 : s.heap.IsList l2 ys) (hend : xs[k1]? = none ∨ ys[k2]? = none)
    (hQ : ∀ h', (∀ c o, c ≠ z → c ≠ i1 → c ≠ i2 → s.heap.get? c = some o → h'.get? c = some o) → Q none { s with heap := h' }) : wpAny (model prog w) A (pyNext (.ref z)) Q E s := by
  have hT : s.TypeIs (.ref z) "zip" := ⟨_, hz, rfl⟩
  unfold pyNext
  refine wpAny_bind (wpAny_attempt (wpAny_callSpecial?_slot (name := Str.ofString "__next__") hT PySem.F.slot_zip_next
    (wpAny_call_entry PySem.F.slot_zip_next hT PySem.F.entry_zip_next (zipK_next_end hh D hz ha hTI h1 h2 hl1 hl2 hend fun h' e hk he => ?_) (PySem.F.args_zip_next_1 _))))
  obtain ⟨o, ho, hc⟩ := he
  refine wpAny_bind (wpAny_isInstance (T := "StopIteration") (b := true) ⟨o, ho, hc⟩ isSubtype_stop ?_)
  exact wpAny_pure (hQ _ hk)
/-- what list(zip(..)) has made before the i-th turn -/
structure ZS (h0 : Heap) (z TI TO i1 i2 l1 l2 S : Addr) (xs ys : Array Value) (i : Nat) (acc : Array Value) (h : Heap) : Prop where
  zst : (IsZip h z TI TO .none ∧ ∃ x y, IsPair h TO x y) ∨ ∃ a b o, IsZipK h z TI TO a b ∧ h.get? a = some o ∧ a ≠ z ∧ a ≠ TO ∧ a ≠ i1 ∧ a ≠ i2 ∧ a ≠ S
  tolt : TO < h.objs.size
  ti : IsPair h TI (.ref i1) (.ref i2)
  it1 : h.IsListIter i1 l1 i
  it2 : h.IsListIter i2 l2 i
  sl : ∃ c, h.get? S = some { cls := .type "list", dict := none, data := .seq acc c, slots := #[] }
  sz : acc.size = i
  ac : ∀ j, j < i → ∃ T x y, acc[j]? = some (.ref T) ∧ IsPair h T x y ∧ xs[j]? = some x ∧ ys[j]? = some y ∧ h0.objs.size ≤ T ∧ T < h.objs.size ∧ T ≠ z ∧ T ≠ TI ∧ T ≠ TO ∧ T ≠ i1 ∧ T ≠ i2 ∧ T ≠ S
  mono : ∀ (j k : Nat) (T U : Addr), j < k → acc[j]? = some (.ref T) → acc[k]? = some (.ref U) → T < U
  keep : ∀ b o, h0.get? b = some o → h.get? b = some o
/-- the cells of the walk lie behind h0, apart -/
structure ZA (h0 : Heap) (z TI TO i1 i2 S : Addr) : Prop where
  z0 : h0.objs.size ≤ z
  i10 : h0.objs.size ≤ i1
  i20 : h0.objs.size ≤ i2
  TO0 : h0.objs.size ≤ TO
  TI0 : h0.objs.size ≤ TI
  S0 : h0.objs.size ≤ S
  Sz : S ≠ z
  STI : S ≠ TI
  STO : S ≠ TO
  Si1 : S ≠ i1
  Si2 : S ≠ i2
theorem zs_push {h0 : Heap} {z TI TO i1 i2 l1 l2 S : Addr} {xs ys : Array Value} {i : Nat} {acc : Array Value} {h h' : Heap} {x y : Value} {a : Nat} {b : Bool} {o : Obj} (D : ZipApart z TI TO i1 i2 l1 l2) (ZZ : ZA h0 z TI TO i1 i2 S) (Z : ZS h0 z TI TO i1 i2 l1 l2 S xs ys i acc h)
    (hx : xs[i]? = some x) (hy : ys[i]? = some y) (zk : IsZipK h' z TI TO a b) (ha : h'.get? a = some o) (han : a ≠ z ∧ a ≠ TO ∧ a ≠ i1 ∧ a ≠ i2 ∧ a ≠ S) (h1' : h'.IsListIter i1 l1 (i + 1)) (h2' : h'.IsListIter i2 l2 (i + 1)) (hT : IsPair h' h.objs.size x y) (hsz : h'.objs.size = h.objs.size + 1)
    (hk : ∀ c o, c ≠ z → c ≠ TO → c ≠ i1 → c ≠ i2 → h.get? c = some o → h'.get? c = some o) :
    ZS h0 z TI TO i1 i2 l1 l2 S xs ys (i + 1) (acc.push (.ref h.objs.size)) (h'.update S (Obj.mapSeq (·.push (.ref h.objs.size)))) := by
  obtain ⟨c0, hS⟩ := Z.sl
  have hS' := hk _ _ ZZ.Sz ZZ.STO ZZ.Si1 ZZ.Si2 hS
  have oth : ∀ c o, c ≠ S → h'.get? c = some o → (h'.update S (Obj.mapSeq (·.push (.ref h.objs.size)))).get? c = some o := fun c o hc e => (Heap.get?_update_other _ _ (Ne.symm hc)).trans e
  have szu : (h'.update S (Obj.mapSeq (·.push (.ref h.objs.size)))).objs.size = h.objs.size + 1 := by rw [Heap.size_update, hsz]
  have lz : ∀ {c : Addr} {o : Obj}, h.get? c = some o → c < h.objs.size := fun e => Heap.lt_size e
  have zlt : z < h.objs.size := by
    rcases Z.zst with ⟨hz, _⟩ | ⟨_, _, _, hz, _, _⟩
    · exact lz hz
    · exact lz hz
  have Tnz : h.objs.size ≠ z := Nat.ne_of_gt zlt
  have TnTI : h.objs.size ≠ TI := Nat.ne_of_gt (lz Z.ti)
  have Tni1 : h.objs.size ≠ i1 := by obtain ⟨_, e, _⟩ := Z.it1; exact Nat.ne_of_gt (lz e)
  have Tni2 : h.objs.size ≠ i2 := by obtain ⟨_, e, _⟩ := Z.it2; exact Nat.ne_of_gt (lz e)
  have TnS : h.objs.size ≠ S := Nat.ne_of_gt (lz hS)
  have TnTO : h.objs.size ≠ TO := Nat.ne_of_gt Z.tolt
  have h0h : h0.objs.size ≤ h.objs.size := Nat.le_trans ZZ.z0 (Nat.le_of_lt zlt)
  refine ⟨.inr ⟨a, b, o, oth _ _ (Ne.symm ZZ.Sz) zk, oth _ _ han.2.2.2.2 ha, han⟩, by rw [szu]; exact Nat.lt_succ_of_lt Z.tolt, oth _ _ (Ne.symm ZZ.STI) (hk _ _ D.TIz D.TITO D.TIi1 D.TIi2 Z.ti), h1'.at fun o e => oth _ o (Ne.symm ZZ.Si1) e, h2'.at fun o e => oth _ o (Ne.symm ZZ.Si2) e,
    ⟨_, Heap.get?_update_self _ hS' rfl⟩, by rw [Array.size_push, Z.sz], fun j hj => ?_, fun j k T U hjk e1 e2 => ?_, fun b o e => ?_⟩
  · by_cases hji : j < i
    · obtain ⟨T, x', y', e1, e2, e3, e4, e5, e6, n1, n2, n3, n4, n5, n6⟩ := Z.ac j hji
      exact ⟨T, x', y', by rw [Array.getElem?_push_lt (by rw [Z.sz]; exact hji)]; rw [Array.getElem?_eq_getElem (by rw [Z.sz]; exact hji)] at e1; exact e1, oth _ _ n6 (hk _ _ n1 n3 n4 n5 e2), e3, e4, e5, by rw [szu]; exact Nat.lt_succ_of_lt e6, n1, n2, n3, n4, n5, n6⟩
    · have e : j = i := by omega
      subst e
      exact ⟨h.objs.size, x, y, by rw [← Z.sz, Array.getElem?_push_size], oth _ _ TnS hT, hx, hy, h0h, by rw [szu]; exact Nat.lt_succ_self _, Tnz, TnTI, TnTO, Tni1, Tni2, TnS⟩
  · have hks : k < (acc.push (.ref h.objs.size)).size := (Array.getElem?_eq_some_iff.mp e2).1
    rw [Array.size_push, Z.sz] at hks
    have ej : acc[j]? = some (.ref T) := by
      rw [Array.getElem?_push_lt (by rw [Z.sz]; omega)] at e1
      rw [Array.getElem?_eq_getElem (by rw [Z.sz]; omega)]
      exact e1
    by_cases hki : k < i
    · refine Z.mono j k T U hjk ej ?_
      rw [Array.getElem?_push_lt (by rw [Z.sz]; exact hki)] at e2
      rw [Array.getElem?_eq_getElem (by rw [Z.sz]; exact hki)]
      exact e2
    · have e : k = i := by omega
      subst e
      rw [← Z.sz, Array.getElem?_push_size] at e2
      cases e2
      obtain ⟨T', _, _, e1', _, _, _, _, e6, _⟩ := Z.ac j hjk
      rw [ej] at e1'
      cases e1'
      exact e6
  · have hb := Heap.lt_size e
    exact oth b o (Nat.ne_of_lt (Nat.lt_of_lt_of_le hb ZZ.S0)) (hk b o (Nat.ne_of_lt (Nat.lt_of_lt_of_le hb ZZ.z0)) (Nat.ne_of_lt (Nat.lt_of_lt_of_le hb ZZ.TO0)) (Nat.ne_of_lt (Nat.lt_of_lt_of_le hb ZZ.i10)) (Nat.ne_of_lt (Nat.lt_of_lt_of_le hb ZZ.i20)) (Z.keep b o e))
theorem zs_loop {h0 : Heap} {z TI TO i1 i2 l1 l2 S : Addr} {xs ys : Array Value} {res : Value} {R : Result → Shared → Prop} (hh : A.in1.handled = none) (D : ZipApart z TI TO i1 i2 l1 l2) (ZZ : ZA h0 z TI TO i1 i2 S) (hl1 : h0.IsList l1 xs) (hl2 : h0.IsList l2 ys)
    (hxy : xs.size = ys.size) (hn : xs.size ≤ sizeLine) : ∀ (k i : Nat) (s : Shared) (acc : Array Value), xs.size - i = k → i ≤ xs.size → ZS h0 z TI TO i1 i2 l1 l2 S xs ys i acc s.heap →
    (∀ h' acc' c', (∀ b o, h0.get? b = some o → h'.get? b = some o) → h'.get? S = some { cls := .type "list", dict := none, data := .seq acc' c', slots := #[] } → acc'.size = xs.size →
      (∀ j, j < xs.size → ∃ T x y, acc'[j]? = some (.ref T) ∧ IsPair h' T x y ∧ xs[j]? = some x ∧ ys[j]? = some y ∧ h0.objs.size ≤ T ∧ T ≠ S) →
      (∀ (j k : Nat) (T U : Addr), j < k → acc'[j]? = some (.ref T) → acc'[k]? = some (.ref U) → T < U) → R (.ok (.ret res)) { s with heap := h' }) →
    codeAny (model prog w) A (.builtin "list.extend.loop" ⟨[.ref S, .ref z, res], []⟩) R s := by
  intro k
  induction k with
  | zero =>
    intro i s acc hk hi Z hR
    have hin : i = xs.size := by omega
    subst hin
    have hx : xs[xs.size]? = none := by simp
    refine codeAny_builtin PySem.F.entry_extend_loop ?_
    rw [Around.under_plainId PySem.F.plain_extend_loop _]
    show wpAny _ A.in1 (pyNext (.ref z) >>= _) _ _ s
    have L1 := hl1.at fun o e => Z.keep _ o e
    have L2 := hl2.at fun o e => Z.keep _ o e
    obtain ⟨c0, hS⟩ := Z.sl
    have fin : ∀ h', (∀ c o, c ≠ z → c ≠ TO → c ≠ i1 → c ≠ i2 → s.heap.get? c = some o → h'.get? c = some o) → R (.ok (.ret res)) { s with heap := h' } := fun h' hk' => by
      refine hR h' acc c0 (fun b o e => ?_) (hk' _ _ ZZ.Sz ZZ.STO ZZ.Si1 ZZ.Si2 hS) Z.sz (fun j hj => ?_) Z.mono
      · have hb := Heap.lt_size e
        have a1 := ZZ.z0; have a2 := ZZ.TO0; have a3 := ZZ.i10; have a4 := ZZ.i20
        exact hk' b o (Nat.ne_of_lt (Nat.lt_of_lt_of_le hb a1)) (Nat.ne_of_lt (Nat.lt_of_lt_of_le hb a2)) (Nat.ne_of_lt (Nat.lt_of_lt_of_le hb a3)) (Nat.ne_of_lt (Nat.lt_of_lt_of_le hb a4)) (Z.keep b o e)
      · obtain ⟨T, x, y, e1, e2, e3, e4, e5, e6, n1, n2, n3, n4, n5, n6⟩ := Z.ac j hj
        exact ⟨T, x, y, e1, hk' _ _ n1 n3 n4 n5 e2, e3, e4, e5, n6⟩
    rcases Z.zst with ⟨hz, x0, y0, hTO⟩ | ⟨a, b, o, hz, ha, _⟩
    · exact wpAny_bind (wpAny_pyNext_zip_end hh D hz Z.ti hTO Z.it1 Z.it2 L1 L2 (.inl hx) fun h' hk' => wpAny_pure (fin h' hk'))
    · exact wpAny_bind (zipK_pyNext_end hh D hz ha Z.ti Z.it1 Z.it2 L1 L2 (.inl hx) fun h' hk' => wpAny_pure (fin h' fun c o c1 _ c3 c4 e => hk' c o c1 c3 c4 e))
  | succ k ih =>
    intro i s acc hk hi Z hR
    have hlt : i < xs.size := by omega
    have hx : xs[i]? = some xs[i] := Array.getElem?_eq_getElem hlt
    have hy : ys[i]? = some (ys[i]'(by omega)) := Array.getElem?_eq_getElem _
    refine codeAny_builtin PySem.F.entry_extend_loop ?_
    rw [Around.under_plainId PySem.F.plain_extend_loop _]
    show wpAny _ A.in1 (pyNext (.ref z) >>= _) _ _ s
    have L1 := hl1.at fun o e => Z.keep _ o e
    have L2 := hl2.at fun o e => Z.keep _ o e
    obtain ⟨c0, hS⟩ := Z.sl
    have fin : ∀ (h' : Heap) (a : Nat) (b : Bool) (o : Obj), IsZipK h' z TI TO a b → h'.get? a = some o → (a ≠ z ∧ a ≠ TO ∧ a ≠ i1 ∧ a ≠ i2 ∧ a ≠ S) → h'.IsListIter i1 l1 (i + 1) → h'.IsListIter i2 l2 (i + 1) → IsPair h' s.heap.objs.size xs[i] (ys[i]'(by omega)) → h'.objs.size = s.heap.objs.size + 1 →
        (∀ c o, c ≠ z → c ≠ TO → c ≠ i1 → c ≠ i2 → s.heap.get? c = some o → h'.get? c = some o) →
        wpAny (model prog w) A.in1 (updateSeq S (·.push (.ref s.heap.objs.size)) >>= fun _ => (again (.builtin "list.extend.loop" ⟨[.ref S, .ref z, res], []⟩) : Sem Fin))
          (fun fin s' => match fin with | .done f => R (.ok f) s' | .again c' => c'.quiet = true ∧ codeAny (model prog w) A c' R s') (fun e s' => R (.error e) s') { s with heap := h' } := fun h' a b o zk ha haS h1' h2' hT hsz hk' => by
      have hS' := hk' _ _ ZZ.Sz ZZ.STO ZZ.Si1 ZZ.Si2 hS
      refine wpAny_bind (wpAny_updateSeq hS' rfl (wpAny_pure ⟨plainId_quiet PySem.F.plain_extend_loop _, ih (i + 1) _ (acc.push (.ref s.heap.objs.size)) (by omega) hlt (zs_push D ZZ Z hx hy zk ha haS h1' h2' hT hsz hk') hR⟩) ?_ ?_)
      · rw [Z.sz]
        omega
      · rw [Array.size_push, Z.sz]
        omega
    rcases Z.zst with ⟨hz, x0, y0, hTO⟩ | ⟨a, b, o, hz, ha, han⟩
    · exact wpAny_bind (wpAny_pyNext_zip_item D hz Z.ti hTO Z.it1 Z.it2 L1 L2 hx hy fun h' z' TO' h1' h2' hT hsz hk' => fin h' _ false _ z' hT ⟨Nat.ne_of_gt (Heap.lt_size hz), Nat.ne_of_gt Z.tolt, (by obtain ⟨_, e, _⟩ := Z.it1; exact Nat.ne_of_gt (Heap.lt_size e)), (by obtain ⟨_, e, _⟩ := Z.it2; exact Nat.ne_of_gt (Heap.lt_size e)), Nat.ne_of_gt (Heap.lt_size hS)⟩ h1' h2' hT hsz hk')
    · exact wpAny_bind (zipK_pyNext_item D hz ha Z.ti Z.it1 Z.it2 L1 L2 hx hy fun h' z' h1' h2' hT hsz hk' => fin h' a true o z' (hk' _ _ han.1 han.2.2.1 han.2.2.2.1 ha) han h1' h2' hT hsz fun c o c1 _ c3 c4 e => hk' c o c1 c3 c4 e)
theorem nolen_zip : typeLookup (.type "zip") "__len__" = pure none := by rw [typeLookup_type, builtinLookup_eq_fast]; kernel_rfl
theorem nohint_zip : typeLookup (.type "zip") "__length_hint__" = pure none := by rw [typeLookup_type, builtinLookup_eq_fast]; kernel_rfl
theorem call_listZipK {h0 : Heap} {z TI TO i1 i2 l1 l2 : Addr} {xs ys : Array Value} {x0 y0 : Value} {Q : Value → Shared → Prop} (hh : A.handled = none) (D : ZipApart z TI TO i1 i2 l1 l2) (hz : IsZip s.heap z TI TO .none) (hTO : IsPair s.heap TO x0 y0) (hTI : IsPair s.heap TI (.ref i1) (.ref i2))
    (h1 : s.heap.IsListIter i1 l1 0) (h2 : s.heap.IsListIter i2 l2 0) (hl1 : h0.IsList l1 xs) (hl2 : h0.IsList l2 ys) (hxy : xs.size = ys.size) (hn : xs.size ≤ sizeLine) (hk : ∀ b o, h0.get? b = some o → s.heap.get? b = some o)
    (z0 : h0.objs.size ≤ z) (i10 : h0.objs.size ≤ i1) (i20 : h0.objs.size ≤ i2) (TO0 : h0.objs.size ≤ TO) (TI0 : h0.objs.size ≤ TI)
    (hQ : ∀ h' acc' c', (∀ b o, h0.get? b = some o → h'.get? b = some o) → h'.get? s.heap.objs.size = some { cls := .type "list", dict := none, data := .seq acc' c', slots := #[] } → acc'.size = xs.size →
      (∀ j, j < xs.size → ∃ T x y, acc'[j]? = some (.ref T) ∧ IsPair h' T x y ∧ xs[j]? = some x ∧ ys[j]? = some y ∧ h0.objs.size ≤ T ∧ T ≠ s.heap.objs.size) →
      (∀ (j k : Nat) (T U : Addr), j < k → acc'[j]? = some (.ref T) → acc'[k]? = some (.ref U) → T < U) → Q (.ref s.heap.objs.size) { s with heap := h' }) :
    wpAny (model prog w) A (call (.type "list") [.ref z]) Q E s := by
  have zlt : z < s.heap.objs.size := Heap.lt_size hz
  have h0s : h0.objs.size ≤ s.heap.objs.size := Nat.le_trans z0 (Nat.le_of_lt zlt)
  have hSI : s.heap.objs.size ≠ z := Nat.ne_of_gt zlt
  have ZZ : ZA h0 z TI TO i1 i2 s.heap.objs.size := ⟨z0, i10, i20, TO0, TI0, h0s, hSI, Nat.ne_of_gt (Heap.lt_size hTI), Nat.ne_of_gt (Heap.lt_size hTO), (by obtain ⟨_, e, _⟩ := h1; exact Nat.ne_of_gt (Heap.lt_size e)), (by obtain ⟨_, e, _⟩ := h2; exact Nat.ne_of_gt (Heap.lt_size e))⟩
  refine callType_codes (Q₁ := fun obj s₁ => obj = .ref s.heap.objs.size ∧ s₁ = { s with heap := s.heap.push { cls := .type "list", data := .seq #[] } }) PySem.F.called_list (PySem.F.typeCall_list_1 _) PySem.F.entry_list_init
    (code_list_new _ ⟨rfl, rfl⟩) fun obj s₁ h₁ => ?_
  obtain ⟨rfl, rfl⟩ := h₁
  have hS : (s.heap.push { cls := .type "list", data := .seq #[] }).get? s.heap.objs.size = some { cls := .type "list", data := .seq #[] } := Heap.get?_push_size _ rfl
  refine ⟨⟨_, hS, rfl⟩, PySem.F.args_list_init_2 _ _, ?_⟩
  show wpAny _ _ (do let old ← Builtin.List.listItems (.ref s.heap.objs.size); Builtin.List.listUpdate (.ref s.heap.objs.size) (fun _ => #[]); letGo old.toList.reverse; Builtin.List.listExtendWith (.ref s.heap.objs.size) (.ref z) .none) _ _ _
  refine wpAny_bind ?_
  unfold Builtin.List.listItems
  refine wpAny_bind (wpAny_seqItems hS rfl (wpAny_pure ?_))
  show wpAny _ _ (updateSeq s.heap.objs.size (fun _ => #[]) >>= fun _ => letGo (#[] : Array Value).toList.reverse >>= fun _ => Builtin.List.listExtendWith (.ref s.heap.objs.size) (.ref z) .none) _ _ _
  refine wpAny_bind (wpAny_updateSeq hS rfl ?_)
  have hS₂ := Heap.get?_update_self (Obj.mapSeq (fun _ => (#[] : Array Value))) hS rfl
  have oth : ∀ b o, b ≠ s.heap.objs.size → s.heap.get? b = some o → ((s.heap.push { cls := .type "list", data := .seq #[] }).update s.heap.objs.size (Obj.mapSeq (fun _ => (#[] : Array Value)))).get? b = some o :=
    fun b o hb e => (Heap.get?_update_other _ _ (Ne.symm hb)).trans (Heap.get?_push_of_some _ e)
  refine wpAny_bind (wpAny_letGo ?_)
  generalize hg : (s.heap.push { cls := .type "list", data := .seq #[] }).update s.heap.objs.size (Obj.mapSeq (fun _ => (#[] : Array Value))) = g at hS₂ oth ⊢
  have gz : g.get? z = _ := oth _ _ (Ne.symm hSI) hz
  unfold Builtin.List.listExtendWith
  refine wpAny_bind (wpAny_typeOf (T := "zip") ⟨_, gz, rfl⟩ ?_)
  have e1 : Builtin.List.listSameRef (.ref s.heap.objs.size) (.ref z) = false := by simp [Builtin.List.listSameRef, hSI]
  have e2 : (Value.type "zip" == Value.type "list") = false := by decide
  have e3 : (Value.type "zip" == Value.type "tuple") = false := by decide
  simp only [e1, e2, e3, Bool.or_false, Bool.false_eq_true, if_false]
  refine wpAny_bind (wpAny_pyIter_zip gz ?_)
  refine wpAny_bind (wpAny_holding ?_)
  unfold Builtin.List.listLengthHint
  refine wpAny_bind (wpAny_specialOf (T := "zip") ⟨_, gz, rfl⟩ nolen_zip ?_)
  show wpAny _ _ (specialOf (Value.ref z) (Str.ofString "__length_hint__") >>= _) _ _ _
  refine wpAny_bind (wpAny_specialOf (T := "zip") ⟨_, gz, rfl⟩ nohint_zip ?_)
  refine wpAny_pure ?_
  simp only [Bool.true_or, if_true]
  refine wpAny_bind (wpAny_rule ?_)
  refine wpAny_bind ?_
  show wpAny _ _ (updateSeq s.heap.objs.size (·.push .none) >>= fun _ => updateSeq s.heap.objs.size (·.pop)) _ _ _
  refine wpAny_bind (wpAny_updateSeq hS₂ rfl ?_)
  have hS₃ := Heap.get?_update_self (Obj.mapSeq (·.push Value.none)) hS₂ rfl
  refine wpAny_updateSeq (hz := by seq_fits) hS₃ rfl ?_
  have hS₄ := Heap.get?_update_self (Obj.mapSeq (·.pop)) hS₃ rfl
  have oth2 : ∀ b o, b ≠ s.heap.objs.size → s.heap.get? b = some o → ((g.update s.heap.objs.size (Obj.mapSeq (·.push Value.none))).update s.heap.objs.size (Obj.mapSeq (·.pop))).get? b = some o :=
    fun b o hb e => (Heap.get?_update_other _ _ (Ne.symm hb)).trans ((Heap.get?_update_other _ _ (Ne.symm hb)).trans (oth b o hb e))
  have gsz : ((g.update s.heap.objs.size (Obj.mapSeq (·.push Value.none))).update s.heap.objs.size (Obj.mapSeq (·.pop))).objs.size = s.heap.objs.size + 1 := by
    rw [Heap.size_update, Heap.size_update, ← hg, Heap.size_update, Heap.size_push]
  refine wpAny_pure ⟨plainId_quiet PySem.F.plain_extend_loop _, zs_loop (A := A.in1) (l1 := l1) (l2 := l2) hh D ZZ hl1 hl2 hxy hn xs.size 0 _ #[] rfl (Nat.zero_le _) ⟨.inl ⟨oth2 _ _ (Ne.symm hSI) hz, x0, y0, oth2 _ _ (Ne.symm ZZ.STO) hTO⟩, ?_, oth2 _ _ (Ne.symm ZZ.STI) hTI, h1.at fun o e => oth2 _ o (Ne.symm ZZ.Si1) e, h2.at fun o e => oth2 _ o (Ne.symm ZZ.Si2) e, ⟨_, hS₄⟩, rfl, fun j hj => absurd hj (Nat.not_lt_zero _), fun j k T U _ e1 _ => by simp at e1, fun b o e => ?_⟩ fun h' acc' c' a1 a2 a3 a4 a5 => ⟨rfl, hQ h' acc' c' a1 a2 a3 a4 a5⟩⟩
  · show TO < ((g.update s.heap.objs.size (Obj.mapSeq (·.push Value.none))).update s.heap.objs.size (Obj.mapSeq (·.pop))).objs.size
    rw [gsz]
    exact Nat.lt_succ_of_lt (Heap.lt_size hTO)
  · exact oth2 b o (Nat.ne_of_lt (Nat.lt_of_lt_of_le (Heap.lt_size e) h0s)) (hk b o e)
end
end DL

set_option Elab.async false
set_option linter.all false
set_option maxRecDepth 100000
/-! list(zip(a, b)): the hand rule and the data rule. -/
namespace DL
open PySem PySem.Spec PyProof.Rows L2
/-- the pairs tracked at their addresses -/
def putP : Hp → List Addr → List (V × V) → Hp
  | H, a :: as, p :: ps => putP (upd H a (.tup [p.1, p.2])) as ps
  | H, _, _ => H
theorem putP_off {b : Addr} : ∀ (as : List Addr) (ps : List (V × V)) (H : Hp), b ∉ as → putP H as ps b = H b
  | [], _, _, _ => rfl
  | _ :: _, [], _, _ => rfl
  | a :: as, p :: ps, H, h => by
    show putP (upd H a (.tup [p.1, p.2])) as ps b = H b
    rw [putP_off as ps _ (fun z => h (List.mem_cons_of_mem _ z)), upd_ne (fun z => h (by rw [z]; exact List.mem_cons_self))]
theorem putP_at : ∀ (as : List Addr) (ps : List (V × V)) (H : Hp), as.length = ps.length → as.Nodup → ∀ (j : Nat) (t : Addr), as[j]? = some t → ∃ p, ps[j]? = some p ∧ putP H as ps t = some (.tup [p.1, p.2])
  | [], _, _, _, _, j, t, e => by simp at e
  | _ :: _, [], _, h, _, _, _, _ => by cases h
  | a :: as, p :: ps, H, h, hn, j, t, e => by
    have hn' := List.nodup_cons.mp hn
    cases j with
    | zero =>
      have e' : a = t := by simpa using e
      subst e'
      refine ⟨p, rfl, ?_⟩
      show putP (upd H a (.tup [p.1, p.2])) as ps a = _
      rw [putP_off as ps _ hn'.1, upd_same]
    | succ j => exact putP_at as ps (upd H a (.tup [p.1, p.2])) (Nat.succ.inj h) hn'.2 j t (by simpa using e)
theorem zip_laid {X : Cx} {pins : List (Addr × Obj)} {σ : L2.St} {H : Hp} {s : Shared} {h' : Heap} {tk : Nat} {ps : List (V × V)} {acc : Array Value} {c : Nat} {S : Addr} {as : List Addr} (I : Inv X pins σ H s) (hz : ps.length ≤ sizeLine)
    (hk : ∀ b o, s.heap.get? b = some o → h'.get? b = some o) (hSa : s.heap.objs.size ≤ S) (hS : h'.get? S = some { cls := .type "list", dict := none, data := .seq acc c, slots := #[] }) (hl : as.length = ps.length) (ha : ∀ t ∈ as, s.heap.objs.size ≤ t ∧ t ≠ S) (nd : as.Nodup)
    (hG : ∀ (j : Nat) (t : Addr), as[j]? = some t → ∃ (p : V × V) (x y : Value), ps[j]? = some p ∧ RelV p.1 x ∧ RelV p.2 y ∧ IsPair h' t x y) (hacc : acc.toList = as.map Value.ref) :
    H S = none ∧ (∀ t ∈ as, H t = none) ∧ Inv X pins σ (putP (upd H S (.lst (as.map V.ref))) as ps) { s with heap := h', toks := tk } := by
  have hSn : S ∉ as := fun z => (ha _ z).2 rfl
  have new : ∀ t ∈ as, H t = none := fun t ht => I.hok.fresh (ha t ht).1
  have newS : H S = none := I.hok.fresh hSa
  have atP := putP_at as ps (upd H S (.lst (as.map V.ref))) hl nd
  have off : ∀ b, b ∉ as → b ≠ S → putP (upd H S (.lst (as.map V.ref))) as ps b = H b := fun b h1 h2 => by rw [putP_off as ps _ h1, upd_ne h2]
  have low : ∀ b o, s.heap.get? b = some o → b ∉ as ∧ b ≠ S := fun b o e => ⟨fun z => absurd (Heap.lt_size e) (Nat.not_lt.mpr (ha b z).1), Nat.ne_of_lt (Nat.lt_of_lt_of_le (Heap.lt_size e) hSa)⟩
  have kp : ∀ b u, H b = some u → (putP (upd H S (.lst (as.map V.ref))) as ps) b = some u := fun b u e => by
    rw [off b (fun z => by rw [new b z] at e; cases e) (fun z => by rw [z, newS] at e; cases e)]
    exact e
  have eS : putP (upd H S (.lst (as.map V.ref))) as ps S = some (.lst (as.map V.ref)) := by rw [putP_off as ps _ hSn, upd_same]
  refine ⟨newS, new, ?_⟩
  refine I.call' (ch := []) rfl ⟨fun b o q _ _ _ => hk b o q, fun b o q _ _ _ => ⟨o.slots, hk b o q⟩, fun b o q n _ => ?_, fun b o q _ => ⟨o, hk b o q⟩, fun b xs q => kp b _ q, fun b o u q => kp b _ q, fun b ps q => ⟨#[], by rw [kp b _ q]; simp⟩⟩ (fun b u q => ?_) I.bare fun b z => by simp at z
  · obtain ⟨z1, z2⟩ := low b o q
    rw [off b z1 z2]
    exact n
  · by_cases hb : b ∈ as
    · obtain ⟨j, e1⟩ := List.getElem?_of_mem hb
      obtain ⟨pk, e2, e3⟩ := atP j b e1
      rw [e3] at q
      cases q
      obtain ⟨p, x, y, f0, f1, f2, f3⟩ := hG j b e1
      rw [e2] at f0
      cases f0
      exact ⟨by show 2 ≤ sizeLine; decide, [x, y], .cons f1 (.cons f2 .nil), ⟨_, f3, rfl, _, rfl⟩⟩
    · by_cases hb2 : b = S
      · rw [hb2] at q ⊢
        rw [eS] at q
        cases q
        refine ⟨by rw [List.length_map]; omega, acc.toList, c, by rw [hacc]; exact LiI.vals_refs as, ?_⟩
        rw [Array.toArray_toList]
        exact hS
      · rw [off b hb hb2] at q
        exact (I.hok b u q).stay (fun d v _ y => hk d v y) (fun d y => kp d _ y) fun d xs y => kp d _ y
def rListZip (K : PySem.W.Frag) : List V → Hp → VK → Prop := fun vs H Q => ∃ (a b : Addr) (xs ys : List V), vs = [.ref a, .ref b] ∧ SqL K H a xs ∧ SqL K H b ys ∧ xs.length = ys.length ∧ xs.length ≤ sizeLine ∧
  ∀ (p : Addr) (ts : List Addr), H p = none → (∀ t ∈ ts, H t = none) → p ∉ ts → ts.Nodup → ts.length = (xs.zip ys).length → Q (.ref p) (putP (upd H p (.lst (ts.map V.ref))) ts (xs.zip ys))
def tListZip (K : PySem.W.Frag) (ta : TA) : TE := fun σ H Q => ta σ H fun vs H1 => rListZip K vs H1 Q
theorem zip_addrs {acc : Array Value} {n m S : Nat} {R : Nat → Addr → Prop} (hs : acc.size = n) (h : ∀ j, j < n → ∃ T : Addr, acc[j]? = some (.ref T) ∧ m ≤ T ∧ T ≠ S ∧ R j T) (mono : ∀ (j k : Nat) (T U : Addr), j < k → acc[j]? = some (.ref T) → acc[k]? = some (.ref U) → T < U) :
    ∃ as : List Addr, as.length = n ∧ acc.toList = as.map Value.ref ∧ as.Nodup ∧ (∀ t ∈ as, m ≤ t ∧ t ≠ S) ∧ ∀ (j : Nat) (t : Addr), as[j]? = some t → R j t := by
  have ex : ∀ l : List Value, (∀ v ∈ l, ∃ T : Addr, v = .ref T) → ∃ as : List Addr, l = as.map Value.ref := fun l => by
    induction l with
    | nil => exact fun _ => ⟨[], rfl⟩
    | cons v l ih =>
      intro hv
      obtain ⟨T, rfl⟩ := hv v List.mem_cons_self
      obtain ⟨as, e⟩ := ih fun u hu => hv u (List.mem_cons_of_mem _ hu)
      exact ⟨T :: as, by rw [e]; rfl⟩
  obtain ⟨as, e⟩ := ex acc.toList fun v hv => by
    obtain ⟨j, hj, ev⟩ := List.getElem_of_mem hv
    have hj' : j < n := by rw [← hs]; simpa using hj
    obtain ⟨T, eT, _⟩ := h j hj'
    refine ⟨T, ?_⟩
    rw [← ev]
    have : acc[j]? = some acc.toList[j] := by rw [← Array.getElem?_toList, List.getElem?_eq_getElem hj]
    rw [this] at eT
    exact Option.some.inj eT
  have len : as.length = n := by rw [← hs, ← Array.length_toList, e, List.length_map]
  have gt : ∀ (j : Nat) (t : Addr), as[j]? = some t → acc[j]? = some (.ref t) := fun j t et => by
    rw [← Array.getElem?_toList, e, List.getElem?_map, et]
    rfl
  have all : ∀ (j : Nat) (t : Addr), as[j]? = some t → m ≤ t ∧ t ≠ S ∧ R j t := fun j t et => by
    have hj : j < n := by rw [← len]; exact (List.getElem?_eq_some_iff.mp et).1
    obtain ⟨T, eT, a1, a2, a3⟩ := h j hj
    rw [gt j t et] at eT
    cases eT
    exact ⟨a1, a2, a3⟩
  refine ⟨as, len, e, ?_, fun t ht => ?_, fun j t et => (all j t et).2.2⟩
  · refine List.Pairwise.imp (R := fun a b : Nat => a < b) (fun {a b} h => Nat.ne_of_lt h) ?_
    rw [List.pairwise_iff_getElem]
    intro i j hi hj hij
    exact mono i j _ _ hij (gt i _ (List.getElem?_eq_getElem hi)) (gt j _ (List.getElem?_eq_getElem hj))
  · obtain ⟨j, et⟩ := List.getElem?_of_mem ht
    exact ⟨(all j t et).1, (all j t et).2.1⟩
section
variable {X : Cx} {e e2 : Expr} {p p2 pos pos2 : Pos} {ta : TA}
theorem pe_listZip (hc : X.calm = true) (ha : PA X [e, e2] ta) (hm : X.mg "list" = none) (hm2 : X.mg "zip" = none) (hg : Gl X "list" := by rfl) (hg2 : Gl X "zip" := by rfl)
    (hs : starEach [.Call (.Name "zip" p2) [e, e2] [] pos2] X.env = (false, eval (.Call (.Name "zip" p2) [e, e2] [] pos2) X.env) :: starEach [] X.env := by rfl)
    (hs2 : starEach [e, e2] X.env = (false, eval e X.env) :: starEach [e2] X.env := by rfl) (hpl : (backTo pos2 (starEach [e2] X.env)).any (·.1) = false := by rfl) :
    PE X (.Call (.Name "list" p) [.Call (.Name "zip" p2) [e, e2] [] pos2] [] pos) (tListZip X.K ta) := by
  refine ⟨fun pins s σ H Q I hq => ?_⟩
  refine Call_ (ld_blt I hg hm PyProof.Rows.boot_list (PyProof.Rows.callWith_type1 (args_cons (Call_ (ld_blt I hg2 hm2 PyProof.Rows.boot_zip (PyProof.Rows.callWith_type1 (thn (ha.run pos2 pins s σ H _ I hq) fun us s1 ⟨vs, H1, I1, r1, q1⟩ => ?_) hs2 hpl))) hs) hs))
  obtain ⟨a, b, xs, ys, ex, hqx, hqy, hxy, hn, q⟩ := q1
  subst ex
  cases r1 with
  | cons r rr =>
    cases rr with
    | cons r' rr =>
      cases rr
      cases r
      cases r'
      obtain ⟨its, rv, p1, _⟩ := I1.list hqx
      obtain ⟨its2, rv2, p2, _⟩ := I1.list hqy
      have la : a < s1.heap.objs.size := p1.lt
      have lb : b < s1.heap.objs.size := p2.lt
      have l1 := rv.length
      have l2 := rv2.length
      refine call_zip_2 p1.isList p2.isList fun h' hz hTI hTO h1 h2 hsz hk => ?_
      refine args_nil ?_
      refine call_listZipK (h0 := s1.heap) (s := { s1 with heap := h' }) (I1.ok.hd hc) (PySem.W.ktu_apart s1.heap.objs.size a b la lb) hz hTO hTI h1 h2 p1.isList p2.isList (by simp; omega) (by simp; omega) hk
        (by omega) (by omega) (by omega) (by omega) (by omega) fun h2 acc c k1 k2 k3 k4 k5 => ?_
      obtain ⟨as, a1, a2, a3, a4, a5⟩ := zip_addrs (m := s1.heap.objs.size) (S := h'.objs.size) (R := fun j T => ∃ x y, IsPair h2 T x y ∧ its.toArray[j]? = some x ∧ its2.toArray[j]? = some y) k3 (fun j hj => by
        obtain ⟨T, x, y, f1, f2, f3, f4, f5, f6⟩ := k4 j hj
        exact ⟨T, f1, f5, f6, x, y, f2, f3, f4⟩) k5
      have lz : as.length = (xs.zip ys).length := by rw [a1, List.length_zip]; simp; omega
      obtain ⟨n1, n2, J⟩ := zip_laid (tk := s1.toks) (ps := xs.zip ys) I1 (by rw [List.length_zip]; omega) k1 (by show s1.heap.objs.size ≤ h'.objs.size; omega) k2 lz a4 a3 (fun j t et => by
        obtain ⟨x, y, f1, f2, f3⟩ := a5 j t et
        have hj : j < as.length := (List.getElem?_eq_some_iff.mp et).1
        have hjx : j < xs.length := by rw [lz, List.length_zip] at hj; omega
        have hjy : j < ys.length := by rw [lz, List.length_zip] at hj; omega
        obtain ⟨u, eu, ru⟩ := rv.get (List.getElem?_eq_getElem hjx)
        obtain ⟨u2, eu2, ru2⟩ := rv2.get (List.getElem?_eq_getElem hjy)
        have e1 : u = x := by rw [List.getElem?_toArray, eu] at f2; exact Option.some.inj f2
        have e2 : u2 = y := by rw [List.getElem?_toArray, eu2] at f3; exact Option.some.inj f3
        subst e1 e2
        exact ⟨(xs[j], ys[j]), u, u2, by rw [List.getElem?_zip_eq_some]; exact ⟨List.getElem?_eq_getElem hjx, List.getElem?_eq_getElem hjy⟩, ru, ru2, f1⟩) a2
      exact ⟨.ref _, _, J, rfl, q _ as n1 n2 (fun z => (a4 _ z).2 rfl) a3 lz⟩
end
/-! by data -/
def wListZip (w : WL) : WD := fun ρ S Q => w ρ S fun ds S1 => match ds with
  | [x, y] => ∃ xs ys, itemsD S1 x = some xs ∧ itemsD S1 y = some ys ∧ xs.length = ys.length ∧ xs.length ≤ sizeLine ∧ Q (.lst (zipD xs ys)) S1
  | _ => False
theorem zip_is {mg : MG} {S : MS} {A : List Addr} : ∀ (ts : List Addr) (xs ys : List V) (ds es : List D) (H0 H : Hp), Rep mg A S H → Grow A A H0 H → (∀ t ∈ ts, H t = none) → ts.Nodup → ts.length = (xs.zip ys).length → IsL mg A H xs ds → IsL mg A H ys es →
    Rep mg A S (putP H ts (xs.zip ys)) ∧ Grow A A H0 (putP H ts (xs.zip ys)) ∧ Grow A A H (putP H ts (xs.zip ys)) ∧ IsL mg A (putP H ts (xs.zip ys)) (ts.map V.ref) (zipD ds es) := by
  intro ts
  induction ts with
  | nil =>
    intro xs ys ds es H0 H R g hn nd hl lx ly
    refine ⟨R, g, Grow.refl, ?_⟩
    cases lx with
    | nil => exact .nil
    | cons hx lx =>
      cases ly with
      | nil => exact .nil
      | cons hy ly => simp at hl
  | cons t ts ih =>
    intro xs ys ds es H0 H R g hn nd hl lx ly
    cases lx with
    | nil => simp at hl
    | cons hx lx =>
      cases ly with
      | nil => simp at hl
      | cons hy ly =>
        have hn' := List.nodup_cons.mp nd
        have ht := hn t List.mem_cons_self
        rename_i x d xs ds y e ys es
        have g1 := grow_new (o := .tup [x, y]) R ht
        have R1 := R.new (o := .tup [x, y]) ht
        obtain ⟨r1, r2, r3, r4⟩ := ih xs ys ds es H0 (upd H t (.tup [x, y])) R1 (g.trans g1) (fun u hu => by rw [upd_ne (fun z => hn'.1 (by rw [← z]; exact hu))]; exact hn u (List.mem_cons_of_mem _ hu)) hn'.2 (by simpa using hl) (lx.mono g1) (ly.mono g1)
        refine ⟨r1, r2, g1.trans r3, .cons (Is.mono r3 (.tup (R.fresh ht) (.inl upd_same) (.cons (hx.mono g1) (.cons (hy.mono g1) .nil)))) r4⟩
section
variable {X : Cx} {e e2 : Expr} {p p2 pos pos2 : Pos} {ta : TA} {wl : WL}
theorem d_listZip (hc : X.calm = true) (hm : X.mg "list" = none) (hm2 : X.mg "zip" = none) (ha : PDA X [e, e2] ta wl) (hg : Gl X "list" := by rfl) (hg2 : Gl X "zip" := by rfl)
    (hs : starEach [.Call (.Name "zip" p2) [e, e2] [] pos2] X.env = (false, eval (.Call (.Name "zip" p2) [e, e2] [] pos2) X.env) :: starEach [] X.env := by rfl)
    (hs2 : starEach [e, e2] X.env = (false, eval e X.env) :: starEach [e2] X.env := by rfl) (hpl : (backTo pos2 (starEach [e2] X.env)).any (·.1) = false := by rfl) :
    PD X (.Call (.Name "list" p) [.Call (.Name "zip" p2) [e, e2] [] pos2] [] pos) (tListZip X.K ta) (wListZip wl) := by
  refine ⟨pe_listZip hc ha.pe hm hm2 hg hg2 hs hs2 hpl, fun A S σ H ρ Q Q' R E h k => ?_⟩
  refine ha.sd A S σ H ρ _ _ R E h fun ds S1 A1 vs H1 g1 R1 hl q1 => ?_
  match ds, q1, hl with
  | [x, y], ⟨xs, ys, ex, ey, hxy, hn, q⟩, hl =>
    obtain ⟨v, u, rfl, hv, hu⟩ := hl.two
    obtain ⟨a, us, rfl, ra, la⟩ := hv.items R1 ex
    obtain ⟨b, ws, rfl, rb, lb⟩ := hu.items R1 ey
    have l1 := la.length
    have l2 := lb.length
    refine ⟨a, b, us, ws, rfl, .inl (.inl ra), .inl (.inl rb), by omega, by omega, fun p ts hp ht hpn nd hl => ?_⟩
    have g2 := grow_new (o := .lst (ts.map V.ref)) R1 hp
    have R2 := R1.new (o := .lst (ts.map V.ref)) hp
    obtain ⟨r1, r2, r3, r4⟩ := zip_is ts us ws xs ys H1 _ R2 g2 (fun t h => by rw [upd_ne (fun z => hpn (by rw [← z]; exact h))]; exact ht t h) nd hl (la.mono g2) (lb.mono g2)
    exact k _ S1 A1 _ _ (g1.trans r2) r1 (.lst (R1.fresh hp) (by rw [putP_off _ _ _ hpn, upd_same]) r4) q
end
end DL

set_option Elab.async false
set_option linter.all false
set_option maxRecDepth 100000
/-! for in a generator's body. -/
namespace DL
open PySem PySem.Spec PyProof.Rows L2
section
variable {M : Model} {A : Around} {R : GenEnd} {Y : Protocol} {n : Nat} {s₀ s : Shared} {c : Code} {fs : List Frame} {env : Env} {K : Flow → Sem Fin} {H : Value → Sem Fin} {gd : Bool → Bool} {lv : List Value → List Value}
theorem seg_For {tg iter : Expr} {body orelse : List Stmt} {pos : Pos}
    (h : wpAny M (A.over c fs) (eval iter env) (fun v s1 => wpAny M (A.over c fs) (pyIter v) (fun it s2 => ∀ p, Seg M A R Y n s₀ (.forLoop tg it body orelse env) (M.den (.forLoop tg it body orelse env))
      (.ret (fun r => ((match r with | .ok f => (.pure f : Sem Flow) | .error e => .raise e).onRaise fun (x : Value) => do
        if (← field x 1) == Value.none then unsupported "frame.own-activation:exception-without-traceback"
        setFlight x env.frame).wrap K H gd lv) none (gd false) (lv []) c p [] :: fs) s2) (fun x s' => Seg M A R Y n s₀ c (H x) fs s') s1) (fun x s' => Seg M A R Y n s₀ c (H x) fs s') s)
    (hs : ∀ x, foldedSetIterable iter env x = pure x := by intro _; rfl) : Seg M A R Y n s₀ c ((exec (.For tg iter body orelse pos) env).wrap K H gd lv) fs s := by
  rw [exec_For]
  show Seg M A R Y n s₀ c (.at pos fun _ => ((eval iter env >>= fun v => foldedSetIterable iter env v >>= fun x => standAt iter.pos >>= fun _ => holding [x] (pyIter x) >>= fun it => runOwn (.forLoop tg it body orelse env) env : Sem Flow)).wrap K H gd lv) fs s
  refine seg_at ?_
  rw [Sem.bind_eq_wrap', Sem.wrap_wrap]
  refine seg_wrap (wpAny_mono h (fun v s1 h1 => ?_) fun _ _ x => x)
  rw [hs v]
  show Seg M A R Y n s₀ c (.at iter.pos fun _ => ((holding [v] (pyIter v) >>= fun it => runOwn (.forLoop tg it body orelse env) env : Sem Flow)).wrap K H gd lv) fs s1
  refine seg_at ?_
  rw [Sem.bind_eq_wrap', Sem.wrap_wrap]
  refine seg_wrap (wpAny_holding (wpAny_mono h1 (fun it s2 h2 => ?_) fun _ _ x => x))
  exact seg_call h2
end
section
variable {prog : Program} {w : World} {A : Around} {R : GenEnd} {Y : Protocol} {n : Nat} {s₀ : Shared} {fs : List Frame} {s : Shared} {env : Env}
abbrev noted (env : Env) (x : Value) : Sem Fin := (do noteFrame x env; theTreesLotGoes x : Sem Unit).wrap (fun _ => .raise x) .raise id id
theorem seg_forLoop {tg : Expr} {it : Value} {body orelse : List Stmt}
    (h : wpAny (model prog w) (A.over (.forLoop tg it body orelse env) fs) (pyNext it) (fun r s1 => match r with
        | none => Seg (model prog w) A R Y n s₀ (.forLoop tg it body orelse env) (.pure (.again (.block orelse env))) fs s1
        | some v => wpAny (model prog w) (A.over (.forLoop tg it body orelse env) fs) (letOwnedTupleGo tg it v) (fun _ s2 => wpAny (model prog w) (A.over (.forLoop tg it body orelse env) fs) (assign tg env v) (fun _ s3 =>
            Seg (model prog w) A R Y n s₀ (.forLoop tg it body orelse env) ((execs body env).wrap (fun f => match f with
              | .next | .cont => .pure (.again (.forLoop tg it body orelse env))
              | .brk => .pure (.done .next)
              | .ret v => .pure (.done (.ret v))) (noted env) id id) fs s3)
            (fun x s' => Seg (model prog w) A R Y n s₀ (.forLoop tg it body orelse env) (noted env x) fs s') s2) (fun x s' => Seg (model prog w) A R Y n s₀ (.forLoop tg it body orelse env) (noted env x) fs s') s1)
      (fun x s' => Seg (model prog w) A R Y n s₀ (.forLoop tg it body orelse env) (noted env x) fs s') s) :
    Seg (model prog w) A R Y n s₀ (.forLoop tg it body orelse env) ((model prog w).den (.forLoop tg it body orelse env)) fs s := by
  have nt : ∀ x s', Seg (model prog w) A R Y n s₀ (.forLoop tg it body orelse env) (noted env x) fs s' → Seg (model prog w) A R Y n s₀ (.forLoop tg it body orelse env) ((do noteFrame x env; theTreesLotGoes x : Sem Unit).bind fun _ => (.raise x : Sem Fin)) fs s' := fun x s' hx => by
    rw [Sem.bind_eq_wrap]
    exact hx
  show Seg _ A R Y n s₀ _ ((forTurn tg it body orelse env).onRaise (fun x => do noteFrame x env; theTreesLotGoes x)) fs s
  rw [Sem.onRaise_eq_wrap]
  show Seg _ A R Y n s₀ _ (.at tg.pos fun _ => (((pyNext it).onRaise (fun _ => standAt { tg.pos with line := 0 }) >>= fun r => match r with
    | none => again (.block orelse env)
    | some v => letOwnedTupleGo tg it v >>= fun _ => assign tg env v >>= fun _ => execs body env >>= fun f => match f with
      | .next | .cont => again (.forLoop tg it body orelse env)
      | .brk => pure (.done .next)
      | .ret v => pure (.done (.ret v)) : Sem Fin)).wrap _ _ id id) fs s
  refine seg_at ?_
  rw [Sem.bind_eq_wrap', Sem.wrap_wrap]
  refine seg_wrap (wpAny_onRaise (wpAny_mono h (fun r s1 h1 => ?_) fun x s' hx => wpAny_standAt (nt x s' hx)))
  cases r with
  | none => exact h1
  | some v =>
    dsimp only at h1 ⊢
    rw [Sem.bind_eq_wrap', Sem.wrap_wrap]
    refine seg_wrap (wpAny_mono h1 (fun _ s2 h2 => ?_) fun x s' hx => nt x s' hx)
    rw [Sem.bind_eq_wrap', Sem.wrap_wrap]
    refine seg_wrap (wpAny_mono h2 (fun _ s3 h3 => ?_) fun x s' hx => nt x s' hx)
    rw [Sem.bind_eq_wrap', Sem.wrap_wrap]
    rw [Sem.wrap_congr (execs body env) _ _ (K' := fun f => match f with
            | .next | .cont => .pure (.again (.forLoop tg it body orelse env))
            | .brk => .pure (.done .next)
            | .ret v => .pure (.done (.ret v))) (H' := noted env)
        (fun f => by cases f <;> rfl)
        (fun e => by first | exact Sem.bind_eq_wrap _ _ | (show (do noteFrame e env; theTreesLotGoes e : Sem Unit).bind (fun _ => .raise e) = _; rw [Sem.bind_eq_wrap]))]
    exact h3
end
end DL
namespace DL
open PySem PySem.Spec PyProof.Rows L2
section
variable {X : Cx} {tg iter : Expr} {body : List Stmt} {pos : Pos}
def tGFor (wi : TI) (g : TG) (tb : TGn) : TGn := fun D ys σ H => wi σ H fun J H1 => ∃ W : Nat → Nat → List V → L2.St → Hp → Prop, (∃ m, W 0 m ys σ H1) ∧ ∀ i m ys σ H, W i m ys σ H →
  (J.stop i H ∧ D.nx ys σ H) ∨ (J.go i H ∧ ∃ N : List V → L2.St → Hp → Prop, (∀ ys' σ' H', N ys' σ' H' → ∃ m', m' < m ∧ W (i + 1) m' ys' σ' H') ∧ ∀ x H', J.yld i H x H' → g x σ H' fun σ2 H2 => tb { D with nx := N, ct := N, bk := D.nx } ys σ2 H2)
theorem gs_for {wi : TI} {g : TG} {tb : TGn} (hp : PassesOwn (model X.prog X.w) X.A X.env X.xe) (hc : X.calm = true) (hi : PI X tg iter wi) (hg : PG X tg g) (hb : GSs X body tb)
    (hs : ∀ x, foldedSetIterable iter X.env x = pure x := by intro _; rfl) : GS X (.For tg iter body [] pos) (tGFor wi g tb) := by
  refine ⟨fun A S ip R n ys s₀ c fs K J gd lv s σ H D g' hn k hI ht => ?_⟩
  obtain ⟨acc, cc, r, I⟩ := hI
  refine seg_For ?_ hs
  rw [g'.over]
  refine wpAny_mono (hi.run _ s σ H _ I ht) (fun v s1 h1 => wpAny_mono h1 (fun itv s2 h2 p => ?_) fun x s' hx => k.exc n s₀ x s' hx) fun x s' hx => k.exc n s₀ x s' hx
  obtain ⟨it, fp, tn, Jt, H2, e, I2, T, st2, f2, W, ⟨m0, w0⟩, turn⟩ := h2
  subst e
  have fS : ∀ b ∈ fp, S ≠ b := fun b hb => (f2 b hb).2.2.2.2.2 (S, lstObj acc cc) (List.mem_append_right _ List.mem_cons_self)
  have stat : ∀ {H' : Hp} {acc' : Array Value} {c' : Nat}, (∀ b ∈ fp, H' b = none) → ∀ b ∈ fp, FpOk X ((S, lstObj acc' c') :: ip) H' b := fun {H' acc' c'} hn b hb => ⟨hn b hb, (f2 b hb).2.1, (f2 b hb).2.2.1, (f2 b hb).2.2.2.1, (f2 b hb).2.2.2.2.1, fun p hp => by
    rcases List.mem_append.mp hp with z | z
    · exact (f2 b hb).2.2.2.2.2 p (List.mem_append_left _ z)
    · rcases List.mem_cons.mp z with z | z
      · rw [z]
        exact fS b hb
      · exact (f2 b hb).2.2.2.2.2 p (List.mem_append_right _ (List.mem_cons_of_mem _ z))⟩
  have gl := fun (kk : Result → Sem PySem.Fin) => gc_loop (k := kk) (c' := .forLoop tg (.ref it) body [] X.env) (l := lv []) (kp := []) (p := p) g' rfl rfl
  have loop : ∀ (m i n : Nat) (ys : List V) (s₀ s : Shared) (σ : L2.St) (H : Hp), n + ys.length = sizeLine → W i m ys σ H → GI X S ip ys σ H s → tn i s.heap → (∀ b ∈ fp, H b = none) →
      Seg (model X.prog X.w) A R (GY X S) n s₀ (.forLoop tg (.ref it) body [] X.env) ((model X.prog X.w).den (.forLoop tg (.ref it) body [] X.env))
        (.ret (fun r => ((match r with | .ok f => (.pure f : Sem Flow) | .error e => .raise e).onRaise (cameBack X.env)).wrap K J gd lv) none (gd false) (lv []) c p [] :: fs) s := by
    intro m
    induction m using Nat.strongRecOn with
    | ind m ih =>
      intro i n ys s₀ s σ H hn w hI st fr
      have ee : ∀ (n : Nat) (s₀ : Shared) (x : Value) (s' : Shared), X.xe x s' → Seg (model X.prog X.w) A R (GY X S) n s₀ (.forLoop tg (.ref it) body [] X.env) (noted X.env x)
          (.ret (fun r => ((match r with | .ok f => (.pure f : Sem Flow) | .error e => .raise e).onRaise (cameBack X.env)).wrap K J gd lv) none (gd false) (lv []) c p [] :: fs) s' := fun n s₀ x s' hx => by
        refine seg_wrap ?_
        rw [(gl _).over]
        refine wpAny_bind (wpAny_mono (hp x s' hx) (fun _ s'' hcb => wpAny_theTreesLotGoes ?_) fun y s'' hcb => ?_)
        · exact seg_leaf (.error x) (seg_cameBack g' k hcb)
        · exact seg_leaf (.error y) (seg_cameBack g' k hcb)
      obtain ⟨acc, cc, r, I⟩ := hI
      refine seg_forLoop ?_
      rw [(gl _).over]
      rcases turn i m ys σ H w with ⟨stop, qn⟩ | ⟨go, N, hN, step⟩
      · refine wpAny_mono (T.done X rfl rfl rfl hc i _ s σ H X.xe I (stat fr) st stop) (fun r' s4 ⟨hr, I4⟩ => ?_) fun x s' hx => ee n s₀ x s' hx
        subst hr
        refine seg_again rfl ?_
        exact seg_leaf (.ok .next) (k.ok n ys s₀ s4 .next hn ⟨σ, H, ⟨acc, cc, r, I4⟩, qn⟩)
      · refine wpAny_mono (T.item X rfl rfl rfl hc i _ s σ H X.xe I (stat fr) st go) (fun r' s4 ⟨u, hr, h4⟩ => ?_) fun x s' hx => ee n s₀ x s' hx
        subst hr
        refine wpAny_mono h4 (fun _ s5 ⟨x, H5, I5, r5, y5, st5, fr5⟩ => ?_) fun x s' hx => ee n s₀ x s' hx
        have I5' := I5.pinned (stat fr5) (T.obj _ _ st5)
        refine wpAny_mono (hg.run _ s5 σ H5 x u _ I5' r5 (step x H5 y5)) (fun _ s6 ⟨σ6, H6, I6, q6⟩ => ?_) fun x s' hx => ee n s₀ x s' hx
        have gb : GC X S (ip ++ pinsAt fp s5.heap) A (.forLoop tg (.ref it) body [] X.env) (.ret (fun r => ((match r with | .ok f => (.pure f : Sem Flow) | .error e => .raise e).onRaise (cameBack X.env)).wrap K J gd lv) none (gd false) (lv []) c p [] :: fs) id :=
          { gl _ with ip := fun q hq => (List.mem_append.mp hq).elim (fun z => g'.ip q z) fun z => (fS _ (of_pinsAt z).1).symm }
        refine hb.run A S (ip ++ pinsAt fp s5.heap) R n ys s₀ _ _ _ _ id id s6 σ6 H6 { D with nx := N, ct := N, bk := D.nx } gb hn ⟨fun n' ys' s₀' s7 f hn' hs => ?_, fun n' s₀' x s3 hx => ee n' s₀' x s3 hx⟩ ⟨acc, cc, r, I6⟩ q6
        have back : ∀ {σ7 : L2.St} {H7 : Hp}, GI X S (ip ++ pinsAt fp s5.heap) ys' σ7 H7 s7 → GI X S ip ys' σ7 H7 s7 := fun {σ7 H7} ⟨acc', c', r', I7⟩ => ⟨acc', c', r', Inv.unpinned (pins := (S, lstObj acc' c') :: ip) (pl := pinsAt fp s5.heap) I7⟩
        have again : ∀ {σ7 : L2.St} {H7 : Hp}, GI X S (ip ++ pinsAt fp s5.heap) ys' σ7 H7 s7 → N ys' σ7 H7 → Seg (model X.prog X.w) A R (GY X S) n' s₀' (.forLoop tg (.ref it) body [] X.env) (.pure (.again (.forLoop tg (.ref it) body [] X.env)))
            (.ret (fun r => ((match r with | .ok f => (.pure f : Sem Flow) | .error e => .raise e).onRaise (cameBack X.env)).wrap K J gd lv) none (gd false) (lv []) c p [] :: fs) s7 := fun {σ7 H7} I7 n7 => by
          obtain ⟨m', hm, w7⟩ := hN ys' σ7 H7 n7
          obtain ⟨acc', c', r', J7⟩ := id I7
          have pin : ∀ b ∈ fp, ∀ o, s5.heap.get? b = some o → (b, o) ∈ (S, lstObj acc' c') :: (ip ++ pinsAt fp s5.heap) := fun b hb o e => List.mem_cons_of_mem _ (List.mem_append_right _ (mem_pinsAt hb e))
          refine seg_again rfl (ih m' hm (i + 1) n' ys' s₀' s7 σ7 H7 hn' w7 (back I7) (T.keep _ _ _ st5 fun b hb o e => (J7.pin (b, o) (List.mem_append_right _ (pin b hb o e))).1) fun b hb => ?_)
          obtain ⟨o, e, d⟩ := T.obj _ _ st5 b hb
          exact (J7.pin (b, o) (List.mem_append_right _ (pin b hb o e))).2.1
        cases f with
        | next => obtain ⟨σ7, H7, I7, n7⟩ := hs; exact again I7 n7
        | cont => obtain ⟨σ7, H7, I7, n7⟩ := hs; exact again I7 n7
        | brk => obtain ⟨σ7, H7, I7, q7⟩ := hs; exact seg_leaf (.ok .next) (k.ok n' ys' s₀' s7 .next hn' ⟨σ7, H7, back I7, q7⟩)
        | ret v => obtain ⟨x7, σ7, H7, I7, r7, q7⟩ := hs; exact seg_leaf (.ok (.ret v)) (k.ok n' ys' s₀' s7 (.ret v) hn' ⟨x7, σ7, H7, back I7, r7, q7⟩)
  exact loop m0 0 n ys s₀ s2 σ H2 hn w0 ⟨acc, cc, r, I2⟩ st2 fun b hb => (f2 b hb).1
end
end DL

set_option Elab.async false
set_option linter.all false
set_option maxRecDepth 100000
/-! Generators by data: what is out so far is a list of data. -/
namespace DL
open PySem PySem.Spec PyProof.Rows L2
structure DGEnds where
  nx : List D → DEnv → MS → Prop
  rt : List D → D → MS → Prop
  bk : List D → DEnv → MS → Prop := fun _ _ _ => False
  ct : List D → DEnv → MS → Prop := fun _ _ _ => False
abbrev WGS := DGEnds → List D → DEnv → MS → Prop
def DGEnds.at (D : DGEnds) (ys : List DL.D) : DEnds := { nx := D.nx ys, rt := D.rt ys, bk := D.bk ys, ct := D.ct ys }
def EndGN (mg : MG) (A : List Addr) (H : Hp) (Q : List V → L2.St → Hp → Prop) (Q' : List D → DEnv → MS → Prop) : Prop := ∀ ds ρ S' A' ys σ H', Grow A A' H H' → Rep mg A' S' H' → EnvD mg A' H' σ ρ → IsL mg A' H' ys ds → Q' ds ρ S' → Q ys σ H'
def EndGV (mg : MG) (A : List Addr) (H : Hp) (Q : List V → VK) (Q' : List D → D → MS → Prop) : Prop := ∀ ds d S' A' ys v H', Grow A A' H H' → Rep mg A' S' H' → Is mg A' H' v d → IsL mg A' H' ys ds → Q' ds d S' → Q ys v H'
structure EndG (mg : MG) (A : List Addr) (H : Hp) (E : GEnds) (E' : DGEnds) : Prop where
  nx : EndGN mg A H E.nx E'.nx
  rt : EndGV mg A H E.rt E'.rt
  bk : EndGN mg A H E.bk E'.bk
  ct : EndGN mg A H E.ct E'.ct
section
variable {mg : MG} {A A' : List Addr} {H H' : Hp}
theorem EndGN.mono {Q Q'} (e : EndGN mg A H Q Q') (g : Grow A A' H H') : EndGN mg A' H' Q Q' := fun ds ρ S' A2 ys σ H2 g2 => e ds ρ S' A2 ys σ H2 (g.trans g2)
theorem EndGV.mono {Q Q'} (e : EndGV mg A H Q Q') (g : Grow A A' H H') : EndGV mg A' H' Q Q' := fun ds d S' A2 ys v H2 g2 => e ds d S' A2 ys v H2 (g.trans g2)
theorem EndG.mono {E E'} (e : EndG mg A H E E') (g : Grow A A' H H') : EndG mg A' H' E E' := ⟨e.nx.mono g, e.rt.mono g, e.bk.mono g, e.ct.mono g⟩
end
def SndG' (mg : MG) (t : TGn) (w : WGS) : Prop := ∀ A S σ H ρ ys ds E E', Rep mg A S H → EnvD mg A H σ ρ → IsL mg A H ys ds → w E' ds ρ S → EndG mg A H E E' → t E ys σ H
structure PDGn (X : Cx) (st : Stmt) (t : TGn) (w : WGS) : Prop where
  pe : GS X st t
  sd : SndG' X.G t w
structure PDGns (X : Cx) (st : List Stmt) (t : TGn) (w : WGS) : Prop where
  pe : GSs X st t
  sd : SndG' X.G t w
section
variable {X : Cx} {st : Stmt} {rest : List Stmt}
/-- a statement without yield -/
def gPlain (w : WS) : WGS := fun E ds ρ S => w (E.at ds) ρ S
theorem dgn_plain {t : TS} {w : WS} (h : PDS X st t w) : PDGn X st (tPlain t) (gPlain w) := by
  refine ⟨gs_ps h.pe, fun A S σ H ρ ys ds E E' R V l q k => ?_⟩
  exact h.sd A S σ H ρ _ _ R V q ⟨fun ρ' S' A' σ' H' g R' V' z => k.nx ds ρ' S' A' ys σ' H' g R' V' (l.mono g) z, fun d S' A' v H' g R' i z => k.rt ds d S' A' ys v H' g R' i (l.mono g) z,
    fun ρ' S' A' σ' H' g R' V' z => k.bk ds ρ' S' A' ys σ' H' g R' V' (l.mono g) z, fun ρ' S' A' σ' H' g R' V' z => k.ct ds ρ' S' A' ys σ' H' g R' V' (l.mono g) z⟩
def gNil : WGS := fun E ds ρ S => E.nx ds ρ S
theorem dgn_nil : PDGns X [] tG0 gNil := ⟨gss_nil, fun A S σ H ρ ys ds E E' R V l q k => k.nx ds ρ S A ys σ H .refl R V l q⟩
def gSeq (a b : WGS) : WGS := fun E ds ρ S => a { E with nx := fun ds' ρ' S' => b E ds' ρ' S' } ds ρ S
theorem dgn_cons {t u : TGn} {a b : WGS} (h : PDGn X st t a) (h2 : PDGns X rest u b) : PDGns X (st :: rest) (tGThen t u) (gSeq a b) := by
  refine ⟨gss_cons h.pe h2.pe, fun A S σ H ρ ys ds E E' R V l q k => ?_⟩
  exact h.sd A S σ H ρ ys ds _ _ R V l q ⟨fun ds' ρ' S' A' ys' σ' H' g R' V' l' z => h2.sd A' S' σ' H' ρ' ys' ds' E E' R' V' l' z (k.mono g), k.rt, k.bk, k.ct⟩
/-- yield e -/
def gYield (w : WD) : WGS := fun E ds ρ S => ds.length < sizeLine ∧ w ρ S fun d S' => E.nx (ds ++ [d]) ρ S'
theorem IsL.snoc {mg : MG} {A : List Addr} {H : Hp} : ∀ {ys : List V} {ds : List D} {v : V} {d : D}, IsL mg A H ys ds → Is mg A H v d → IsL mg A H (ys ++ [v]) (ds ++ [d])
  | _, _, _, _, .nil, h => .cons h .nil
  | _, _, _, _, .cons a l, h => .cons a (IsL.snoc l h)
theorem dgn_yield {e : Expr} {te : TE} {w : WD} {yp pos : Pos} (h : PD X e te w) (hco : X.env.scope.isCoroutine = false := by rfl) (hi : interactive X.env = false := by rfl) : PDGn X (.Expr (.Yield (some e) yp) pos) (tGYield te) (gYield w) := by
  refine ⟨gs_yield h.pe hco hi, fun A S σ H ρ ys ds E E' R V l q k => ?_⟩
  obtain ⟨hl, q⟩ := q
  refine ⟨by rw [l.length]; exact hl, h.sd A S σ H ρ _ _ R V q fun d S' A' v H' g R' i z => ?_⟩
  exact k.nx (ds ++ [d]) ρ S' A' (ys ++ [v]) σ H' g R' (V.mono g) ((l.mono g).snoc i) z
/-- for, with yields in its body -/
def gforO (ok : MS → Prop) : List D → (D → List D → DEnv → MS → (List D → DEnv → MS → Prop) → Prop) → (List D → DEnv → MS → Prop) → List D → DEnv → MS → Prop
  | [], _, fin, ds, ρ, S => ok S ∧ fin ds ρ S
  | d :: items, step, fin, ds, ρ, S => ok S ∧ step d ds ρ S fun ds1 ρ1 S1 => gforO ok items step fin ds1 ρ1 S1
theorem gforO_ok {ok : MS → Prop} {items : List D} {step : D → List D → DEnv → MS → (List D → DEnv → MS → Prop) → Prop} {fin : List D → DEnv → MS → Prop} {ds : List D} {ρ : DEnv} {S : MS} (h : gforO ok items step fin ds ρ S) : ok S := by
  cases items with
  | nil => exact h.1
  | cons _ _ => exact h.1
def gforStep (wg : WG) (wb : WGS) (DD : DGEnds) : D → List D → DEnv → MS → (List D → DEnv → MS → Prop) → Prop := fun d ds ρ S nx => wg d ρ S fun ρ1 S1 => wb { DD with nx := nx, ct := nx, bk := DD.nx } ds ρ1 S1
def gFor (wi : WIt) (wg : WG) (wb : WGS) : WGS := fun DD ds ρ S => wi ρ S fun items ok S1 => gforO ok items (gforStep wg wb DD) DD.nx ds ρ S1
theorem dgn_for {pos : Pos} {iter : Expr} {body : List Stmt} {tg : Expr} {g : TG} {wg : WG} {tb : TGn} {wb : WGS} {ti : TI} {wi : WIt} (hp : PassesOwn (model X.prog X.w) X.A X.env X.xe) (hc : X.calm = true) (hi : PDI X tg iter ti wi) (hg : PDG X tg g wg) (hb : PDGns X body tb wb)
    (hs : ∀ x, foldedSetIterable iter X.env x = pure x := by intro _; rfl) : PDGn X (.For tg iter body [] pos) (tGFor ti g tb) (gFor wi wg wb) := by
  refine ⟨gs_for hp hc hi.pe hg.pe hb.pe hs, fun A S σ H ρ ys0 ds0 D D' R E l0 h k => ?_⟩
  refine hi.sd A S σ H ρ _ _ R E h fun ds ok S1 A1 J H1 g1 R1 fol q1 => ?_
  refine ⟨fun i mm ys2 σ2 H2 => mm = ds.length - i ∧ i ≤ ds.length ∧ ∃ A2 S2 ρ2 o2, Grow A1 A2 H1 H2 ∧ Rep X.G A2 S2 H2 ∧ EnvD X.G A2 H2 σ2 ρ2 ∧ IsL X.G A2 H2 ys2 o2 ∧ gforO ok (ds.drop i) (gforStep wg wb D') D'.nx o2 ρ2 S2, ⟨ds.length, by simp, Nat.zero_le _, A1, S1, ρ, ds0, .refl, R1, E.mono g1, l0.mono g1, q1⟩, ?_⟩
  rintro i mm ys2 σ2 H2 ⟨rfl, hle, A2, S2, ρ2, o2, g2, R2, E2, l2, q2⟩
  have hok := gforO_ok q2
  by_cases hlt : i < ds.length
  · rw [List.drop_eq_getElem_cons hlt] at q2
    obtain ⟨f1, f2⟩ := fol.go i ds[i] A2 S2 H2 g2 R2 hok (List.getElem?_eq_getElem hlt)
    refine .inr ⟨f1, fun ys' σ' H' => ∃ A2 S2 ρ2 o2, Grow A1 A2 H1 H' ∧ Rep X.G A2 S2 H' ∧ EnvD X.G A2 H' σ' ρ2 ∧ IsL X.G A2 H' ys' o2 ∧ gforO ok (ds.drop (i + 1)) (gforStep wg wb D') D'.nx o2 ρ2 S2, fun ys' σ' H' z => ⟨ds.length - (i + 1), by omega, rfl, hlt, z⟩, fun x H' y => ?_⟩
    obtain ⟨gy, Ry, hx⟩ := f2 x H' y
    refine hg.sd A2 S2 σ2 H' ρ2 x _ _ _ Ry (E2.mono gy) hx q2.2 fun ρ3 S3 A3 σ3 H3 g3 R3 E3 q3 => ?_
    have nx : EndGN X.G A3 H3 (fun ys2 σ2 H2 => ∃ A2 S2 ρ2 o2, Grow A1 A2 H1 H2 ∧ Rep X.G A2 S2 H2 ∧ EnvD X.G A2 H2 σ2 ρ2 ∧ IsL X.G A2 H2 ys2 o2 ∧ gforO ok (ds.drop (i + 1)) (gforStep wg wb D') D'.nx o2 ρ2 S2) (fun o' ρ' S' => gforO ok (ds.drop (i + 1)) (gforStep wg wb D') D'.nx o' ρ' S') :=
      fun o' ρ' S' A' ys' σ' H' g' R' E' l' z => ⟨A', S', ρ', o', ((g2.trans gy).trans g3).trans g', R', E', l', z⟩
    have kk := k.mono (g1.trans ((g2.trans gy).trans g3))
    exact hb.sd A3 S3 σ3 H3 ρ3 ys2 o2 _ _ R3 E3 (l2.mono (gy.trans g3)) q3 ⟨nx, kk.rt, kk.nx, nx⟩
  · have e : i = ds.length := by omega
    subst e
    rw [List.drop_length] at q2
    exact .inl ⟨fol.stop A2 S2 H2 g2 R2 hok, k.nx o2 ρ2 S2 A2 ys2 σ2 H2 (g1.trans g2) R2 E2 l2 q2.2⟩
end
end DL

set_option Elab.async false
set_option linter.all false
set_option maxRecDepth 100000
/-! A generator def by data; list(x.m(..)) of a generator method. -/
namespace DL
open PySem PySem.Spec PyProof.Rows L2
abbrev WFG := List D → MS → (List D → MS → Prop) → Prop
def spWG (mg : MG) (n : Nat) (w : WFG) : SpG := fun vs H cont _ => ∃ A S ds Q', Rep mg A S H ∧ IsL mg A H vs ds ∧ ds.length = n ∧ w ds S Q' ∧
  ∀ outs S' A' ys H', Grow A A' H H' → Rep mg A' S' H' → IsL mg A' H' ys outs → Q' outs S' → cont ys H'
theorem spWG.len {mg : MG} {n : Nat} {w : WFG} {vs : List V} {H : Hp} {Q : List V → Hp → Prop} {E : XK} (h : spWG mg n w vs H Q E) : vs.length = n := by
  obtain ⟨A, S, ds, Q', R, l, e, _⟩ := h
  rw [l.length, e]
section
variable {P : Program} {w : World} {K : PySem.W.Frag} {mg : Str → Option Value} {base : Heap}
theorem gfnD {x qual : Str} {st : Stmt} {f : Addr} {fd : FuncData} {N ps : List Str} {k : Nat} {wf : WFG} {ws : WGS} (F : Fun K x qual st f fd) (S : GScope N ps (defScope st))
    (hb : ∀ (cdv : Value) (A : Around) (outer : List Env) (s : Shared) (H : Hp) (E : XK) (pn : List (Addr × Obj)), Room k (A.deeper (envOfC qual (defScope st) s.heap.objs.size f cdv)) →
      ∃ t, PDGns (gcxOf P w K mg base N qual (defScope st) f cdv A outer s H E pn) (defBody st) t ws)
    (hw : ∀ ds S Q, ds.length = ps.length → wf ds S Q → ws { nx := fun ys _ S' => Q ys S', rt := fun ys d S' => d = .non ∧ Q ys S' } [] (startD N ds) S) : GFn P w K mg base (k + 1) f fd ps (spWG ⟨K, mg⟩ ps.length wf) := by
  obtain ⟨oc, od, kV, doc, pm, an, cdv, ct, osl, rfl, lk, hcd⟩ := F.ex
  refine gfn_of lk hcd S (fun vs H Q E h => h.len) fun A outer s H vs Q E pn hr h => ?_
  obtain ⟨t, hp⟩ := hb cdv A outer s H E pn hr
  obtain ⟨A', S', ds, Q', R, l, e, q, k⟩ := h
  refine ⟨t, hp.pe, hp.sd A' S' (L2.start N vs) H (startD N ds) [] [] _ _ R (env_start l) .nil (hw ds S' Q' e q) ⟨fun o ρ1 S1 A1 ys σ1 H1 g1 R1 E1 l1 q1 => k o S1 A1 ys H1 g1 R1 l1 q1, fun o d S1 A1 ys v H1 g1 R1 i1 l1 q1 => ?_, ?_, ?_⟩⟩
  · obtain ⟨rfl, q1⟩ := q1
    cases i1
    exact ⟨rfl, k o S1 A1 ys H1 g1 R1 l1 q1⟩
  · intro o ρ1 S1 A1 ys σ1 H1 g1 R1 E1 l1 q1
    exact q1.elim
  · intro o ρ1 S1 A1 ys σ1 H1 g1 R1 E1 l1 q1
    exact q1.elim
end
section
variable {X : Cx} {k n : Nat} {f C : Addr} {fd : FuncData} {ps : List Str} {w : WFG} {c m : Str} {p p2 pos pos2 apos : Pos} {e o : Expr} {es : List Expr} {t : TA} {wl : WL} {to : TE} {wo : WD}
def wListMeth (c m : Str) (n : Nat) (w : WFG) (wo : WD) (wl : WL) : WD := fun ρ S Q => wo ρ S fun x S1 => match x with
  | .ins c' fs => c' = c ∧ fs.lookup m = none ∧ wl ρ S1 fun ds S2 => ds.length + 1 = n ∧ w (.ins c' fs :: ds) S2 fun outs S3 => Q (.lst outs) S3
  | _ => False
theorem passCX0 : Passes (CX X.prog X.w) X E0 := fun _ _ _ _ _ _ _ h => by
  obtain ⟨a, B, H', cls, d, _, fl, _, _, _, _, _, hW⟩ := h
  exact hW.elim
theorem d_listMeth {pl : Sem Bool} (ho : PD X o to wo) (hC : X.mg c = some (.ref C)) (cl : Cls X.K C) (hm : Meth X.K C m f) (F : GFn X.prog X.w X.K X.mg X.base k f fd ps (spWG X.G n w)) (hr : Room (k + 3) X.A) (hb : Binds X.K fd ps []) (ha : PDA X (e :: es) t wl)
    (hmL : X.mg "list" = none) (hgL : Gl X "list" := by rfl)
    (hst : starEach (e :: es) X.env = (false, eval e X.env) :: starEach es X.env := by rfl) (hpl : (backTo pos2 (starEach es X.env)).any (·.1) = false := by rfl)
    (ht : eval (.Call (.Attribute o m apos) (e :: es) [] pos2) X.env = (do
      let ov ← eval o X.env
      standAt apos.atName
      let (f, first) ← holding [ov] (getMethod ov m pl)
      callWith pos2 f first (backTo pos2 (starEach (e :: es) X.env)) (backToKw pos2 (keywordEach [] X.env))) := by rfl)
    (he : starEach [.Call (.Attribute o m apos) (e :: es) [] pos2] X.env = (false, eval (.Call (.Attribute o m apos) (e :: es) [] pos2) X.env) :: starEach [] X.env := by rfl) :
    PD X (.Call (.Name "list" p) [.Call (.Attribute o m apos) (e :: es) [] pos2] [] pos) (tListG (tMethG C m (spWG X.G n w) [] E0 to t)) (wListMeth c m n w wo wl) := by
  have hr' : Room k X.A := hr.mono (by omega)
  refine ⟨pe_listG (pgen_meth (pl := pl) ho.pe cl hm F hr' hb .nil ha.pe hst hpl ht) passCX0 (fun _ _ _ h => h.elim) hr hgL hmL PyProof.Rows.boot_list (he := he), fun A S σ H ρ Q Q' R E h kk => ?_⟩
  refine ho.sd A S σ H ρ _ _ R E h fun d S1 A1 v H1 g1 R1 hv q1 => ?_
  cases hv <;> first | exact q1.elim | skip
  rename_i a C' dx c' fs fds na ec r l
  obtain ⟨rfl, hl, q1⟩ := q1
  have ec := (show X.mg _ = _ from ec)
  rw [hC] at ec
  cases ec
  refine ⟨a, dx, fs, rfl, r, l.no hl, ?_⟩
  refine ha.sd A1 S1 σ H1 ρ _ _ R1 (E.mono g1) q1 fun ds S2 A2 vs H2 g2 R2 hvs q2 => ?_
  refine ⟨A2, S2, .ins c' fds :: ds, _, R2, by rw [List.append_nil]; exact .cons ((Is.ins na hC r l).mono g2) hvs, q2.1, q2.2, fun outs S3 A3 ys H3 g3 R3 l3 q3 p hp => ?_⟩
  have g4 := grow_new (o := .lst ys) R3 hp
  exact kk _ S3 A3 _ _ (((g1.trans g2).trans g3).trans g4) (R3.new hp) (.lst (R3.fresh hp) upd_same (l3.mono g4)) q3
end
end DL

set_option Elab.async false
set_option linter.all false
set_option maxRecDepth 100000
/-! A def with values for what is left out (by data), an instance made by such an __init__. -/
namespace DL
open PySem PySem.Spec PyProof.Rows L2
section
variable {P : Program} {w : World} {K : PySem.W.Frag} {mg : Str → Option Value} {base : Heap}
theorem fnDD {x qual : Str} {st : Stmt} {f : Addr} {fd : FuncData} {N ps : List Str} {k : Nat} {wf : WF} {ws : WS} {dvs : List V} {kws : List (Str × V)} (F : FunD K x qual (defArgs st) (defBody st) (defScope st) dvs kws f fd) (S : FnScope N ps (defScope st))
    (hb : ∀ (cdv : Value) (A : Around) (outer : List Env) (s : Shared) (H : Hp) (E : XK), Room k (A.deeper (envOfC qual (defScope st) s.heap.objs.size f cdv)) →
      ∃ t, PDSs ((cxOf CX0 P w K mg base N qual (defScope st) f cdv A outer s H E).nox) (defBody st) t ws)
    (hw : ∀ ds S Q, ds.length = ps.length → wf ds S Q → ws { nx := fun _ S' => Q .non S', rt := Q } (startD N ds) S) : FnOk P w K mg base CX0 (k + 1) f fd ps (spW ⟨K, mg⟩ ps.length wf) := by
  refine F.ok S (fun vs H Q E h => h.len) fun cdv A outer s H vs Q E hr h => ?_
  obtain ⟨t, hp⟩ := hb cdv A outer s H E hr
  obtain ⟨A', S', ds, Q', R, l, e, q, k⟩ := h
  refine ⟨t, hp.pe.nox, hp.sd A' S' (L2.start N vs) H (startD N ds) _ _ R (env_start l) (hw ds S' Q' e q) ⟨fun ρ1 S1 A1 σ1 H1 g1 R1 E1 q1 => k _ S1 A1 .non H1 g1 R1 .non q1, k, ?_, ?_⟩⟩
  · intro ρ1 S1 A1 σ1 H1 g1 R1 E1 q1
    exact q1.elim
  · intro ρ1 S1 A1 σ1 H1 g1 R1 E1 q1
    exact q1.elim
end
/-- x is not None, of an int or None -/
def oNotI : OD := fun x y S Q => match y with
  | .non => (match x with
    | .non => Q (.bl false) S
    | .int _ => Q (.bl true) S
    | _ => False)
  | _ => False
theorem snd_notI {mg : MG} : SndR mg (fun x y H Q => y = .non ∧ Q (.bl (!decide (x = .non))) H) oNotI := by
  intro A S H x y dx dy Q Q' R hx hy q k
  cases hy <;> first | exact q.elim | skip
  refine ⟨rfl, ?_⟩
  cases hx <;> first | exact q.elim | skip
  all_goals exact k _ S A _ H .refl R (.bl _) q
/-- bool(o) by data -/
def oBoolO (c : Str) (w : WF) : LD := fun ds S Q => match ds with
  | [.ins c' fs] => c' = c ∧ w [.ins c' fs] S fun d S2 => match d with
    | .bl b => Q (.bl b) S2
    | _ => False
  | _ => False
theorem snd_boolO {mg : MG} {c : Str} {C : Addr} {w : WF} (hC : mg.f c = some (.ref C)) : SndC mg (fun xs H Q => ∃ a dx fs, xs = [V.ref a] ∧ H a = some (.ins C dx fs) ∧ spW mg 1 w [.ref a] H (fun v H2 => ∃ b, v = .bl b ∧ Q (.bl b) H2) E0) (oBoolO c w) := by
  intro A S H xs ds Q Q' R l q kk
  match ds, q, l with
  | [.ins c' fs], ⟨e2, q2⟩, l =>
    obtain ⟨v, rfl, hx⟩ := l.one
    subst e2
    cases hx with
    | @ins a C' dx _ gs _ na ec r lf =>
      cases hC.symm.trans (show mg.f _ = _ from ec)
      exact ⟨a, dx, gs, rfl, r, A, S, [_], _, R, .cons (.ins na hC r lf) .nil, rfl, q2, endB (Q := fun b H2 => Q (.bl b) H2) (Q' := fun b S2 => Q' (.bl b) S2) fun b S' A' H' g' R' z => kk _ S' A' _ H' g' R' (.bl _) z⟩
/-- made by an __init__ that has values for what is left out -/
def wMakeD (c : Str) (n : Nat) (dds : List D) (w : WF) (wl : WL) : WD := fun ρ S Q => wl ρ S fun ds S1 => (ds ++ dds).length = n ∧ w (.mut S1.length :: (ds ++ dds)) (S1 ++ [.i c []]) fun d S2 => d = .non ∧ Q (.mut S1.length) S2
section
variable {X : Cx} {k n : Nat} {f C : Addr} {fd : FuncData} {ps : List Str} {w : WF} {x c : Str} {p pos pos' : Pos} {e o : Expr} {es : List Expr} {t : TA} {wl : WL} {te tv : TE} {we wv : WD}
theorem d_makeD {dvs : List V} {dus : List Value} {dds : List D} (M : Mk X.K C f) (F : FnOk X.prog X.w X.K X.mg X.base CX0 k f fd ps (spW X.G (n + 1) w)) (hr : Room (k + 1) X.A) (hm : X.mg x = some (.ref C)) (hb : Binds X.K fd ps dus) (hd : Vals dvs dus) (hdd : ∀ A H, IsL X.G A H dvs dds)
    (ha : PDA X (e :: es) t wl) (hg : Gl X x := by rfl) (hdb : (x == ("__debug__" : Str)) = false := by decide) (he : starEach (e :: es) X.env = (false, eval e X.env) :: starEach es X.env := by rfl) (hpl : (backTo pos (starEach es X.env)).any (·.1) = false := by rfl) :
    PD X (.Call (.Name x p) (e :: es) [] pos) (tMake C (spW X.G (n + 1) w) dvs E0 t) (wMakeD x n dds w wl) := by
  refine ⟨pe_make M F hr hg hm hb hd pass0 ha.pe hdb he hpl, fun A S σ H ρ Q Q' R E h k => ?_⟩
  refine ha.sd A S σ H ρ _ _ R E h fun ds S1 A1 vs H1 g1 R1 hv q1 => ?_
  intro a dx na nd ne
  have hx1 : upd H1 dx (.own a) a = none := by rw [upd_ne (Ne.symm ne)]; exact na
  have ga := grow_new (o := .own a) R1 nd
  have Ra := R1.new (o := .own a) nd
  have gb := grow_mut (o := .ins C dx []) Ra hx1
  have Rb := Ra.newMO (u := .ins C dx []) (o := .i x []) hx1 ⟨C, dx, [], hm, upd_same, .nil⟩
  have g := ga.trans gb
  have at_ : (A1 ++ [a])[S1.length]? = some a := by rw [← R1.len]; simp
  refine ⟨A1 ++ [a], S1 ++ [.i x []], .mut S1.length :: (ds ++ dds), _, Rb, ?_, by rw [List.length_cons, q1.1], q1.2, fun d S' A' v H' g' R' hv' q' => ?_⟩
  · exact .cons (.mut at_) ((hv.mono g).append (hdd _ _))
  · obtain ⟨rfl, q'⟩ := q'
    cases hv'
    exact ⟨rfl, k _ S' A' _ H' (g1.trans (g.trans g')) R' (.mut (g'.pre _ _ at_)) q'⟩
end
end DL

set_option Elab.async false
set_option linter.all false
set_option maxRecDepth 100000
set_option maxHeartbeats 0
namespace K1
open PySem PySem.Spec PyProof.Rows L2 DL
def topS (i : Nat) : Stmt := PySem.Challenge.pw_loopbounds_k57_rounds_asked.main.body.getD i (.Pass ⟨0, 0, 0, 0⟩)
abbrev s_is_int : Stmt := topS 10
abbrev s_is_int_within : Stmt := topS 11
abbrev s_check_ascending : Stmt := topS 21
abbrev s_check_first : Stmt := topS 22
abbrev s_index_from : Stmt := topS 26
abbrev s_next_flagged : Stmt := topS 27
abbrev s_next_member : Stmt := topS 28
abbrev s_chosen : Stmt := topS 23
abbrev s_combined : Stmt := topS 24
abbrev s_have_same_members : Stmt := topS 25
abbrev s__law_purse : Stmt := topS 39
abbrev s__law_take : Stmt := topS 40
abbrev s__law_set : Stmt := topS 41
abbrev s__law_holds : Stmt := topS 42
abbrev s__law_formed : Stmt := topS 43
abbrev s__law_members : Stmt := topS 44
abbrev s__law_whole : Stmt := topS 45
abbrev s__law_right : Stmt := topS 46
abbrev s__law_several_right : Stmt := topS 47
abbrev s_law : Stmt := topS 48
abbrev s_init : Stmt := inClass (topS 29) 0
abbrev s_told : Stmt := inClass (topS 29) 1
abbrev s_rests : Stmt := inClass (topS 29) 2
abbrev s_modulus : Stmt := inClass (topS 29) 3
abbrev s_whole_from : Stmt := inClass (topS 29) 4
abbrev s_after : Stmt := inClass (topS 29) 5
abbrev s_members : Stmt := inClass (topS 29) 6
abbrev s_and : Stmt := inClass (topS 29) 7
abbrev s_or : Stmt := inClass (topS 29) 8
abbrev s_sub : Stmt := inClass (topS 29) 9
abbrev s_xor : Stmt := inClass (topS 29) 10
abbrev s_contains : Stmt := inClass (topS 29) 11
abbrev s_eq : Stmt := inClass (topS 29) 12
abbrev s_le : Stmt := inClass (topS 29) 13
abbrev s_bool : Stmt := inClass (topS 29) 14
abbrev s_R_init : Stmt := inClass (topS 37) 0
def kt : TyK → TyK → Option Bool
  | .ty a, .ty b => kitB a b
  | .cls c, .cls d => if c = "Rounds" ∧ d = "Rounds" then some true else none
  | .cls c, .ty b => if c = "Ratio" ∧ b = "int" then some false else none
  | _, _ => none
theorem kt_ri : kt (.cls "Ratio") (.ty "int") = some false := by decide +kernel
theorem kt_ii : kt (.ty "int") (.ty "int") = some true := by decide +kernel
theorem kt_ib : kt (.ty "int") (.ty "bool") = some false := by decide +kernel
theorem kt_rr : kt (.cls "Rounds") (.cls "Rounds") = some true := by decide +kernel
theorem if_t1 {A B : Prop} : (if true = true then A else B) = A := if_pos rfl
theorem if_f1 {A B : Prop} : (if false = true then A else B) = B := if_neg Bool.false_ne_true
structure Tx (K : PySem.W.Frag) (mg : Str → Option Value) where
  CR : Addr
  f_R_init : Addr
  fd_R_init : FuncData
  ds_R_init1 : List Value
  F_R_init : FunD K "__init__" "Ratio.__init__" (defArgs s_R_init) (defBody s_R_init) (defScope s_R_init) [.int 1] [] f_R_init fd_R_init
  b_R_init1 : Binds K fd_R_init ["self", "top", "bottom"] ds_R_init1
  v_R_init1 : Vals [.int 1] ds_R_init1
  g_Ratio : mg "Ratio" = some (.ref CR)
  clR : Cls K CR
  na_top : NoAttr K CR "_top"
  na_bottom : NoAttr K CR "_bottom"
  mkkR : Mk K CR f_R_init
  C : Addr
  mc : Value
  g_Rounds : mg "Rounds" = some (.ref C)
  cl : Cls K C
  na_flags : NoAttr K C "_flags"
  na_odd : NoAttr K C "_odd"
  own : PySem.W.selfFirst K C = true
  cr : ClX.CRead K C mc
  isi : IsiT K ⟨K, mg⟩ kt
  hne : PySem.W.findIn K (.ref C) "__ne__" = some (some (.builtin "object.__ne__"))
  hmo : PySem.W.mroIn K C (.type "object") = some true
  ni_BitAnd : NoIn K C .BitAnd
  ni_BitOr : NoIn K C .BitOr
  ni_Sub : NoIn K C .Sub
  ni_BitXor : NoIn K C .BitXor
  g_gcd : mg "gcd" = some (.builtin "math.gcd")
  g_lcm : mg "lcm" = some (.builtin "math.lcm")
  tk_MOST_MODULUS : Tok
  g_MOST_MODULUS : mg "MOST_MODULUS" = some (.int 5040 tk_MOST_MODULUS)
  tk_MOST_MEMBER : Tok
  g_MOST_MEMBER : mg "MOST_MEMBER" = some (.int 1000000 tk_MOST_MEMBER)
  tk_MOST_FIRST : Tok
  g_MOST_FIRST : mg "MOST_FIRST" = some (.int 1000000000 tk_MOST_FIRST)
  tk_MOST_YIELDED : Tok
  g_MOST_YIELDED : mg "MOST_YIELDED" = some (.int 1000 tk_MOST_YIELDED)
  a_IN_BOTH : Addr
  g_IN_BOTH : mg "IN_BOTH" = some (.ref a_IN_BOTH)
  kt_IN_BOTH : KTup K a_IN_BOTH [.bl false, .bl false, .bl false, .bl true]
  a_IN_ONE_AT_LEAST : Addr
  g_IN_ONE_AT_LEAST : mg "IN_ONE_AT_LEAST" = some (.ref a_IN_ONE_AT_LEAST)
  kt_IN_ONE_AT_LEAST : KTup K a_IN_ONE_AT_LEAST [.bl false, .bl true, .bl true, .bl true]
  a_IN_THE_FIRST_ONLY : Addr
  g_IN_THE_FIRST_ONLY : mg "IN_THE_FIRST_ONLY" = some (.ref a_IN_THE_FIRST_ONLY)
  kt_IN_THE_FIRST_ONLY : KTup K a_IN_THE_FIRST_ONLY [.bl false, .bl false, .bl true, .bl false]
  a_IN_JUST_ONE : Addr
  g_IN_JUST_ONE : mg "IN_JUST_ONE" = some (.ref a_IN_JUST_ONE)
  kt_IN_JUST_ONE : KTup K a_IN_JUST_ONE [.bl false, .bl true, .bl true, .bl false]
  z_isinstance : mg "isinstance" = none
  z_int : mg "int" = none
  z_bool : mg "bool" = none
  z_abs : mg "abs" = none
  z_len : mg "len" = none
  z_max : mg "max" = none
  z_min : mg "min" = none
  z_all : mg "all" = none
  z_any : mg "any" = none
  z_range : mg "range" = none
  z_enumerate : mg "enumerate" = none
  z_zip : mg "zip" = none
  z_list : mg "list" = none
  z_sorted : mg "sorted" = none
  z_repr : mg "repr" = none
  f_is_int : Addr
  fd_is_int : FuncData
  F_is_int : Fun K "is_int" "is_int" s_is_int f_is_int fd_is_int
  b_is_int : Binds K fd_is_int ["value"] []
  m_is_int : mg "is_int" = some (.ref f_is_int)
  f_is_int_within : Addr
  fd_is_int_within : FuncData
  F_is_int_within : Fun K "is_int_within" "is_int_within" s_is_int_within f_is_int_within fd_is_int_within
  b_is_int_within : Binds K fd_is_int_within ["value", "least", "most"] []
  m_is_int_within : mg "is_int_within" = some (.ref f_is_int_within)
  f_check_ascending : Addr
  fd_check_ascending : FuncData
  F_check_ascending : Fun K "check_ascending" "check_ascending" s_check_ascending f_check_ascending fd_check_ascending
  b_check_ascending : Binds K fd_check_ascending ["values", "most"] []
  m_check_ascending : mg "check_ascending" = some (.ref f_check_ascending)
  f_check_first : Addr
  fd_check_first : FuncData
  F_check_first : Fun K "check_first" "check_first" s_check_first f_check_first fd_check_first
  b_check_first : Binds K fd_check_first ["first"] []
  m_check_first : mg "check_first" = some (.ref f_check_first)
  f_index_from : Addr
  fd_index_from : FuncData
  F_index_from : Fun K "index_from" "index_from" s_index_from f_index_from fd_index_from
  b_index_from : Binds K fd_index_from ["numbers", "least"] []
  m_index_from : mg "index_from" = some (.ref f_index_from)
  f_next_flagged : Addr
  fd_next_flagged : FuncData
  F_next_flagged : Fun K "next_flagged" "next_flagged" s_next_flagged f_next_flagged fd_next_flagged
  b_next_flagged : Binds K fd_next_flagged ["flags", "first"] []
  m_next_flagged : mg "next_flagged" = some (.ref f_next_flagged)
  f_next_member : Addr
  fd_next_member : FuncData
  F_next_member : Fun K "next_member" "next_member" s_next_member f_next_member fd_next_member
  b_next_member : Binds K fd_next_member ["flags", "odd", "first"] []
  m_next_member : mg "next_member" = some (.ref f_next_member)
  f_chosen : Addr
  fd_chosen : FuncData
  F_chosen : Fun K "chosen" "chosen" s_chosen f_chosen fd_chosen
  b_chosen : Binds K fd_chosen ["table", "in_one", "in_two"] []
  m_chosen : mg "chosen" = some (.ref f_chosen)
  f_combined : Addr
  fd_combined : FuncData
  F_combined : Fun K "combined" "combined" s_combined f_combined fd_combined
  b_combined : Binds K fd_combined ["one", "two", "table"] []
  m_combined : mg "combined" = some (.ref f_combined)
  f_have_same_members : Addr
  fd_have_same_members : FuncData
  F_have_same_members : Fun K "have_same_members" "have_same_members" s_have_same_members f_have_same_members fd_have_same_members
  b_have_same_members : Binds K fd_have_same_members ["one", "two"] []
  m_have_same_members : mg "have_same_members" = some (.ref f_have_same_members)
  f__law_purse : Addr
  fd__law_purse : FuncData
  F__law_purse : Fun K "_law_purse" "_law_purse" s__law_purse f__law_purse fd__law_purse
  b__law_purse : Binds K fd__law_purse ["cells", "at"] []
  m__law_purse : mg "_law_purse" = some (.ref f__law_purse)
  f__law_take : Addr
  fd__law_take : FuncData
  F__law_take : Fun K "_law_take" "_law_take" s__law_take f__law_take fd__law_take
  b__law_take : Binds K fd__law_take ["draws", "many"] []
  m__law_take : mg "_law_take" = some (.ref f__law_take)
  f__law_set : Addr
  fd__law_set : FuncData
  F__law_set : Fun K "_law_set" "_law_set" s__law_set f__law_set fd__law_set
  b__law_set : Binds K fd__law_set ["draws", "moduli"] []
  m__law_set : mg "_law_set" = some (.ref f__law_set)
  f__law_holds : Addr
  fd__law_holds : FuncData
  F__law_holds : Fun K "_law_holds" "_law_holds" s__law_holds f__law_holds fd__law_holds
  b__law_holds : Binds K fd__law_holds ["model", "number"] []
  m__law_holds : mg "_law_holds" = some (.ref f__law_holds)
  f__law_formed : Addr
  fd__law_formed : FuncData
  F__law_formed : Fun K "_law_formed" "_law_formed" s__law_formed f__law_formed fd__law_formed
  b__law_formed : Binds K fd__law_formed ["model"] []
  m__law_formed : mg "_law_formed" = some (.ref f__law_formed)
  f__law_members : Addr
  fd__law_members : FuncData
  F__law_members : Fun K "_law_members" "_law_members" s__law_members f__law_members fd__law_members
  b__law_members : Binds K fd__law_members ["model", "first", "many"] []
  m__law_members : mg "_law_members" = some (.ref f__law_members)
  f__law_whole : Addr
  fd__law_whole : FuncData
  F__law_whole : Fun K "_law_whole" "_law_whole" s__law_whole f__law_whole fd__law_whole
  b__law_whole : Binds K fd__law_whole ["model"] []
  m__law_whole : mg "_law_whole" = some (.ref f__law_whole)
  f__law_right : Addr
  fd__law_right : FuncData
  F__law_right : Fun K "_law_right" "_law_right" s__law_right f__law_right fd__law_right
  b__law_right : Binds K fd__law_right ["draws"] []
  m__law_right : mg "_law_right" = some (.ref f__law_right)
  f__law_several_right : Addr
  fd__law_several_right : FuncData
  F__law_several_right : Fun K "_law_several_right" "_law_several_right" s__law_several_right f__law_several_right fd__law_several_right
  b__law_several_right : Binds K fd__law_several_right ["draws"] []
  m__law_several_right : mg "_law_several_right" = some (.ref f__law_several_right)
  f_law : Addr
  fd_law : FuncData
  F_law : Fun K "law" "law" s_law f_law fd_law
  b_law : Binds K fd_law ["cells"] []
  m_law : mg "law" = some (.ref f_law)
  f_init : Addr
  fd_init : FuncData
  F_init : Fun K "__init__" "Rounds.__init__" s_init f_init fd_init
  b_init : Binds K fd_init ["self", "flags", "odd"] []
  mkk : Mk K C f_init
  f_told : Addr
  fd_told : FuncData
  F_told : Fun K "told" "Rounds.told" s_told f_told fd_told
  pa_told : Addr
  sm_told : SMet K C mc "told" pa_told f_told
  f_rests : Addr
  fd_rests : FuncData
  F_rests : Fun K "rests" "Rounds.rests" s_rests f_rests fd_rests
  pa_rests : Addr
  sm_rests : SMet K C mc "rests" pa_rests f_rests
  f_modulus : Addr
  fd_modulus : FuncData
  F_modulus : Fun K "modulus" "Rounds.modulus" s_modulus f_modulus fd_modulus
  b_modulus : Binds K fd_modulus ["self"] []
  pa_modulus : Addr
  p_modulus : PropOf K C "modulus" pa_modulus f_modulus
  f_whole_from : Addr
  fd_whole_from : FuncData
  F_whole_from : Fun K "whole_from" "Rounds.whole_from" s_whole_from f_whole_from fd_whole_from
  b_whole_from : Binds K fd_whole_from ["self"] []
  pa_whole_from : Addr
  p_whole_from : PropOf K C "whole_from" pa_whole_from f_whole_from
  f_after : Addr
  fd_after : FuncData
  F_after : Fun K "after" "Rounds.after" s_after f_after fd_after
  b_after : Binds K fd_after ["self", "first"] []
  M_after : Meth K C "after" f_after
  f_members : Addr
  fd_members : FuncData
  F_members : Fun K "members" "Rounds.members" s_members f_members fd_members
  b_members : Binds K fd_members ["self", "first", "many"] []
  M_members : Meth K C "members" f_members
  f_and : Addr
  fd_and : FuncData
  F_and : Fun K "__and__" "Rounds.__and__" s_and f_and fd_and
  b_and : Binds K fd_and ["self", "other"] []
  M_and : OwnM K C (PySem.dunder "and") f_and
  f_or : Addr
  fd_or : FuncData
  F_or : Fun K "__or__" "Rounds.__or__" s_or f_or fd_or
  b_or : Binds K fd_or ["self", "other"] []
  M_or : OwnM K C (PySem.dunder "or") f_or
  f_sub : Addr
  fd_sub : FuncData
  F_sub : Fun K "__sub__" "Rounds.__sub__" s_sub f_sub fd_sub
  b_sub : Binds K fd_sub ["self", "other"] []
  M_sub : OwnM K C (PySem.dunder "sub") f_sub
  f_xor : Addr
  fd_xor : FuncData
  F_xor : Fun K "__xor__" "Rounds.__xor__" s_xor f_xor fd_xor
  b_xor : Binds K fd_xor ["self", "other"] []
  M_xor : OwnM K C (PySem.dunder "xor") f_xor
  f_contains : Addr
  fd_contains : FuncData
  F_contains : Fun K "__contains__" "Rounds.__contains__" s_contains f_contains fd_contains
  b_contains : Binds K fd_contains ["self", "value"] []
  M_contains : OwnM K C "__contains__" f_contains
  f_eq : Addr
  fd_eq : FuncData
  F_eq : Fun K "__eq__" "Rounds.__eq__" s_eq f_eq fd_eq
  b_eq : Binds K fd_eq ["self", "other"] []
  M_eq : OwnM K C "__eq__" f_eq
  f_le : Addr
  fd_le : FuncData
  F_le : Fun K "__le__" "Rounds.__le__" s_le f_le fd_le
  b_le : Binds K fd_le ["self", "other"] []
  M_le : OwnM K C "__le__" f_le
  f_bool : Addr
  fd_bool : FuncData
  F_bool : Fun K "__bool__" "Rounds.__bool__" s_bool f_bool fd_bool
  b_bool : Binds K fd_bool ["self"] []
  M_bool : OwnM K C "__bool__" f_bool
end K1
set_option Elab.async false
set_option linter.all false
set_option maxRecDepth 100000
set_option maxHeartbeats 0
namespace K1
open PySem PySem.Spec PyProof.Rows L2 DL
section
variable {P : Program} {w : World} {K : PySem.W.Frag} {mg : Str → Option Value} {base : Heap}
theorem line5 {n : Nat} (h : n ≤ 16000000) : n ≤ sizeLine := by rw [sizeLine_eq]; omega
theorem and_ite {a b : Bool} {S : MS} {Q : D → MS → Prop} (h : Q (.bl (a && b)) S) : if a = true then Q (.bl b) S else Q (.bl false) S := by
  cases a with
  | true => exact h
  | false => exact h
def Asc : Int → Int → List Int → Prop
  | _, _, [] => True
  | lo, hi, n :: r => lo ≤ n ∧ n ≤ hi ∧ Asc (n + 1) hi r
/-- what is no integer, as the law holds it against rounds -/
def Oth : D → Prop
  | .bl _ => True
  | .non => True
  | .str _ => True
  | .tup _ => True
  | .lst _ => True
  | .ins c _ => c = "Ratio"
  | _ => False
def w_is_int : WF := fun ds S Q => match ds with
  | [.int _] => Q (.bl true) S
  | [d] => Oth d ∧ Q (.bl false) S
  | _ => False
theorem sc_is_int : FnScope ["value"] ["value"] (defScope s_is_int) := ⟨rfl, rfl, rfl, by decide +kernel, rfl, by decide +kernel, by decide +kernel⟩
theorem ok_is_int (T : Tx K mg) : FnOk P w K mg base CX0 2 T.f_is_int T.fd_is_int ["value"] (spW ⟨K, mg⟩ 1 w_is_int) := by
  refine fnD (k := 1) T.F_is_int sc_is_int (fun cdv A outer s H E hr => ⟨_, (dss_one (ds_ret (d_and (d_callB call_isi (snd_isi T.isi) T.z_isinstance (da_cons (dv 0) (da_cons (d_ty (n := "int") T.z_int (hv := bt_int)) da_nil)) (hv := bt_isinstance)) (d_one (d_not (d_callB call_isi (snd_isi T.isi) T.z_isinstance (da_cons (dv 0) (da_cons (d_ty (n := "bool") T.z_bool (hv := bt_bool)) da_nil)) (hv := bt_isinstance)))))))⟩) (fun ds S Q hl h => ?_)
  match ds, h with
  | [.int i], h =>
    simp only [true_and, and_true, oU2, oUn1, oL1, oS1, oR1, oJust, iAdd, iSub, iMul, iFdiv, iMod, iEq, iNe, iLt, iLe, iGt, iGe, iNeg, iAbs, DL.iStr, wFmt, wJs, wJoined, sNext, sSeq, sDrop, sRet, sRetN, sIf, sAsg, sPar, wOp, wVar, wC, wUn, wCons, wNil, wCB, wCall, wMake, wMakeSw, wCallSw, oI, oI0, oU, wTest, wAnd, wOr, DL.wNot, wAndV, wOrV, wNotV, wIf, wTup, wLst, wLstM, gwName, gwNil, gwCons, gwTup, gwSub, oInt1, oAbsI, oLen, oGcd, oDivmod, oMax2, oMin2, oIsi, tyOf, clOf, oStrI, if_t1, if_f1, Bool.not_true, Bool.not_false, startD, List.map_cons, List.map_nil, List.length_cons, List.length_nil, List.cons_append, List.nil_append, List.getElem?_cons_zero, List.getElem?_cons_succ, List.set_cons_zero, List.set_cons_succ, List.replicate, Nat.reduceAdd, Nat.reduceSub, Nat.zero_add, Nat.sub_self, Nat.add_sub_cancel, sForI, forStep, listD, seqD, wFz, wTruth, wiL, wiT, wiR, wiR2, wiET, wLcI, wDcI, wYes, wSortKI, wMakeI, sSetF, putFD, wMerge2, oEqDT, oBoolD, wListRg, wSMeth, oOwn2, wCutE, oRepL, wDIn, oLcm, wChain, kt_ii, kt_ib, kt_rr, wFld_e, wProp_e, ixr_lst, ixr_tup, ixr_tpk]
    exact h
  | [.ins c fs], h =>
    obtain ⟨rfl, h⟩ := h
    simp only [oIsi, tyS, clOf, kt_ri, true_and, and_true, oU2, oUn1, oL1, oS1, oR1, oJust, iAdd, iSub, iMul, iFdiv, iMod, iEq, iNe, iLt, iLe, iGt, iGe, iNeg, iAbs, DL.iStr, wFmt, wJs, wJoined, sNext, sSeq, sDrop, sRet, sRetN, sIf, sAsg, sPar, wOp, wVar, wC, wUn, wCons, wNil, wCB, wCall, wMake, wMakeSw, wCallSw, oI, oI0, oU, wTest, wAnd, wOr, DL.wNot, wAndV, wOrV, wNotV, wIf, wTup, wLst, wLstM, gwName, gwNil, gwCons, gwTup, gwSub, oInt1, oAbsI, oLen, oGcd, oDivmod, oMax2, oMin2, oIsi, tyOf, clOf, oStrI, if_t1, if_f1, Bool.not_true, Bool.not_false, startD, List.map_cons, List.map_nil, List.length_cons, List.length_nil, List.cons_append, List.nil_append, List.getElem?_cons_zero, List.getElem?_cons_succ, List.set_cons_zero, List.set_cons_succ, List.replicate, Nat.reduceAdd, Nat.reduceSub, Nat.zero_add, Nat.sub_self, Nat.add_sub_cancel, sForI, forStep, listD, seqD, wFz, wTruth, wiL, wiT, wiR, wiR2, wiET, wLcI, wDcI, wYes, wSortKI, wMakeI, sSetF, putFD, wMerge2, oEqDT, oBoolD, wListRg, wSMeth, oOwn2, wCutE, oRepL, wDIn, oLcm, wChain, kt_ii, kt_ib, kt_rr, wFld_e, wProp_e, ixr_lst, ixr_tup, ixr_tpk]
    exact h
  | [.non], h => simp only [true_and, and_true, oU2, oUn1, oL1, oS1, oR1, oJust, iAdd, iSub, iMul, iFdiv, iMod, iEq, iNe, iLt, iLe, iGt, iGe, iNeg, iAbs, DL.iStr, wFmt, wJs, wJoined, sNext, sSeq, sDrop, sRet, sRetN, sIf, sAsg, sPar, wOp, wVar, wC, wUn, wCons, wNil, wCB, wCall, wMake, wMakeSw, wCallSw, oI, oI0, oU, wTest, wAnd, wOr, DL.wNot, wAndV, wOrV, wNotV, wIf, wTup, wLst, wLstM, gwName, gwNil, gwCons, gwTup, gwSub, oInt1, oAbsI, oLen, oGcd, oDivmod, oMax2, oMin2, oIsi, tyOf, clOf, oStrI, if_t1, if_f1, Bool.not_true, Bool.not_false, startD, List.map_cons, List.map_nil, List.length_cons, List.length_nil, List.cons_append, List.nil_append, List.getElem?_cons_zero, List.getElem?_cons_succ, List.set_cons_zero, List.set_cons_succ, List.replicate, Nat.reduceAdd, Nat.reduceSub, Nat.zero_add, Nat.sub_self, Nat.add_sub_cancel, sForI, forStep, listD, seqD, wFz, wTruth, wiL, wiT, wiR, wiR2, wiET, wLcI, wDcI, wYes, wSortKI, wMakeI, sSetF, putFD, wMerge2, oEqDT, oBoolD, wListRg, wSMeth, oOwn2, wCutE, oRepL, wDIn, oLcm, wChain, kt_ii, kt_ib, kt_rr, wFld_e, wProp_e, ixr_lst, ixr_tup, ixr_tpk]; exact h.2
  | [.bl b], h => simp only [true_and, and_true, oU2, oUn1, oL1, oS1, oR1, oJust, iAdd, iSub, iMul, iFdiv, iMod, iEq, iNe, iLt, iLe, iGt, iGe, iNeg, iAbs, DL.iStr, wFmt, wJs, wJoined, sNext, sSeq, sDrop, sRet, sRetN, sIf, sAsg, sPar, wOp, wVar, wC, wUn, wCons, wNil, wCB, wCall, wMake, wMakeSw, wCallSw, oI, oI0, oU, wTest, wAnd, wOr, DL.wNot, wAndV, wOrV, wNotV, wIf, wTup, wLst, wLstM, gwName, gwNil, gwCons, gwTup, gwSub, oInt1, oAbsI, oLen, oGcd, oDivmod, oMax2, oMin2, oIsi, tyOf, clOf, oStrI, if_t1, if_f1, Bool.not_true, Bool.not_false, startD, List.map_cons, List.map_nil, List.length_cons, List.length_nil, List.cons_append, List.nil_append, List.getElem?_cons_zero, List.getElem?_cons_succ, List.set_cons_zero, List.set_cons_succ, List.replicate, Nat.reduceAdd, Nat.reduceSub, Nat.zero_add, Nat.sub_self, Nat.add_sub_cancel, sForI, forStep, listD, seqD, wFz, wTruth, wiL, wiT, wiR, wiR2, wiET, wLcI, wDcI, wYes, wSortKI, wMakeI, sSetF, putFD, wMerge2, oEqDT, oBoolD, wListRg, wSMeth, oOwn2, wCutE, oRepL, wDIn, oLcm, wChain, kt_ii, kt_ib, kt_rr, wFld_e, wProp_e, ixr_lst, ixr_tup, ixr_tpk]; exact h.2
  | [.str z], h => simp only [true_and, and_true, oU2, oUn1, oL1, oS1, oR1, oJust, iAdd, iSub, iMul, iFdiv, iMod, iEq, iNe, iLt, iLe, iGt, iGe, iNeg, iAbs, DL.iStr, wFmt, wJs, wJoined, sNext, sSeq, sDrop, sRet, sRetN, sIf, sAsg, sPar, wOp, wVar, wC, wUn, wCons, wNil, wCB, wCall, wMake, wMakeSw, wCallSw, oI, oI0, oU, wTest, wAnd, wOr, DL.wNot, wAndV, wOrV, wNotV, wIf, wTup, wLst, wLstM, gwName, gwNil, gwCons, gwTup, gwSub, oInt1, oAbsI, oLen, oGcd, oDivmod, oMax2, oMin2, oIsi, tyOf, clOf, oStrI, if_t1, if_f1, Bool.not_true, Bool.not_false, startD, List.map_cons, List.map_nil, List.length_cons, List.length_nil, List.cons_append, List.nil_append, List.getElem?_cons_zero, List.getElem?_cons_succ, List.set_cons_zero, List.set_cons_succ, List.replicate, Nat.reduceAdd, Nat.reduceSub, Nat.zero_add, Nat.sub_self, Nat.add_sub_cancel, sForI, forStep, listD, seqD, wFz, wTruth, wiL, wiT, wiR, wiR2, wiET, wLcI, wDcI, wYes, wSortKI, wMakeI, sSetF, putFD, wMerge2, oEqDT, oBoolD, wListRg, wSMeth, oOwn2, wCutE, oRepL, wDIn, oLcm, wChain, kt_ii, kt_ib, kt_rr, wFld_e, wProp_e, ixr_lst, ixr_tup, ixr_tpk]; exact h.2
  | [.tup l], h => simp only [true_and, and_true, oU2, oUn1, oL1, oS1, oR1, oJust, iAdd, iSub, iMul, iFdiv, iMod, iEq, iNe, iLt, iLe, iGt, iGe, iNeg, iAbs, DL.iStr, wFmt, wJs, wJoined, sNext, sSeq, sDrop, sRet, sRetN, sIf, sAsg, sPar, wOp, wVar, wC, wUn, wCons, wNil, wCB, wCall, wMake, wMakeSw, wCallSw, oI, oI0, oU, wTest, wAnd, wOr, DL.wNot, wAndV, wOrV, wNotV, wIf, wTup, wLst, wLstM, gwName, gwNil, gwCons, gwTup, gwSub, oInt1, oAbsI, oLen, oGcd, oDivmod, oMax2, oMin2, oIsi, tyOf, clOf, oStrI, if_t1, if_f1, Bool.not_true, Bool.not_false, startD, List.map_cons, List.map_nil, List.length_cons, List.length_nil, List.cons_append, List.nil_append, List.getElem?_cons_zero, List.getElem?_cons_succ, List.set_cons_zero, List.set_cons_succ, List.replicate, Nat.reduceAdd, Nat.reduceSub, Nat.zero_add, Nat.sub_self, Nat.add_sub_cancel, sForI, forStep, listD, seqD, wFz, wTruth, wiL, wiT, wiR, wiR2, wiET, wLcI, wDcI, wYes, wSortKI, wMakeI, sSetF, putFD, wMerge2, oEqDT, oBoolD, wListRg, wSMeth, oOwn2, wCutE, oRepL, wDIn, oLcm, wChain, kt_ii, kt_ib, kt_rr, wFld_e, wProp_e, ixr_lst, ixr_tup, ixr_tpk]; exact h.2
  | [.lst l], h => simp only [true_and, and_true, oU2, oUn1, oL1, oS1, oR1, oJust, iAdd, iSub, iMul, iFdiv, iMod, iEq, iNe, iLt, iLe, iGt, iGe, iNeg, iAbs, DL.iStr, wFmt, wJs, wJoined, sNext, sSeq, sDrop, sRet, sRetN, sIf, sAsg, sPar, wOp, wVar, wC, wUn, wCons, wNil, wCB, wCall, wMake, wMakeSw, wCallSw, oI, oI0, oU, wTest, wAnd, wOr, DL.wNot, wAndV, wOrV, wNotV, wIf, wTup, wLst, wLstM, gwName, gwNil, gwCons, gwTup, gwSub, oInt1, oAbsI, oLen, oGcd, oDivmod, oMax2, oMin2, oIsi, tyOf, clOf, oStrI, if_t1, if_f1, Bool.not_true, Bool.not_false, startD, List.map_cons, List.map_nil, List.length_cons, List.length_nil, List.cons_append, List.nil_append, List.getElem?_cons_zero, List.getElem?_cons_succ, List.set_cons_zero, List.set_cons_succ, List.replicate, Nat.reduceAdd, Nat.reduceSub, Nat.zero_add, Nat.sub_self, Nat.add_sub_cancel, sForI, forStep, listD, seqD, wFz, wTruth, wiL, wiT, wiR, wiR2, wiET, wLcI, wDcI, wYes, wSortKI, wMakeI, sSetF, putFD, wMerge2, oEqDT, oBoolD, wListRg, wSMeth, oOwn2, wCutE, oRepL, wDIn, oLcm, wChain, kt_ii, kt_ib, kt_rr, wFld_e, wProp_e, ixr_lst, ixr_tup, ixr_tpk]; exact h.2
  | [.mut m], h => exact h.1.elim
  | [.dct l], h => exact h.1.elim
  | [.tpk n], h => exact h.1.elim
  | [.ty n], h => exact h.1.elim
  | [.cls c], h => exact h.1.elim
  | [.scr c], h => exact h.1.elim
  | [.obj c], h => exact h.1.elim
  | [.err _ _], h => exact h.1.elim
  | [.exc _ _ _], h => exact h.1.elim
def w_within : WF := fun ds S Q => match ds with
  | [.int i, .int a, .int b] => Q (.bl (decide (a ≤ i) && decide (i ≤ b))) S
  | _ => False
theorem sc_is_int_within : FnScope ["value", "least", "most"] ["value", "least", "most"] (defScope s_is_int_within) := ⟨rfl, rfl, rfl, by decide +kernel, rfl, by decide +kernel, by decide +kernel⟩
theorem ok_is_int_within (T : Tx K mg) : FnOk P w K mg base CX0 3 T.f_is_int_within T.fd_is_int_within ["value", "least", "most"] (spW ⟨K, mg⟩ 3 w_within) := by
  refine fnD (k := 2) T.F_is_int_within sc_is_int_within (fun cdv A outer s H E hr => ⟨_, (dss_one (ds_ret (d_and (d_call (ok_is_int T) (hr.mono (by decide)) T.m_is_int T.F_is_int.kp T.b_is_int (da_cons (dv 0) da_nil)) (d_one (d_chain op_le snd_iLe op_le snd_iLe (dv 1) (dv 0) (dv 2))))))⟩) (fun ds S Q hl h => ?_)
  match ds, h with
  | [.int i, .int a, .int b], h =>
    simp only [true_and, and_true, oU2, oUn1, oL1, oS1, oR1, oJust, iAdd, iSub, iMul, iFdiv, iMod, iEq, iNe, iLt, iLe, iGt, iGe, iNeg, iAbs, DL.iStr, wFmt, wJs, wJoined, sNext, sSeq, sDrop, sRet, sRetN, sIf, sAsg, sPar, wOp, wVar, wC, wUn, wCons, wNil, wCB, wCall, wMake, wMakeSw, wCallSw, oI, oI0, oU, wTest, wAnd, wOr, DL.wNot, wAndV, wOrV, wNotV, wIf, wTup, wLst, wLstM, gwName, gwNil, gwCons, gwTup, gwSub, oInt1, oAbsI, oLen, oGcd, oDivmod, oMax2, oMin2, oIsi, tyOf, clOf, oStrI, if_t1, if_f1, Bool.not_true, Bool.not_false, startD, List.map_cons, List.map_nil, List.length_cons, List.length_nil, List.cons_append, List.nil_append, List.getElem?_cons_zero, List.getElem?_cons_succ, List.set_cons_zero, List.set_cons_succ, List.replicate, Nat.reduceAdd, Nat.reduceSub, Nat.zero_add, Nat.sub_self, Nat.add_sub_cancel, sForI, forStep, listD, seqD, wFz, wTruth, wiL, wiT, wiR, wiR2, wiET, wLcI, wDcI, wYes, wSortKI, wMakeI, sSetF, putFD, wMerge2, oEqDT, oBoolD, wListRg, wSMeth, oOwn2, wCutE, oRepL, wDIn, oLcm, wChain, kt_ii, kt_ib, kt_rr, wFld_e, wProp_e, ixr_lst, ixr_tup, ixr_tpk, w_is_int]
    rw [if_pos trivial]
    exact and_ite h
def w_asc : WF := fun ds S Q => match ds with
  | [.tup xs, .int m] => ∃ ns : List Int, xs = ns.map D.int ∧ Asc 0 m ns ∧ Q .non S
  | _ => False
theorem sc_check_ascending : FnScope ["values", "most", "least", "index", "value"] ["values", "most"] (defScope s_check_ascending) := ⟨rfl, rfl, rfl, by decide +kernel, rfl, by decide +kernel, by decide +kernel⟩
theorem ok_check_ascending (T : Tx K mg) : FnOk P w K mg base CX0 4 T.f_check_ascending T.fd_check_ascending ["values", "most"] (spW ⟨K, mg⟩ 2 w_asc) := by
  refine fnD (k := 3) T.F_check_ascending sc_check_ascending (fun cdv A outer s H E hr => ⟨_, (dss_cons (ds_set (i := 2) sc_check_ascending.nd d_int)
  (dss_one (ds_for PassesOwn.never rfl (ii_enumT T.z_enumerate (da_cons (dv 0) da_nil)) (dg_tup (n := 2) rfl (dgs_cons (dg_name (i := 3) sc_check_ascending.nd) (dgs_cons (dg_name (i := 4) sc_check_ascending.nd) dgs_nil))) (dss_cons (ds_if (dt_not (dt_val (d_call (ok_is_int_within T) (hr.mono (by decide)) T.m_is_int_within T.F_is_int_within.kp T.b_is_int_within (da_cons (dv 4) (da_cons (dv 2) (da_cons (dv 1) da_nil)))))) (dss_one ds_never) dss_nil)
  (dss_one (ds_set (i := 2) sc_check_ascending.nd (d_op op_add snd_iAdd (dv 4) d_int)))))))⟩) (fun ds S Q hl h => ?_)
  match ds, h with
  | [.tup xs, .int m], ⟨ns, e, ha, h⟩ =>
    subst e
    simp only [true_and, and_true, oU2, oUn1, oL1, oS1, oR1, oJust, iAdd, iSub, iMul, iFdiv, iMod, iEq, iNe, iLt, iLe, iGt, iGe, iNeg, iAbs, DL.iStr, wFmt, wJs, wJoined, sNext, sSeq, sDrop, sRet, sRetN, sIf, sAsg, sPar, wOp, wVar, wC, wUn, wCons, wNil, wCB, wCall, wMake, wMakeSw, wCallSw, oI, oI0, oU, wTest, wAnd, wOr, DL.wNot, wAndV, wOrV, wNotV, wIf, wTup, wLst, wLstM, gwName, gwNil, gwCons, gwTup, gwSub, oInt1, oAbsI, oLen, oGcd, oDivmod, oMax2, oMin2, oIsi, tyOf, clOf, oStrI, if_t1, if_f1, Bool.not_true, Bool.not_false, startD, List.map_cons, List.map_nil, List.length_cons, List.length_nil, List.cons_append, List.nil_append, List.getElem?_cons_zero, List.getElem?_cons_succ, List.set_cons_zero, List.set_cons_succ, List.replicate, Nat.reduceAdd, Nat.reduceSub, Nat.zero_add, Nat.sub_self, Nat.add_sub_cancel, sForI, forStep, listD, seqD, wFz, wTruth, wiL, wiT, wiR, wiR2, wiET, wLcI, wDcI, wYes, wSortKI, wMakeI, sSetF, putFD, wMerge2, oEqDT, oBoolD, wListRg, wSMeth, oOwn2, wCutE, oRepL, wDIn, oLcm, wChain, kt_ii, kt_ib, kt_rr, wFld_e, wProp_e, ixr_lst, ixr_tup, ixr_tpk, w_is_int, w_within]
    generalize hst : forStep _ _ _ = st
    generalize hT : D.tup (List.map D.int ns) = t
    have hs : ∀ (i n lo : Int) (o1 o2 : Option D) (nx : DEnv → MS → Prop), lo ≤ n → n ≤ m → (∀ o1 o2, nx [some t, some (.int m), some (.int (n + 1)), o1, o2] S) → st (.tup [.int i, .int n]) [some t, some (.int m), some (.int lo), o1, o2] S nx := by
      intro i n lo o1 o2 nx h1 h2 hn
      subst hst
      simp only [true_and, and_true, oU2, oUn1, oL1, oS1, oR1, oJust, iAdd, iSub, iMul, iFdiv, iMod, iEq, iNe, iLt, iLe, iGt, iGe, iNeg, iAbs, DL.iStr, wFmt, wJs, wJoined, sNext, sSeq, sDrop, sRet, sRetN, sIf, sAsg, sPar, wOp, wVar, wC, wUn, wCons, wNil, wCB, wCall, wMake, wMakeSw, wCallSw, oI, oI0, oU, wTest, wAnd, wOr, DL.wNot, wAndV, wOrV, wNotV, wIf, wTup, wLst, wLstM, gwName, gwNil, gwCons, gwTup, gwSub, oInt1, oAbsI, oLen, oGcd, oDivmod, oMax2, oMin2, oIsi, tyOf, clOf, oStrI, if_t1, if_f1, Bool.not_true, Bool.not_false, startD, List.map_cons, List.map_nil, List.length_cons, List.length_nil, List.cons_append, List.nil_append, List.getElem?_cons_zero, List.getElem?_cons_succ, List.set_cons_zero, List.set_cons_succ, List.replicate, Nat.reduceAdd, Nat.reduceSub, Nat.zero_add, Nat.sub_self, Nat.add_sub_cancel, sForI, forStep, listD, seqD, wFz, wTruth, wiL, wiT, wiR, wiR2, wiET, wLcI, wDcI, wYes, wSortKI, wMakeI, sSetF, putFD, wMerge2, oEqDT, oBoolD, wListRg, wSMeth, oOwn2, wCutE, oRepL, wDIn, oLcm, wChain, kt_ii, kt_ib, kt_rr, wFld_e, wProp_e, ixr_lst, ixr_tup, ixr_tpk, w_is_int, w_within]
      rw [decide_eq_true h1, decide_eq_true h2]
      exact hn _ _
    clear hT hst
    have key : ∀ (ns : List Int) (i : Nat) (lo : Int) (o1 o2 : Option D), Asc lo m ns → forO (fun x => True) (enumD i (List.map D.int ns)) st (fun x S' => Q D.non S') [some t, some (.int m), some (.int lo), o1, o2] S := by
      intro ns
      induction ns with
      | nil => exact fun i lo o1 o2 _ => ⟨trivial, h⟩
      | cons n r ih => exact fun i lo o1 o2 ha => ⟨trivial, hs _ n lo o1 o2 _ ha.1 ha.2.1 fun o1 o2 => ih (i + 1) (n + 1) o1 o2 ha.2.2⟩
    exact key ns 0 0 none none ha
abbrev Tab := Bool × Bool × Bool × Bool
def pick (t : Tab) (a b : Bool) : Bool := if a then (if b then t.2.2.2 else t.2.2.1) else if b then t.2.1 else t.1
def tab (t : Tab) : D := .tpk [.bl t.1, .bl t.2.1, .bl t.2.2.1, .bl t.2.2.2]
/-- flags of the rests, the odd numbers -/
abbrev Rnd := List Bool × List Int
def oddK (ns : List Int) : List (Key × D) := ns.map fun n => (.inl n, .bl true)
def rd (r : Rnd) : D := .ins "Rounds" [("_flags", .lst (r.1.map D.bl)), ("_odd", .dct (oddK r.2))]
theorem fld_flags {r : Rnd} {k : D → Prop} : FldOf "Rounds" "_flags" (rd r) k = k (.lst (r.1.map D.bl)) := propext ⟨fun h => h.2, fun h => ⟨rfl, h⟩⟩
theorem fld_odd {r : Rnd} {k : D → Prop} : FldOf "Rounds" "_odd" (rd r) k = k (.dct (oddK r.2)) := propext ⟨fun h => h.2, fun h => ⟨rfl, h⟩⟩
theorem ins_rd {r : Rnd} {k : Prop} : InsOf "Rounds" (rd r) k = k := propext ⟨fun h => h.2, fun h => ⟨rfl, h⟩⟩
theorem setM_at {S : MS} {m : Nat} {a b : MO} (h : S[m]? = some a) : (S.set m b)[m]? = some b := List.getElem?_set_self (List.getElem?_eq_some_iff.mp h).1
theorem putD_new {kvs : List (Key × D)} {k : Key} {v : D} (h : ∀ p ∈ kvs, p.1 ≠ k) : putD kvs k v = kvs ++ [(k, v)] := by
  unfold putD
  rw [if_neg]
  intro z
  obtain ⟨p, hp, e⟩ := List.any_eq_true.mp z
  exact h p hp (of_decide_eq_true e)
theorem foldK : ∀ (ns as : List Int), (as ++ ns).Nodup → ns.foldl (fun acc n => putD acc (.inl n) (.bl true)) (oddK as) = oddK (as ++ ns)
  | [], as, _ => by rw [List.append_nil]; rfl
  | n :: ns, as, h => by
    rw [List.foldl_cons, putD_new (fun p hp => by
      obtain ⟨k, hk, rfl⟩ := List.mem_map.mp hp
      intro z
      cases z
      rw [List.nodup_append] at h
      exact h.2.2 _ hk _ List.mem_cons_self rfl)]
    have e : oddK as ++ [(Sum.inl n, D.bl true)] = oddK (as ++ [n]) := by unfold oddK; rw [List.map_append]; rfl
    rw [e, foldK ns (as ++ [n]) (by rw [List.append_assoc]; exact h), List.append_assoc]
    rfl
theorem foldK_eq {ns : List Int} (h : ns.Nodup) : ns.foldl (fun acc n => putD acc (.inl n) (.bl true)) [] = oddK ns := foldK ns [] (by rw [List.nil_append]; exact h)
theorem loK_odd {n : Nat} : ∀ ns : List Int, LoK n (oddK ns)
  | [] => .nil
  | _ :: ns => .cons (.bl _) (loK_odd ns)
def w_chosen : WF := fun ds S Q => ∃ t a b, ds = [tab t, .bl a, .bl b] ∧ Q (.bl (pick t a b)) S
theorem sc_chosen : FnScope ["table", "in_one", "in_two"] ["table", "in_one", "in_two"] (defScope s_chosen) := ⟨rfl, rfl, rfl, by decide +kernel, rfl, by decide +kernel, by decide +kernel⟩
theorem ok_chosen (T : Tx K mg) : FnOk P w K mg base CX0 2 T.f_chosen T.fd_chosen ["table", "in_one", "in_two"] (spW ⟨K, mg⟩ 3 w_chosen) := by
  refine fnD (k := 1) T.F_chosen sc_chosen (fun cdv A outer s H E hr => ⟨_, (dss_cons (ds_if (dt_val (dv 1)) (dss_one (ds_ret (d_if (dt_val (dv 2)) (d_ix (dv 0) d_int) (d_ix (dv 0) d_int)))) dss_nil)
  (dss_one (ds_ret (d_if (dt_val (dv 2)) (d_ix (dv 0) d_int) (d_ix (dv 0) d_int)))))⟩) (fun ds S Q hl h => ?_)
  obtain ⟨t, a, b, rfl, h⟩ := h
  simp only [true_and, and_true, oU2, oUn1, oL1, oS1, oR1, oJust, iAdd, iSub, iMul, iFdiv, iMod, iEq, iNe, iLt, iLe, iGt, iGe, iNeg, iAbs, DL.iStr, wFmt, wJs, wJoined, sNext, sSeq, sDrop, sRet, sRetN, sIf, sAsg, sPar, wOp, wVar, wC, wUn, wCons, wNil, wCB, wCall, wMake, wMakeSw, wCallSw, oI, oI0, oU, wTest, wAnd, wOr, DL.wNot, wAndV, wOrV, wNotV, wIf, wTup, wLst, wLstM, gwName, gwNil, gwCons, gwTup, gwSub, oInt1, oAbsI, oLen, oGcd, oDivmod, oMax2, oMin2, oIsi, tyOf, clOf, oStrI, if_t1, if_f1, Bool.not_true, Bool.not_false, startD, List.map_cons, List.map_nil, List.length_cons, List.length_nil, List.cons_append, List.nil_append, List.getElem?_cons_zero, List.getElem?_cons_succ, List.set_cons_zero, List.set_cons_succ, List.replicate, Nat.reduceAdd, Nat.reduceSub, Nat.zero_add, Nat.sub_self, Nat.add_sub_cancel, sForI, forStep, listD, seqD, wFz, wTruth, wiL, wiT, wiR, wiR2, wiET, wLcI, wDcI, wYes, wSortKI, wMakeI, sSetF, putFD, wMerge2, oEqDT, oBoolD, wListRg, wSMeth, oOwn2, wCutE, oRepL, wDIn, oLcm, wChain, kt_ii, kt_ib, kt_rr, wFld_e, wProp_e, ixr_lst, ixr_tup, ixr_tpk, w_is_int, w_within, w_asc, fld_flags, fld_odd, ins_rd]
  cases a <;> cases b <;> exact h
def w_modulus : WF := fun ds S Q => ∃ r, ds = [rd r] ∧ Q (.int r.1.length) S
theorem sc_modulus : FnScope ["self"] ["self"] (defScope s_modulus) := ⟨rfl, rfl, rfl, by decide +kernel, rfl, by decide +kernel, by decide +kernel⟩
theorem ok_modulus (T : Tx K mg) : FnOk P w K mg base CX0 2 T.f_modulus T.fd_modulus ["self"] (spW ⟨K, mg⟩ 1 w_modulus) := by
  refine fnD (k := 1) T.F_modulus sc_modulus (fun cdv A outer s H E hr => ⟨_, (dss_one (ds_ret (d_callB call_len_seq snd_len T.z_len (da_cons (d_fld (dv 0) T.g_Rounds T.cl T.na_flags) da_nil) (hv := bt_len))))⟩) (fun ds S Q hl h => ?_)
  obtain ⟨r, rfl, h⟩ := h
  simp only [true_and, and_true, oU2, oUn1, oL1, oS1, oR1, oJust, iAdd, iSub, iMul, iFdiv, iMod, iEq, iNe, iLt, iLe, iGt, iGe, iNeg, iAbs, DL.iStr, wFmt, wJs, wJoined, sNext, sSeq, sDrop, sRet, sRetN, sIf, sAsg, sPar, wOp, wVar, wC, wUn, wCons, wNil, wCB, wCall, wMake, wMakeSw, wCallSw, oI, oI0, oU, wTest, wAnd, wOr, DL.wNot, wAndV, wOrV, wNotV, wIf, wTup, wLst, wLstM, gwName, gwNil, gwCons, gwTup, gwSub, oInt1, oAbsI, oLen, oGcd, oDivmod, oMax2, oMin2, oIsi, tyOf, clOf, oStrI, if_t1, if_f1, Bool.not_true, Bool.not_false, startD, List.map_cons, List.map_nil, List.length_cons, List.length_nil, List.cons_append, List.nil_append, List.getElem?_cons_zero, List.getElem?_cons_succ, List.set_cons_zero, List.set_cons_succ, List.replicate, Nat.reduceAdd, Nat.reduceSub, Nat.zero_add, Nat.sub_self, Nat.add_sub_cancel, sForI, forStep, listD, seqD, wFz, wTruth, wiL, wiT, wiR, wiR2, wiET, wLcI, wDcI, wYes, wSortKI, wMakeI, sSetF, putFD, wMerge2, oEqDT, oBoolD, wListRg, wSMeth, oOwn2, wCutE, oRepL, wDIn, oLcm, wChain, kt_ii, kt_ib, kt_rr, wFld_e, wProp_e, ixr_lst, ixr_tup, ixr_tpk, w_is_int, w_within, w_asc, fld_flags, fld_odd, ins_rd]
  rw [List.length_map]
  exact h
def w_initT : WF := fun ds S Q => ∃ (m : Nat) (fl : List Bool) (ns : List Int), ds = [.mut m, .lst (fl.map D.bl), .tup (ns.map D.int)] ∧ S[m]? = some (.i "Rounds" []) ∧ fl.length ≤ 16000000 ∧ ns.length ≤ 16000000 ∧ ns.Nodup ∧ Q .non (S.set m (.i "Rounds" [("_flags", .lst (fl.map D.bl)), ("_odd", .dct (oddK ns))]))
theorem sc_init : FnScope ["self", "flags", "odd", "n"] ["self", "flags", "odd"] (defScope s_init) := ⟨rfl, rfl, rfl, by decide +kernel, rfl, by decide +kernel, by decide +kernel⟩
theorem ok_init_T (T : Tx K mg) : FnOk P w K mg base CX0 2 T.f_init T.fd_init ["self", "flags", "odd"] (spW ⟨K, mg⟩ 3 w_initT) := by
  refine fnD (k := 1) T.F_init sc_init (fun cdv A outer s H E hr => ⟨_, (dss_cons (ds_setf (dv 0) (d_callTy call_list_of snd_listF T.z_list (da_cons (dv 1) da_nil) (hv := bt_list)) T.g_Rounds T.cl T.na_flags)
  (dss_one (ds_setf (dv 0) (d_fz (d_dcI (own := [("n", 3)]) rfl sc_init.nd (ii_tup (dv 2)) (blkOk_by (own := [("n", 3)]) (N := ["self", "flags", "odd", "n"]) (sc := defScope s_init) (by decide +kernel)) (gown_name (by decide)) (fun _ _ _ _ _ => (dg_name (i := 3) sc_init.nd)) (fun _ _ _ _ _ => dts_nil) (fun _ _ _ _ _ => (dv 3)) (fun _ _ _ _ _ => d_bl))) T.g_Rounds T.cl T.na_odd)))⟩) (fun ds S Q hl h => ?_)
  obtain ⟨m, fl, ns, rfl, hm, l1, l2, nd, h⟩ := h
  simp only [true_and, and_true, oU2, oUn1, oL1, oS1, oR1, oJust, iAdd, iSub, iMul, iFdiv, iMod, iEq, iNe, iLt, iLe, iGt, iGe, iNeg, iAbs, DL.iStr, wFmt, wJs, wJoined, sNext, sSeq, sDrop, sRet, sRetN, sIf, sAsg, sPar, wOp, wVar, wC, wUn, wCons, wNil, wCB, wCall, wMake, wMakeSw, wCallSw, oI, oI0, oU, wTest, wAnd, wOr, DL.wNot, wAndV, wOrV, wNotV, wIf, wTup, wLst, wLstM, gwName, gwNil, gwCons, gwTup, gwSub, oInt1, oAbsI, oLen, oGcd, oDivmod, oMax2, oMin2, oIsi, tyOf, clOf, oStrI, if_t1, if_f1, Bool.not_true, Bool.not_false, startD, List.map_cons, List.map_nil, List.length_cons, List.length_nil, List.cons_append, List.nil_append, List.getElem?_cons_zero, List.getElem?_cons_succ, List.set_cons_zero, List.set_cons_succ, List.replicate, Nat.reduceAdd, Nat.reduceSub, Nat.zero_add, Nat.sub_self, Nat.add_sub_cancel, sForI, forStep, listD, seqD, wFz, wTruth, wiL, wiT, wiR, wiR2, wiET, wLcI, wDcI, wYes, wSortKI, wMakeI, sSetF, putFD, wMerge2, oEqDT, oBoolD, wListRg, wSMeth, oOwn2, wCutE, oRepL, wDIn, oLcm, wChain, kt_ii, kt_ib, kt_rr, wFld_e, wProp_e, ixr_lst, ixr_tup, ixr_tpk, w_is_int, w_within, w_asc, fld_flags, fld_odd, ins_rd]
  refine ⟨fl.map D.bl, rfl, [], hm, by decide, ?_⟩
  have h1 : (S.set m (.i "Rounds" [("_flags", .lst (fl.map D.bl))]))[m]? = some (.i "Rounds" [("_flags", .lst (fl.map D.bl))]) := setM_at hm
  rw [show putFD "_flags" (D.lst (fl.map D.bl)) [] = [(("_flags" : Str), .lst (fl.map D.bl))] from rfl]
  have h2 : ∀ o : MO, (S.set m (.i "Rounds" [("_flags", .lst (fl.map D.bl))])).set m o = S.set m o := fun o => List.set_set ..
  generalize S.set m (.i "Rounds" [("_flags", .lst (fl.map D.bl))]) = S1 at h1 h2 ⊢
  refine dcO_all D.int (fun acc n => putD acc (.inl n) (.bl true)) ns (fun _ => trivial) (line5 l2) (fun acc x => putD_len _ _ _) (by rw [foldK_eq nd]; exact loK_odd ns) (fun n _ acc k hl hk => ?_) ?_
  · simp only [dcStep, wipeD, gwName, wYes, wVar, wC, if_t1, List.set_cons_zero, List.set_cons_succ, List.getElem?_cons_zero, List.getElem?_cons_succ]
    exact dct_end (key := .inl n) rfl hl hk
  · rw [foldK_eq nd]
    refine ⟨_, h1, by show 1 < 1000; decide, ?_⟩
    rw [h2]
    exact h
def w_initL : WF := fun ds S Q => ∃ (m : Nat) (fl : List Bool) (ns : List Int), ds = [.mut m, .lst (fl.map D.bl), .lst (ns.map D.int)] ∧ S[m]? = some (.i "Rounds" []) ∧ fl.length ≤ 16000000 ∧ ns.length ≤ 16000000 ∧ ns.Nodup ∧ Q .non (S.set m (.i "Rounds" [("_flags", .lst (fl.map D.bl)), ("_odd", .dct (oddK ns))]))
theorem ok_init_L (T : Tx K mg) : FnOk P w K mg base CX0 2 T.f_init T.fd_init ["self", "flags", "odd"] (spW ⟨K, mg⟩ 3 w_initL) := by
  refine fnD (k := 1) T.F_init sc_init (fun cdv A outer s H E hr => ⟨_, (dss_cons (ds_setf (dv 0) (d_callTy call_list_of snd_listF T.z_list (da_cons (dv 1) da_nil) (hv := bt_list)) T.g_Rounds T.cl T.na_flags)
  (dss_one (ds_setf (dv 0) (d_fz (d_dcI (own := [("n", 3)]) rfl sc_init.nd (ii_list (dv 2)) (blkOk_by (own := [("n", 3)]) (N := ["self", "flags", "odd", "n"]) (sc := defScope s_init) (by decide +kernel)) (gown_name (by decide)) (fun _ _ _ _ _ => (dg_name (i := 3) sc_init.nd)) (fun _ _ _ _ _ => dts_nil) (fun _ _ _ _ _ => (dv 3)) (fun _ _ _ _ _ => d_bl))) T.g_Rounds T.cl T.na_odd)))⟩) (fun ds S Q hl h => ?_)
  obtain ⟨m, fl, ns, rfl, hm, l1, l2, nd, h⟩ := h
  simp only [true_and, and_true, oU2, oUn1, oL1, oS1, oR1, oJust, iAdd, iSub, iMul, iFdiv, iMod, iEq, iNe, iLt, iLe, iGt, iGe, iNeg, iAbs, DL.iStr, wFmt, wJs, wJoined, sNext, sSeq, sDrop, sRet, sRetN, sIf, sAsg, sPar, wOp, wVar, wC, wUn, wCons, wNil, wCB, wCall, wMake, wMakeSw, wCallSw, oI, oI0, oU, wTest, wAnd, wOr, DL.wNot, wAndV, wOrV, wNotV, wIf, wTup, wLst, wLstM, gwName, gwNil, gwCons, gwTup, gwSub, oInt1, oAbsI, oLen, oGcd, oDivmod, oMax2, oMin2, oIsi, tyOf, clOf, oStrI, if_t1, if_f1, Bool.not_true, Bool.not_false, startD, List.map_cons, List.map_nil, List.length_cons, List.length_nil, List.cons_append, List.nil_append, List.getElem?_cons_zero, List.getElem?_cons_succ, List.set_cons_zero, List.set_cons_succ, List.replicate, Nat.reduceAdd, Nat.reduceSub, Nat.zero_add, Nat.sub_self, Nat.add_sub_cancel, sForI, forStep, listD, seqD, wFz, wTruth, wiL, wiT, wiR, wiR2, wiET, wLcI, wDcI, wYes, wSortKI, wMakeI, sSetF, putFD, wMerge2, oEqDT, oBoolD, wListRg, wSMeth, oOwn2, wCutE, oRepL, wDIn, oLcm, wChain, kt_ii, kt_ib, kt_rr, wFld_e, wProp_e, ixr_lst, ixr_tup, ixr_tpk, w_is_int, w_within, w_asc, fld_flags, fld_odd, ins_rd]
  refine ⟨fl.map D.bl, rfl, [], hm, by decide, ?_⟩
  have h1 : (S.set m (.i "Rounds" [("_flags", .lst (fl.map D.bl))]))[m]? = some (.i "Rounds" [("_flags", .lst (fl.map D.bl))]) := setM_at hm
  rw [show putFD "_flags" (D.lst (fl.map D.bl)) [] = [(("_flags" : Str), .lst (fl.map D.bl))] from rfl]
  have h2 : ∀ o : MO, (S.set m (.i "Rounds" [("_flags", .lst (fl.map D.bl))])).set m o = S.set m o := fun o => List.set_set ..
  generalize S.set m (.i "Rounds" [("_flags", .lst (fl.map D.bl))]) = S1 at h1 h2 ⊢
  refine dcO_all D.int (fun acc n => putD acc (.inl n) (.bl true)) ns (fun _ => trivial) (line5 l2) (fun acc x => putD_len _ _ _) (by rw [foldK_eq nd]; exact loK_odd ns) (fun n _ acc k hl hk => ?_) ?_
  · simp only [dcStep, wipeD, gwName, wYes, wVar, wC, if_t1, List.set_cons_zero, List.set_cons_succ, List.getElem?_cons_zero, List.getElem?_cons_succ]
    exact dct_end (key := .inl n) rfl hl hk
  · rw [foldK_eq nd]
    refine ⟨_, h1, by show 1 < 1000; decide, ?_⟩
    rw [h2]
    exact h
theorem asc_lt : ∀ {ns : List Int} {lo hi : Int}, Asc lo hi ns → ∀ n ∈ ns, lo ≤ n ∧ n ≤ hi
  | [], _, _, _, n, h => by cases h
  | a :: r, lo, hi, h, n, hn => by
    rcases List.mem_cons.mp hn with rfl | hn
    · exact ⟨h.1, h.2.1⟩
    · have := asc_lt h.2.2 n hn
      have := h.1
      omega
theorem asc_nodup : ∀ {ns : List Int} {lo hi : Int}, Asc lo hi ns → ns.Nodup
  | [], _, _, _ => List.nodup_nil
  | a :: r, lo, hi, h => by
    refine List.nodup_cons.mpr ⟨fun z => ?_, asc_nodup h.2.2⟩
    have := (asc_lt h.2.2 a z).1
    omega
theorem loF_rd {n : Nat} (r : Rnd) : LoF n [(("_flags" : Str), .lst (r.1.map D.bl)), ("_odd", .dct (oddK r.2))] := .cons (.lst (loL_bl (f := fun b => b))) (.cons (.dct (loK_odd r.2)) .nil)
theorem lo_rd {n : Nat} (r : Rnd) : Lo n (rd r) := .ins (loF_rd r)
theorem valD_odd (ns : List Int) (n : Int) : (valD (oddK ns) (.inl n)).isSome = decide (n ∈ ns) := by
  induction ns with
  | nil => simp [valD, oddK]
  | cons a r ih =>
    unfold valD oddK at ih ⊢
    rw [List.map_cons, List.find?_cons]
    by_cases e : a = n
    · subst e
      simp
    · have : decide ((Sum.inl a : Key) = Sum.inl n) = false := decide_eq_false fun z => e (Sum.inl.inj z)
      dsimp only
      rw [this, ih]
      simp [Ne.symm e]
theorem made_rd {S : MS} {Q : D → MS → Prop} {fl : List Bool} {ns : List Int} (q : Q (rd (fl, ns)) S) : Fz S Q (.mut S.length) ((S ++ [MO.i "Rounds" []]).set S.length (.i "Rounds" [("_flags", .lst (fl.map D.bl)), ("_odd", .dct (oddK ns))])) := by
  rw [set_acc]
  exact Fz.inst (loF_rd (fl, ns)) q
def w_told : WF := fun ds S Q => ∃ ns : List Int, ds = [.tup (ns.map D.int)] ∧ Asc 0 1000000 ns ∧ ns.length ≤ 16000000 ∧ Q (rd ([false], ns)) S
theorem sc_told : FnScope ["members"] ["members"] (defScope s_told) := ⟨rfl, rfl, rfl, by decide +kernel, rfl, by decide +kernel, by decide +kernel⟩
theorem ok_told (T : Tx K mg) : FnR P w K mg base CX0 5 T.f_told (spWS ⟨K, mg⟩ 0 w_told) := by
  refine fnStarF (k := 4) (ps := []) T.F_told sc_told (fun _ _ _ _ _ _ us rest hl => match us, rest, hl with | [], [], _ => rfl | [], _ :: _, _ => rfl) (fun cdv A outer s H E hr => ⟨_, (dss_cons (ds_expr (d_call (ok_check_ascending T) (hr.mono (by decide)) T.m_check_ascending T.F_check_ascending.kp T.b_check_ascending (da_cons (dv 0) (da_cons (d_globI T.g_MOST_MEMBER) da_nil))))
  (dss_one (ds_ret (d_fz (d_makeI T.mkk (ok_init_T T) (hr.mono (by decide)) T.g_Rounds T.b_init (da_cons (d_lst (da_cons d_bl da_nil)) (da_cons (dv 0) da_nil)))))))⟩) (fun ds S Q hl lo h => ?_)
  obtain ⟨ns, rfl, ha, hl2, h⟩ := h
  simp only [true_and, and_true, oU2, oUn1, oL1, oS1, oR1, oJust, iAdd, iSub, iMul, iFdiv, iMod, iEq, iNe, iLt, iLe, iGt, iGe, iNeg, iAbs, DL.iStr, wFmt, wJs, wJoined, sNext, sSeq, sDrop, sRet, sRetN, sIf, sAsg, sPar, wOp, wVar, wC, wUn, wCons, wNil, wCB, wCall, wMake, wMakeSw, wCallSw, oI, oI0, oU, wTest, wAnd, wOr, DL.wNot, wAndV, wOrV, wNotV, wIf, wTup, wLst, wLstM, gwName, gwNil, gwCons, gwTup, gwSub, oInt1, oAbsI, oLen, oGcd, oDivmod, oMax2, oMin2, oIsi, tyOf, clOf, oStrI, if_t1, if_f1, Bool.not_true, Bool.not_false, startD, List.map_cons, List.map_nil, List.length_cons, List.length_nil, List.cons_append, List.nil_append, List.getElem?_cons_zero, List.getElem?_cons_succ, List.set_cons_zero, List.set_cons_succ, List.replicate, Nat.reduceAdd, Nat.reduceSub, Nat.zero_add, Nat.sub_self, Nat.add_sub_cancel, sForI, forStep, listD, seqD, wFz, wTruth, wiL, wiT, wiR, wiR2, wiET, wLcI, wDcI, wYes, wSortKI, wMakeI, sSetF, putFD, wMerge2, oEqDT, oBoolD, wListRg, wSMeth, oOwn2, wCutE, oRepL, wDIn, oLcm, wChain, kt_ii, kt_ib, kt_rr, wFld_e, wProp_e, ixr_lst, ixr_tup, ixr_tpk, w_is_int, w_within, w_asc, fld_flags, fld_odd, ins_rd, w_initT, w_initL]
  exact ⟨ns, rfl, ha, line5 (by decide), S.length, [false], ns, rfl, at_acc, by decide, hl2, asc_nodup ha, made_rd (Fz.keep0 (lo_rd _) h)⟩
def w_rests : WF := fun ds S Q => ∃ (m : Int) (ns : List Int), ds = [.int m, .tup (ns.map D.int)] ∧ 1 ≤ m ∧ m ≤ 5040 ∧ Asc 0 (m - 1) ns ∧ ns.length ≤ 16000000 ∧ Q (rd ((List.range m.toNat).map fun k : Nat => decide ((k : Int) ∈ ns), [])) S
theorem sc_rests : FnScope ["modulus", "rests", "wanted", "rest"] ["modulus", "rests"] (defScope s_rests) := ⟨rfl, rfl, rfl, by decide +kernel, rfl, by decide +kernel, by decide +kernel⟩
theorem ok_rests (T : Tx K mg) : FnR P w K mg base CX0 5 T.f_rests (spWS ⟨K, mg⟩ 1 w_rests) := by
  refine fnStarF (k := 4) (ps := ["modulus"]) T.F_rests sc_rests (fun _ _ _ _ _ _ us rest hl => match us, rest, hl with | [_], [], _ => rfl | [_], _ :: _, _ => rfl) (fun cdv A outer s H E hr => ⟨_, (dss_cons (ds_if (dt_not (dt_val (d_call (ok_is_int_within T) (hr.mono (by decide)) T.m_is_int_within T.F_is_int_within.kp T.b_is_int_within (da_cons (dv 0) (da_cons d_int (da_cons (d_globI T.g_MOST_MODULUS) da_nil)))))) (dss_one ds_never) dss_nil)
  (dss_cons (ds_expr (d_call (ok_check_ascending T) (hr.mono (by decide)) T.m_check_ascending T.F_check_ascending.kp T.b_check_ascending (da_cons (dv 1) (da_cons (d_op op_sub snd_iSub (dv 0) d_int) da_nil))))
  (dss_cons (ds_set (i := 2) sc_rests.nd (d_fz (d_dcI (own := [("rest", 3)]) rfl sc_rests.nd (ii_tup (dv 1)) (blkOk_by (own := [("rest", 3)]) (N := ["modulus", "rests", "wanted", "rest"]) (sc := defScope s_rests) (by decide +kernel)) (gown_name (by decide)) (fun _ _ _ _ _ => (dg_name (i := 3) sc_rests.nd)) (fun _ _ _ _ _ => dts_nil) (fun _ _ _ _ _ => (dv 3)) (fun _ _ _ _ _ => d_bl))))
  (dss_one (ds_ret (d_fz (d_makeI T.mkk (ok_init_T T) (hr.mono (by decide)) T.g_Rounds T.b_init (da_cons (d_fz (d_lcI (own := [("rest", 3)]) rfl sc_rests.nd (ii_range T.z_range (da_cons (dv 0) da_nil)) (blkOk_by (own := [("rest", 3)]) (N := ["modulus", "rests", "wanted", "rest"]) (sc := defScope s_rests) (by decide +kernel)) (gown_name (by decide)) (fun _ _ _ _ _ => (dg_name (i := 3) sc_rests.nd)) (fun _ _ _ _ _ => dts_nil) (fun _ _ _ _ _ => (d_din hr (dv 3) (dv 2))))) (da_cons (d_tup da_nil) da_nil)))))))))⟩) (fun ds S Q hl lo h => ?_)
  obtain ⟨m, ns, rfl, m0, m1, ha, hl2, h⟩ := h
  simp only [true_and, and_true, oU2, oUn1, oL1, oS1, oR1, oJust, iAdd, iSub, iMul, iFdiv, iMod, iEq, iNe, iLt, iLe, iGt, iGe, iNeg, iAbs, DL.iStr, wFmt, wJs, wJoined, sNext, sSeq, sDrop, sRet, sRetN, sIf, sAsg, sPar, wOp, wVar, wC, wUn, wCons, wNil, wCB, wCall, wMake, wMakeSw, wCallSw, oI, oI0, oU, wTest, wAnd, wOr, DL.wNot, wAndV, wOrV, wNotV, wIf, wTup, wLst, wLstM, gwName, gwNil, gwCons, gwTup, gwSub, oInt1, oAbsI, oLen, oGcd, oDivmod, oMax2, oMin2, oIsi, tyOf, clOf, oStrI, if_t1, if_f1, Bool.not_true, Bool.not_false, startD, List.map_cons, List.map_nil, List.length_cons, List.length_nil, List.cons_append, List.nil_append, List.getElem?_cons_zero, List.getElem?_cons_succ, List.set_cons_zero, List.set_cons_succ, List.replicate, Nat.reduceAdd, Nat.reduceSub, Nat.zero_add, Nat.sub_self, Nat.add_sub_cancel, sForI, forStep, listD, seqD, wFz, wTruth, wiL, wiT, wiR, wiR2, wiET, wLcI, wDcI, wYes, wSortKI, wMakeI, sSetF, putFD, wMerge2, oEqDT, oBoolD, wListRg, wSMeth, oOwn2, wCutE, oRepL, wDIn, oLcm, wChain, kt_ii, kt_ib, kt_rr, wFld_e, wProp_e, ixr_lst, ixr_tup, ixr_tpk, w_is_int, w_within, w_asc, fld_flags, fld_odd, ins_rd, w_initT, w_initL, w_told]
  rw [decide_eq_true m0, decide_eq_true m1, if_neg (by decide)]
  refine ⟨ns, rfl, ha, ?_⟩
  refine dcO_all D.int (fun acc n => putD acc (.inl n) (.bl true)) ns (fun _ => trivial) (line5 hl2) (fun acc x => putD_len _ _ _) (by rw [foldK_eq (asc_nodup ha)]; exact loK_odd ns) (fun n _ acc k hl hk => ?_) ?_
  · simp only [dcStep, wipeD, gwName, wYes, wVar, wC, if_t1, List.set_cons_zero, List.set_cons_succ, List.getElem?_cons_zero, List.getElem?_cons_succ]
    exact dct_end (key := .inl n) rfl hl hk
  rw [foldK_eq (asc_nodup ha)]
  refine ⟨by omega, ?_⟩
  refine lcO_all (fun i : Nat => D.int (0 + i)) (fun k : Nat => D.bl (decide ((k : Int) ∈ ns))) (List.range m.toNat) (fun _ => trivial) (line5 (by simp; omega)) loL_bl (fun k hk acc kk hl hkk => ?_) ?_
  · simp only [lcStep, wipeD, gwName, wYes, wDIn, wVar, wC, if_t1, List.set_cons_zero, List.set_cons_succ, List.getElem?_cons_zero, List.getElem?_cons_succ]
    refine ⟨oddK ns, .inl (0 + (k : Int)), rfl, rfl, ?_⟩
    rw [valD_odd, Int.zero_add, Bool.false_xor]
    exact acc_end hl hkk
  · exact ⟨line5 (by decide), S.length, (List.range m.toNat).map fun k : Nat => decide ((k : Int) ∈ ns), [], by rw [List.map_map]; rfl, at_acc, by simp; omega, by decide, List.nodup_nil, made_rd (Fz.keep0 (lo_rd _) h)⟩
end
end K1
set_option Elab.async false
set_option linter.all false
set_option maxRecDepth 100000
set_option maxHeartbeats 0
namespace K1
open PySem PySem.Spec PyProof.Rows L2 DL
section
variable {P : Program} {w : World} {K : PySem.W.Frag} {mg : Str → Option Value} {base : Heap}
def w_first : WF := fun ds S Q => ∃ n : Int, ds = [.int n] ∧ 0 ≤ n ∧ n ≤ 1000000000 ∧ Q .non S
theorem sc_check_first : FnScope ["first"] ["first"] (defScope s_check_first) := ⟨rfl, rfl, rfl, by decide +kernel, rfl, by decide +kernel, by decide +kernel⟩
theorem ok_check_first (T : Tx K mg) : FnOk P w K mg base CX0 4 T.f_check_first T.fd_check_first ["first"] (spW ⟨K, mg⟩ 1 w_first) := by
  refine fnD (k := 3) T.F_check_first sc_check_first (fun cdv A outer s H E hr => ⟨_, (dss_one (ds_if (dt_not (dt_val (d_call (ok_is_int_within T) (hr.mono (by decide)) T.m_is_int_within T.F_is_int_within.kp T.b_is_int_within (da_cons (dv 0) (da_cons d_int (da_cons (d_globI T.g_MOST_FIRST) da_nil)))))) (dss_one ds_never) dss_nil))⟩) (fun ds S Q hl h => ?_)
  obtain ⟨n, rfl, n0, n1, h⟩ := h
  simp only [true_and, and_true, oU2, oUn1, oL1, oS1, oR1, oJust, iAdd, iSub, iMul, iFdiv, iMod, iEq, iNe, iLt, iLe, iGt, iGe, iNeg, iAbs, DL.iStr, wFmt, wJs, wJoined, sNext, sSeq, sDrop, sRet, sRetN, sIf, sAsg, sPar, wOp, wVar, wC, wUn, wCons, wNil, wCB, wCall, wMake, wMakeSw, wCallSw, oI, oI0, oU, wTest, wAnd, wOr, DL.wNot, wAndV, wOrV, wNotV, wIf, wTup, wLst, wLstM, gwName, gwNil, gwCons, gwTup, gwSub, oInt1, oAbsI, oLen, oGcd, oDivmod, oMax2, oMin2, oIsi, tyOf, clOf, oStrI, if_t1, if_f1, Bool.not_true, Bool.not_false, startD, List.map_cons, List.map_nil, List.length_cons, List.length_nil, List.cons_append, List.nil_append, List.getElem?_cons_zero, List.getElem?_cons_succ, List.set_cons_zero, List.set_cons_succ, List.replicate, Nat.reduceAdd, Nat.reduceSub, Nat.zero_add, Nat.sub_self, Nat.add_sub_cancel, sForI, forStep, listD, seqD, wFz, wTruth, wiL, wiT, wiR, wiR2, wiET, wLcI, wDcI, wYes, wSortKI, wMakeI, sSetF, putFD, wMerge2, oEqDT, oBoolD, wListRg, wSMeth, oOwn2, wCutE, oRepL, wDIn, oLcm, wChain, kt_ii, kt_ib, kt_rr, wFld_e, wProp_e, ixr_lst, ixr_tup, ixr_tpk, w_is_int, w_within, w_asc, fld_flags, fld_odd, ins_rd, w_initT, w_initL, w_told, w_within]
  rw [decide_eq_true n0, decide_eq_true n1]
  exact h
/-- how many of the numbers lie below -/
def below (ns : List Int) (x : Int) : Nat := (ns.takeWhile fun n => decide (n < x)).length
def Up (ns : List Int) : Prop := ns.Pairwise (· < ·)
theorem below_cons {n x : Int} {ns : List Int} : below (n :: ns) x = if n < x then below ns x + 1 else 0 := by
  unfold below
  rw [List.takeWhile_cons]
  by_cases h : n < x
  · rw [decide_eq_true h, if_pos h]
    rfl
  · rw [decide_eq_false h, if_neg h]
    rfl
theorem below_iff {x : Int} : ∀ {ns : List Int}, Up ns → ∀ (i : Nat) (v : Int), ns[i]? = some v → (v < x ↔ i < below ns x)
  | [], _, i, v, e => by simp at e
  | n :: ns, up, 0, v, e => by
    have e' : n = v := by simpa using e
    subst e'
    rw [below_cons]
    by_cases h : n < x
    · rw [if_pos h]; exact ⟨fun _ => Nat.succ_pos _, fun _ => h⟩
    · rw [if_neg h]; exact ⟨fun z => absurd z h, fun z => absurd z (Nat.lt_irrefl _)⟩
  | n :: ns, up, i + 1, v, e => by
    have e' : ns[i]? = some v := by simpa using e
    obtain ⟨h1, h2⟩ := List.pairwise_cons.mp up
    rw [below_cons]
    by_cases h : n < x
    · rw [if_pos h, below_iff h2 i v e']
      omega
    · rw [if_neg h]
      have := h1 v (List.mem_of_getElem? e')
      exact ⟨fun z => by omega, fun z => by omega⟩
theorem below_le {x : Int} : ∀ (ns : List Int), below ns x ≤ ns.length
  | [] => Nat.le_refl _
  | n :: ns => by
    rw [below_cons, List.length_cons]
    have := below_le (x := x) ns
    split <;> omega
theorem ifT' {c : Prop} [Decidable c] {A B : Prop} (h : c) (a : A) : if decide c = true then A else B := by
  rw [decide_eq_true h]
  exact a
theorem ifF' {c : Prop} [Decidable c] {A B : Prop} (h : ¬ c) (b : B) : if decide c = true then A else B := by
  rw [decide_eq_false h]
  exact b
def w_index : WF := fun ds S Q => ∃ (ns : List Int) (x : Int), ds = [.lst (ns.map D.int), .int x] ∧ Up ns ∧ ns.length ≤ 16000000 ∧ Q (.int (below ns x : Nat)) S
theorem sc_index_from : FnScope ["numbers", "least", "low", "high", "middle"] ["numbers", "least"] (defScope s_index_from) := ⟨rfl, rfl, rfl, by decide +kernel, rfl, by decide +kernel, by decide +kernel⟩
theorem ok_index_from (T : Tx K mg) : FnOk P w K mg base CX0 2 T.f_index_from T.fd_index_from ["numbers", "least"] (spW ⟨K, mg⟩ 2 w_index) := by
  refine fnD (k := 1) T.F_index_from sc_index_from (fun cdv A outer s H E hr => ⟨_, (dss_cons (ds_set (i := 2) sc_index_from.nd d_int)
  (dss_cons (ds_set (i := 3) sc_index_from.nd (d_callB call_len_seq snd_len T.z_len (da_cons (dv 0) da_nil) (hv := bt_len)))
  (dss_cons (ds_while PassesOwn.never (dt_cmp op_lt snd_iLt (dv 2) (dv 3) (nomark _)) (dss_cons (ds_set (i := 4) sc_index_from.nd (d_op op_fdivWN snd_iFdiv (d_op op_add snd_iAdd (dv 2) (dv 3)) d_int))
  (dss_one (ds_if (dt_cmp op_lt snd_iLt (d_ix (dv 0) (dv 4)) (dv 1) (nomark _)) (dss_one (ds_set (i := 2) sc_index_from.nd (d_op op_add snd_iAdd (dv 4) d_int))) (dss_one (ds_set (i := 3) sc_index_from.nd (dv 4)))))))
  (dss_one (ds_ret (dv 2))))))⟩) (fun ds S Q hl h => ?_)
  obtain ⟨ns, x, rfl, up, hl, h⟩ := h
  simp only [true_and, and_true, oU2, oUn1, oL1, oS1, oR1, oJust, iAdd, iSub, iMul, iFdiv, iMod, iEq, iNe, iLt, iLe, iGt, iGe, iNeg, iAbs, DL.iStr, wFmt, wJs, wJoined, sNext, sSeq, sDrop, sRet, sRetN, sIf, sAsg, sPar, wOp, wVar, wC, wUn, wCons, wNil, wCB, wCall, wMake, wMakeSw, wCallSw, oI, oI0, oU, wTest, wAnd, wOr, DL.wNot, wAndV, wOrV, wNotV, wIf, wTup, wLst, wLstM, gwName, gwNil, gwCons, gwTup, gwSub, oInt1, oAbsI, oLen, oGcd, oDivmod, oMax2, oMin2, oIsi, tyOf, clOf, oStrI, if_t1, if_f1, Bool.not_true, Bool.not_false, startD, List.map_cons, List.map_nil, List.length_cons, List.length_nil, List.cons_append, List.nil_append, List.getElem?_cons_zero, List.getElem?_cons_succ, List.set_cons_zero, List.set_cons_succ, List.replicate, Nat.reduceAdd, Nat.reduceSub, Nat.zero_add, Nat.sub_self, Nat.add_sub_cancel, sForI, forStep, listD, seqD, wFz, wTruth, wiL, wiT, wiR, wiR2, wiET, wLcI, wDcI, wYes, wSortKI, wMakeI, sSetF, putFD, wMerge2, oEqDT, oBoolD, wListRg, wSMeth, oOwn2, wCutE, oRepL, wDIn, oLcm, wChain, kt_ii, kt_ib, kt_rr, wFld_e, wProp_e, ixr_lst, ixr_tup, ixr_tpk, w_is_int, w_within, w_asc, fld_flags, fld_odd, ins_rd, w_initT, w_initL, w_told, w_within, sWhile]
  refine ⟨fun m ρ S' => S' = S ∧ ∃ (lo hi : Nat) (o : Option D), ρ = [some (.lst (ns.map D.int)), some (.int x), some (.int lo), some (.int hi), o] ∧ lo ≤ below ns x ∧ below ns x ≤ hi ∧ hi ≤ ns.length ∧ m = hi - lo, ⟨_, rfl, 0, ns.length, none, (by rw [List.length_map]; rfl), Nat.zero_le _, below_le ns, Nat.le_refl _, rfl⟩, ?_⟩
  rintro m ρ S' ⟨rfl, lo, hi, o, rfl, h1, h2, h3, rfl⟩
  simp only [true_and, and_true, oU2, oUn1, oL1, oS1, oR1, oJust, iAdd, iSub, iMul, iFdiv, iMod, iEq, iNe, iLt, iLe, iGt, iGe, iNeg, iAbs, DL.iStr, wFmt, wJs, wJoined, sNext, sSeq, sDrop, sRet, sRetN, sIf, sAsg, sPar, wOp, wVar, wC, wUn, wCons, wNil, wCB, wCall, wMake, wMakeSw, wCallSw, oI, oI0, oU, wTest, wAnd, wOr, DL.wNot, wAndV, wOrV, wNotV, wIf, wTup, wLst, wLstM, gwName, gwNil, gwCons, gwTup, gwSub, oInt1, oAbsI, oLen, oGcd, oDivmod, oMax2, oMin2, oIsi, tyOf, clOf, oStrI, if_t1, if_f1, Bool.not_true, Bool.not_false, startD, List.map_cons, List.map_nil, List.length_cons, List.length_nil, List.cons_append, List.nil_append, List.getElem?_cons_zero, List.getElem?_cons_succ, List.set_cons_zero, List.set_cons_succ, List.replicate, Nat.reduceAdd, Nat.reduceSub, Nat.zero_add, Nat.sub_self, Nat.add_sub_cancel, sForI, forStep, listD, seqD, wFz, wTruth, wiL, wiT, wiR, wiR2, wiET, wLcI, wDcI, wYes, wSortKI, wMakeI, sSetF, putFD, wMerge2, oEqDT, oBoolD, wListRg, wSMeth, oOwn2, wCutE, oRepL, wDIn, oLcm, wChain, kt_ii, kt_ib, kt_rr, wFld_e, wProp_e, ixr_lst, ixr_tup, ixr_tpk, w_is_int, w_within, w_asc, fld_flags, fld_odd, ins_rd, w_initT, w_initL, w_told, w_within, sWhile]
  by_cases c : (lo : Int) < hi
  · refine ifT' c ?_
    have em : ((lo : Int) + hi).fdiv 2 = ((lo + hi) / 2 : Nat) := by
      rw [Int.fdiv_eq_ediv_of_nonneg _ (by omega)]
      omega
    rw [em]
    have hm : (lo + hi) / 2 < ns.length := by omega
    refine ⟨⟨by decide, by decide⟩, ?_⟩
    refine atOf (atI_nat (by rw [List.getElem?_map, List.getElem?_eq_getElem hm]; rfl)) ?_
    have hb := below_iff (x := x) up _ _ (List.getElem?_eq_getElem hm)
    dsimp only
    by_cases hc : ns[(lo + hi) / 2] < x
    · have := hb.mp hc
      exact ifT' hc ⟨_, by omega, (lo + hi) / 2 + 1, hi, _, rfl, by omega, h2, h3, rfl⟩
    · have : ¬ (lo + hi) / 2 < below ns x := fun z => hc (hb.mpr z)
      exact ifF' hc ⟨_, by omega, lo, (lo + hi) / 2, _, rfl, h1, by omega, by omega, rfl⟩
  · refine ifF' c ?_
    rw [show lo = below ns x by omega]
    exact h
theorem lt_log2' {n : Nat} (h : n ≤ 1000000) : (n : Int).natAbs.log2 < 9000 := by
  rw [Int.natAbs_natCast]
  exact PySem.Flt.log2_lt_of (by decide) (Nat.lt_of_le_of_lt h (Nat.lt_of_lt_of_le (show 1000000 < 2 ^ 20 by decide) (Nat.pow_le_pow_right (by decide) (by decide))))
def optD : Option Nat → D
  | none => .non
  | some n => .int n
/-- the first flagged round from a on -/
def nextF (f : List Bool) (a : Nat) : Option Nat := ((List.range f.length).find? fun i => f.getD ((a + i) % f.length) false).map (a + ·)
theorem at_flg {f : List Bool} {n : Nat} (h : 0 < f.length) : L2.atI (f.map D.bl) ((n % f.length : Nat) : Int) = some (.bl (f.getD (n % f.length) false)) := by
  have hm := Nat.mod_lt n h
  refine atI_nat ?_
  rw [List.getElem?_map, List.getElem?_eq_getElem hm, List.getD_eq_getElem?_getD, List.getElem?_eq_getElem hm]
  rfl
def w_nextf : WF := fun ds S Q => ∃ (f : List Bool) (a : Nat), ds = [.lst (f.map D.bl), .int a] ∧ 0 < f.length ∧ f.length ≤ 5040 ∧ a ≤ 2000000000 ∧ Q (optD (nextF f a)) S
theorem sc_next_flagged : FnScope ["flags", "first", "n"] ["flags", "first"] (defScope s_next_flagged) := ⟨rfl, rfl, rfl, by decide +kernel, rfl, by decide +kernel, by decide +kernel⟩
theorem ok_next_flagged (T : Tx K mg) : FnOk P w K mg base CX0 2 T.f_next_flagged T.fd_next_flagged ["flags", "first"] (spW ⟨K, mg⟩ 2 w_nextf) := by
  refine fnD (k := 1) T.F_next_flagged sc_next_flagged (fun cdv A outer s H E hr => ⟨_, (dss_cons (ds_for PassesOwn.never rfl (ii_range2 T.z_range (da_cons (dv 1) (da_cons (d_op op_add snd_iAdd (dv 1) (d_callB call_len_seq snd_len T.z_len (da_cons (dv 0) da_nil) (hv := bt_len))) da_nil))) (dg_name (i := 2) sc_next_flagged.nd) (dss_one (ds_if (dt_val (d_ix (dv 0) (d_op op_modN snd_iMod (dv 2) (d_callB call_len_seq snd_len T.z_len (da_cons (dv 0) da_nil) (hv := bt_len))))) (dss_one (ds_ret (dv 2))) dss_nil)))
  (dss_one (ds_ret d_non)))⟩) (fun ds S Q hl h => ?_)
  obtain ⟨f, a, rfl, f0, f1, a1, h⟩ := h
  refine seqG fun R hR => ?_
  simp only [true_and, and_true, oU2, oUn1, oL1, oS1, oR1, oJust, iAdd, iSub, iMul, iFdiv, iMod, iEq, iNe, iLt, iLe, iGt, iGe, iNeg, iAbs, DL.iStr, wFmt, wJs, wJoined, sNext, sSeq, sDrop, sRet, sRetN, sIf, sAsg, sPar, wOp, wVar, wC, wUn, wCons, wNil, wCB, wCall, wMake, wMakeSw, wCallSw, oI, oI0, oU, wTest, wAnd, wOr, DL.wNot, wAndV, wOrV, wNotV, wIf, wTup, wLst, wLstM, gwName, gwNil, gwCons, gwTup, gwSub, oInt1, oAbsI, oLen, oGcd, oDivmod, oMax2, oMin2, oIsi, tyOf, clOf, oStrI, if_t1, if_f1, Bool.not_true, Bool.not_false, startD, List.map_cons, List.map_nil, List.length_cons, List.length_nil, List.cons_append, List.nil_append, List.getElem?_cons_zero, List.getElem?_cons_succ, List.set_cons_zero, List.set_cons_succ, List.replicate, Nat.reduceAdd, Nat.reduceSub, Nat.zero_add, Nat.sub_self, Nat.add_sub_cancel, sForI, forStep, listD, seqD, wFz, wTruth, wiL, wiT, wiR, wiR2, wiET, wLcI, wDcI, wYes, wSortKI, wMakeI, sSetF, putFD, wMerge2, oEqDT, oBoolD, wListRg, wSMeth, oOwn2, wCutE, oRepL, wDIn, oLcm, wChain, kt_ii, kt_ib, kt_rr, wFld_e, wProp_e, ixr_lst, ixr_tup, ixr_tpk, w_is_int, w_within, w_asc, fld_flags, fld_odd, ins_rd, w_initT, w_initL, w_told, w_within, sWhile]
  generalize hst : forStep _ _ _ = st
  rw [List.length_map]
  refine ⟨⟨by omega, by omega, by omega, by omega⟩, ?_⟩
  rw [show ((a : Int) + (f.length : Int) - (a : Int)).toNat = f.length by omega, show rangeD (a : Int) f.length = (List.range f.length).map fun i : Nat => D.int ((a : Int) + i) from rfl]
  have hs1 : ∀ (i : Nat) (o : Option D) (nx : DEnv → MS → Prop), i < f.length → (f.getD ((a + i) % f.length) false = true → Q (.int ((a + i : Nat) : Int)) S) → (f.getD ((a + i) % f.length) false = false → nx [some (.lst (f.map D.bl)), some (.int a), some (.int ((a : Int) + i))] S) →
      st (.int ((a : Int) + i)) [some (.lst (f.map D.bl)), some (.int a), o] S nx := fun i o nx hi h1 h2 => by
    subst hst
    simp only [true_and, and_true, oU2, oUn1, oL1, oS1, oR1, oJust, iAdd, iSub, iMul, iFdiv, iMod, iEq, iNe, iLt, iLe, iGt, iGe, iNeg, iAbs, DL.iStr, wFmt, wJs, wJoined, sNext, sSeq, sDrop, sRet, sRetN, sIf, sAsg, sPar, wOp, wVar, wC, wUn, wCons, wNil, wCB, wCall, wMake, wMakeSw, wCallSw, oI, oI0, oU, wTest, wAnd, wOr, DL.wNot, wAndV, wOrV, wNotV, wIf, wTup, wLst, wLstM, gwName, gwNil, gwCons, gwTup, gwSub, oInt1, oAbsI, oLen, oGcd, oDivmod, oMax2, oMin2, oIsi, tyOf, clOf, oStrI, if_t1, if_f1, Bool.not_true, Bool.not_false, startD, List.map_cons, List.map_nil, List.length_cons, List.length_nil, List.cons_append, List.nil_append, List.getElem?_cons_zero, List.getElem?_cons_succ, List.set_cons_zero, List.set_cons_succ, List.replicate, Nat.reduceAdd, Nat.reduceSub, Nat.zero_add, Nat.sub_self, Nat.add_sub_cancel, sForI, forStep, listD, seqD, wFz, wTruth, wiL, wiT, wiR, wiR2, wiET, wLcI, wDcI, wYes, wSortKI, wMakeI, sSetF, putFD, wMerge2, oEqDT, oBoolD, wListRg, wSMeth, oOwn2, wCutE, oRepL, wDIn, oLcm, wChain, kt_ii, kt_ib, kt_rr, wFld_e, wProp_e, ixr_lst, ixr_tup, ixr_tpk, w_is_int, w_within, w_asc, fld_flags, fld_odd, ins_rd, w_initT, w_initL, w_told, w_within, sWhile]
    rw [List.length_map]
    refine ⟨by omega, ?_⟩
    have em : ((a : Int) + i).fmod (f.length : Int) = (((a + i) % f.length : Nat) : Int) := by
      rw [Int.fmod_eq_emod_of_nonneg _ (by omega), Int.natCast_emod, Int.natCast_add]
    rw [em]
    refine atOf (at_flg f0) ?_
    dsimp only
    cases hc : f.getD ((a + i) % f.length) false with
    | true =>
      rw [if_pos rfl]
      exact h1 hc
    | false =>
      rw [if_neg Bool.false_ne_true]
      exact h2 hc
  clear hst
  have gen : ∀ (todo : List Nat) (o : Option D), (∀ i ∈ todo, i < f.length) → Q (optD ((todo.find? fun i => f.getD ((a + i) % f.length) false).map (a + ·))) S →
      forO (fun _ => True) (todo.map fun i : Nat => D.int ((a : Int) + i)) st (R { nx := fun _ S' => Q .non S', rt := Q }) [some (.lst (f.map D.bl)), some (.int a), o] S := by
    intro todo
    induction todo with
    | nil =>
      intro o _ hq
      refine ⟨trivial, ?_⟩
      subst hR
      simp only [true_and, and_true, oU2, oUn1, oL1, oS1, oR1, oJust, iAdd, iSub, iMul, iFdiv, iMod, iEq, iNe, iLt, iLe, iGt, iGe, iNeg, iAbs, DL.iStr, wFmt, wJs, wJoined, sNext, sSeq, sDrop, sRet, sRetN, sIf, sAsg, sPar, wOp, wVar, wC, wUn, wCons, wNil, wCB, wCall, wMake, wMakeSw, wCallSw, oI, oI0, oU, wTest, wAnd, wOr, DL.wNot, wAndV, wOrV, wNotV, wIf, wTup, wLst, wLstM, gwName, gwNil, gwCons, gwTup, gwSub, oInt1, oAbsI, oLen, oGcd, oDivmod, oMax2, oMin2, oIsi, tyOf, clOf, oStrI, if_t1, if_f1, Bool.not_true, Bool.not_false, startD, List.map_cons, List.map_nil, List.length_cons, List.length_nil, List.cons_append, List.nil_append, List.getElem?_cons_zero, List.getElem?_cons_succ, List.set_cons_zero, List.set_cons_succ, List.replicate, Nat.reduceAdd, Nat.reduceSub, Nat.zero_add, Nat.sub_self, Nat.add_sub_cancel, sForI, forStep, listD, seqD, wFz, wTruth, wiL, wiT, wiR, wiR2, wiET, wLcI, wDcI, wYes, wSortKI, wMakeI, sSetF, putFD, wMerge2, oEqDT, oBoolD, wListRg, wSMeth, oOwn2, wCutE, oRepL, wDIn, oLcm, wChain, kt_ii, kt_ib, kt_rr, wFld_e, wProp_e, ixr_lst, ixr_tup, ixr_tpk, w_is_int, w_within, w_asc, fld_flags, fld_odd, ins_rd, w_initT, w_initL, w_told, w_within, sWhile]
      exact hq
    | cons i todo ih =>
      intro o hi hq
      rw [List.find?_cons] at hq
      refine ⟨trivial, hs1 i o _ (hi i List.mem_cons_self) (fun hc => ?_) fun hc => ih _ (fun j hj => hi j (List.mem_cons_of_mem _ hj)) ?_⟩
      · rw [hc] at hq
        exact hq
      · rw [hc] at hq
        exact hq
  exact gen _ none (fun i hi => List.mem_range.mp hi) h
end
end K1
set_option Elab.async false
set_option linter.all false
set_option maxRecDepth 100000
set_option maxHeartbeats 0
namespace K1
open PySem PySem.Spec PyProof.Rows L2 DL
section
variable {P : Program} {w : World} {K : PySem.W.Frag} {mg : Str → Option Value} {base : Heap}
/-- is n in r -/
def mem (r : Rnd) (n : Int) : Bool := (r.1.getD (n % (r.1.length : Int)).toNat false) ^^ decide (n ∈ r.2)
structure Wf (r : Rnd) : Prop where
  pos : 0 < r.1.length
  le : r.1.length ≤ 5040
  nd : r.2.Nodup
  up : Up r.2
  sz : r.2.length ≤ 1000
  ge : ∀ n ∈ r.2, 0 ≤ n ∧ n ≤ 1000000
theorem mod_lt {n : Int} {l : Nat} (h : 0 < l) : (n % (l : Int)).toNat < l := by
  have h1 := Int.emod_nonneg n (show (l : Int) ≠ 0 by omega)
  have h2 := Int.emod_lt_of_pos n (show (0 : Int) < l by omega)
  omega
theorem at_fl {fl : List Bool} {n : Int} (h : 0 < fl.length) : L2.atI (fl.map D.bl) (n % (fl.length : Int)) = some (.bl (fl.getD (n % (fl.length : Int)).toNat false)) := by
  have h1 := Int.emod_nonneg n (show (fl.length : Int) ≠ 0 by omega)
  have e : ((n % (fl.length : Int)).toNat : Int) = n % (fl.length : Int) := by omega
  rw [← e]
  rw [atI_nat (by rw [List.getElem?_map, List.getElem?_eq_getElem (mod_lt h)]; rfl)]
  rw [e, List.getD_eq_getElem?_getD, List.getElem?_eq_getElem (mod_lt h)]
  rfl
theorem ne_bl {a b : Bool} {S : MS} {Q : D → MS → Prop} (q : Q (.bl (a ^^ b)) S) : oNeD (.bl a) (.bl b) S Q := ⟨.bool a, .bool b, rfl, rfl, by cases a <;> rfl, by cases b <;> rfl, by
  have : (!PyData.eqv (.bool a) (.bool b)) = (a ^^ b) := by cases a <;> cases b <;> decide +kernel
  rw [this]
  exact q⟩
/-! ### two sets of odd numbers, one behind the other -/
def addN (acc : List Int) (n : Int) : List Int := if n ∈ acc then acc else acc ++ [n]
def uni (a b : List Int) : List Int := b.foldl addN a
theorem putD_odd (acc : List Int) (n : Int) : putD (oddK acc) (.inl n) (.bl true) = oddK (addN acc n) := by
  by_cases h : n ∈ acc
  · have e1 : addN acc n = acc := if_pos h
    rw [e1]
    unfold putD
    have ha : ((oddK acc).any fun kv => decide (kv.1 = Sum.inl n)) = true := List.any_eq_true.mpr ⟨(Sum.inl n, D.bl true), List.mem_map.mpr ⟨n, h, rfl⟩, decide_eq_true rfl⟩
    rw [if_pos ha]
    have hm : (oddK acc).map (fun kv => if kv.1 = Sum.inl n then (kv.1, D.bl true) else kv) = (oddK acc).map id := List.map_congr_left fun p hp => by
      obtain ⟨k, _, rfl⟩ := List.mem_map.mp hp
      dsimp only
      split <;> rfl
    rw [hm, List.map_id]
  · have e1 : addN acc n = acc ++ [n] := if_neg h
    rw [e1, putD_new (fun p hp => by
      obtain ⟨k, hk, rfl⟩ := List.mem_map.mp hp
      intro z
      cases z
      exact h hk)]
    unfold oddK
    rw [List.map_append]
    rfl
theorem merge_uni : ∀ (b a : List Int), mergeD (oddK a) (oddK b) = oddK (uni a b)
  | [], _ => rfl
  | n :: b, a => by
    show mergeD (putD (oddK a) (.inl n) (.bl true)) (oddK b) = oddK (uni (addN a n) b)
    rw [putD_odd, merge_uni b]
theorem mem_addN {acc : List Int} {n k : Int} : k ∈ addN acc n ↔ k ∈ acc ∨ k = n := by
  unfold addN
  split
  · rename_i h
    exact ⟨.inl, fun z => z.elim id fun z => z ▸ h⟩
  · simp
theorem mem_uni : ∀ {b a : List Int} {k : Int}, k ∈ uni a b ↔ k ∈ a ∨ k ∈ b
  | [], a, k => by simp [uni]
  | n :: b, a, k => by
    show k ∈ uni (addN a n) b ↔ _
    rw [mem_uni, mem_addN, List.mem_cons, or_assoc]
theorem nodup_addN {acc : List Int} {n : Int} (h : acc.Nodup) : (addN acc n).Nodup := by
  unfold addN
  split
  · exact h
  · rename_i z
    rw [List.nodup_append]
    exact ⟨h, by simp, fun x hx y hy e => z (by rw [List.mem_singleton.mp hy] at e; exact e ▸ hx)⟩
theorem nodup_uni : ∀ {b a : List Int}, a.Nodup → (uni a b).Nodup
  | [], _, h => h
  | n :: b, a, h => nodup_uni (b := b) (nodup_addN h)
theorem len_uni : ∀ {b a : List Int}, (uni a b).length ≤ a.length + b.length
  | [], a => by simp [uni]
  | n :: b, a => by
    show (uni (addN a n) b).length ≤ _
    have h1 := len_uni (b := b) (a := addN a n)
    have h2 : (addN a n).length ≤ a.length + 1 := by
      unfold addN
      split
      · omega
      · simp
    rw [List.length_cons]
    omega
theorem uni_nil {ns : List Int} (h : ns.Nodup) : mergeD [] (oddK ns) = oddK ns := by
  have e : mergeD [] (oddK ns) = ns.foldl (fun acc n => putD acc (.inl n) (.bl true)) [] := by
    unfold mergeD oddK
    rw [List.foldl_map]
  rw [e, foldK_eq h]
theorem intKeys_odd : ∀ ns : List Int, intKeys (oddK ns) = some ns
  | [] => rfl
  | n :: ns => by
    show (intKeys (oddK ns)).map (n :: ·) = _
    rw [intKeys_odd ns]
    rfl
theorem modN {n l : Nat} : ((0 + (n : Int)) % (l : Int)).toNat = n % l := by
  rw [Int.zero_add, ← Int.natCast_emod, Int.toNat_natCast]
theorem mod_mod {n : Int} {l L : Nat} (hl : 0 < l) (h : l ∣ L) (hL : 0 < L) : (n % (L : Int)).toNat % l = (n % (l : Int)).toNat := by
  have h1 := Int.emod_nonneg n (show (L : Int) ≠ 0 by omega)
  have h2 := Int.emod_nonneg n (show (l : Int) ≠ 0 by omega)
  have e : (((n % (L : Int)).toNat % l : Nat) : Int) = n % (l : Int) := by
    rw [Int.natCast_emod, Int.toNat_of_nonneg h1]
    exact Int.emod_emod_of_dvd n (Int.natCast_dvd_natCast.mpr h)
  omega
theorem up_of {ys : List Int} (h : ys.Pairwise (· ≤ ·)) (nd : ys.Nodup) : Up ys := (List.pairwise_and_iff.mpr ⟨h, nd⟩).imp fun ⟨a, b⟩ => by omega
def FL (t : Tab) (r1 r2 : Rnd) (L : Nat) : List Bool := (List.range L).map fun n => pick t (r1.1.getD (n % r1.1.length) false) (r2.1.getD (n % r2.1.length) false)
def keepN (t : Tab) (r1 r2 : Rnd) (n : Int) : Bool := pick t (mem r1 n) (mem r2 n) ^^ pick t (r1.1.getD (n % (r1.1.length : Int)).toNat false) (r2.1.getD (n % (r2.1.length : Int)).toNat false)
theorem FL_len {t : Tab} {r1 r2 : Rnd} {L : Nat} : (FL t r1 r2 L).length = L := by unfold FL; simp
theorem FL_at {t : Tab} {r1 r2 : Rnd} {L k : Nat} (h : k < L) : (FL t r1 r2 L).getD k false = pick t (r1.1.getD (k % r1.1.length) false) (r2.1.getD (k % r2.1.length) false) := by
  unfold FL
  rw [List.getD_eq_getElem?_getD, List.getElem?_map, List.getElem?_range h]
  rfl
theorem at_flL {fl : List Bool} {L : Nat} {n : Int} (e : fl.length = L) (h : 0 < L) : L2.atI (fl.map D.bl) (n % (L : Int)) = some (.bl (fl.getD (n % (L : Int)).toNat false)) := by
  subst e
  exact at_fl h
theorem keep_map {p : Int → Bool} : ∀ ys : List Int, ys.filterMap (fun n => if p n then some (D.int n) else none) = (ys.filter p).map D.int
  | [] => rfl
  | y :: ys => by
    rw [List.filterMap_cons, List.filter_cons]
    cases p y <;> simp [keep_map ys]
theorem loL_keep {n : Nat} {p : Int → Bool} (ys : List Int) : LoL n (ys.filterMap fun n => if p n then some (D.int n) else none) := by
  rw [keep_map]
  exact loL_int (f := fun i => i)
def w_contains : WF := fun ds S Q => ∃ r d, ds = [rd r, d] ∧ Wf r ∧ ((∃ n, d = .int n ∧ Q (.bl (decide (0 ≤ n) && mem r n)) S) ∨ (Oth d ∧ Q (.bl false) S))
theorem sc_contains : FnScope ["self", "value"] ["self", "value"] (defScope s_contains) := ⟨rfl, rfl, rfl, by decide +kernel, rfl, by decide +kernel, by decide +kernel⟩
theorem ok_contains (T : Tx K mg) : FnOk P w K mg base CX0 4 T.f_contains T.fd_contains ["self", "value"] (spW ⟨K, mg⟩ 2 w_contains) := by
  refine fnD (k := 3) T.F_contains sc_contains (fun cdv A outer s H E hr => ⟨_, (dss_cons (ds_if (PDW.pt (dw_or (dt_not (dt_val (d_call (ok_is_int T) (hr.mono (by decide)) T.m_is_int T.F_is_int.kp T.b_is_int (da_cons (dv 1) da_nil)))) (dw_or1 (dt_cmp op_lt snd_iLt (dv 1) d_int (nomark _))))) (dss_one (ds_ret d_bl)) dss_nil)
  (dss_one (ds_ret (d_cmp (op_neD hr.units) snd_neD (d_ix (d_fld (dv 0) T.g_Rounds T.cl T.na_flags) (d_op op_modN snd_iMod (dv 1) (d_prop (dv 0) T.g_Rounds T.cl T.p_modulus (ok_modulus T) (hr.mono (by decide)) T.b_modulus))) (d_din hr (dv 1) (d_fld (dv 0) T.g_Rounds T.cl T.na_odd)) (nomark _)))))⟩) (fun ds S Q hl h => ?_)
  obtain ⟨r, d, rfl, wf, h⟩ := h
  rcases h with ⟨n, rfl, h⟩ | ⟨o, h⟩
  · simp only [true_and, and_true, oU2, oUn1, oL1, oS1, oR1, oJust, iAdd, iSub, iMul, iFdiv, iMod, iEq, iNe, iLt, iLe, iGt, iGe, iNeg, iAbs, DL.iStr, wFmt, wJs, wJoined, sNext, sSeq, sDrop, sRet, sRetN, sIf, sAsg, sPar, wOp, wVar, wC, wUn, wCons, wNil, wCB, wCall, wMake, wMakeSw, wCallSw, oI, oI0, oU, wTest, wAnd, wOr, DL.wNot, wAndV, wOrV, wNotV, wIf, wTup, wLst, wLstM, gwName, gwNil, gwCons, gwTup, gwSub, oInt1, oAbsI, oLen, oGcd, oDivmod, oMax2, oMin2, oIsi, tyOf, clOf, oStrI, if_t1, if_f1, Bool.not_true, Bool.not_false, startD, List.map_cons, List.map_nil, List.length_cons, List.length_nil, List.cons_append, List.nil_append, List.getElem?_cons_zero, List.getElem?_cons_succ, List.set_cons_zero, List.set_cons_succ, List.replicate, Nat.reduceAdd, Nat.reduceSub, Nat.zero_add, Nat.sub_self, Nat.add_sub_cancel, sForI, forStep, listD, seqD, wFz, wTruth, wiL, wiT, wiR, wiR2, wiET, wLcI, wDcI, wYes, wSortKI, wMakeI, sSetF, putFD, wMerge2, oEqDT, oBoolD, wListRg, wSMeth, oOwn2, wCutE, oRepL, wDIn, oLcm, wChain, kt_ii, kt_ib, kt_rr, wFld_e, wProp_e, ixr_lst, ixr_tup, ixr_tpk, w_is_int, w_within, w_asc, fld_flags, fld_odd, ins_rd, w_initT, w_initL, w_told, w_within, sWhile, w_modulus, w_chosen]
    by_cases h0 : n < 0
    · rw [decide_eq_true h0, if_pos rfl]
      rw [show decide (0 ≤ n) = false from decide_eq_false (by omega), Bool.false_and] at h
      exact h
    · rw [decide_eq_false h0, if_neg Bool.false_ne_true]
      refine ⟨r, rfl, by have := wf.pos; omega, ?_⟩
      rw [Int.fmod_eq_emod_of_nonneg n (by omega)]
      refine atOf (at_fl wf.pos) ?_
      refine ⟨oddK r.2, .inl n, rfl, rfl, ne_bl ?_⟩
      rw [valD_odd, Bool.false_xor]
      rw [show decide (0 ≤ n) = true from decide_eq_true (by omega), Bool.true_and] at h
      exact h
  · match d, o with
    | .bl _, o => simp only [true_and, and_true, oU2, oUn1, oL1, oS1, oR1, oJust, iAdd, iSub, iMul, iFdiv, iMod, iEq, iNe, iLt, iLe, iGt, iGe, iNeg, iAbs, DL.iStr, wFmt, wJs, wJoined, sNext, sSeq, sDrop, sRet, sRetN, sIf, sAsg, sPar, wOp, wVar, wC, wUn, wCons, wNil, wCB, wCall, wMake, wMakeSw, wCallSw, oI, oI0, oU, wTest, wAnd, wOr, DL.wNot, wAndV, wOrV, wNotV, wIf, wTup, wLst, wLstM, gwName, gwNil, gwCons, gwTup, gwSub, oInt1, oAbsI, oLen, oGcd, oDivmod, oMax2, oMin2, oIsi, tyOf, clOf, oStrI, if_t1, if_f1, Bool.not_true, Bool.not_false, startD, List.map_cons, List.map_nil, List.length_cons, List.length_nil, List.cons_append, List.nil_append, List.getElem?_cons_zero, List.getElem?_cons_succ, List.set_cons_zero, List.set_cons_succ, List.replicate, Nat.reduceAdd, Nat.reduceSub, Nat.zero_add, Nat.sub_self, Nat.add_sub_cancel, sForI, forStep, listD, seqD, wFz, wTruth, wiL, wiT, wiR, wiR2, wiET, wLcI, wDcI, wYes, wSortKI, wMakeI, sSetF, putFD, wMerge2, oEqDT, oBoolD, wListRg, wSMeth, oOwn2, wCutE, oRepL, wDIn, oLcm, wChain, kt_ii, kt_ib, kt_rr, wFld_e, wProp_e, ixr_lst, ixr_tup, ixr_tpk, w_is_int, w_within, w_asc, fld_flags, fld_odd, ins_rd, w_initT, w_initL, w_told, w_within, sWhile, w_modulus, w_chosen]; exact ⟨o, h⟩
    | .non, o => simp only [true_and, and_true, oU2, oUn1, oL1, oS1, oR1, oJust, iAdd, iSub, iMul, iFdiv, iMod, iEq, iNe, iLt, iLe, iGt, iGe, iNeg, iAbs, DL.iStr, wFmt, wJs, wJoined, sNext, sSeq, sDrop, sRet, sRetN, sIf, sAsg, sPar, wOp, wVar, wC, wUn, wCons, wNil, wCB, wCall, wMake, wMakeSw, wCallSw, oI, oI0, oU, wTest, wAnd, wOr, DL.wNot, wAndV, wOrV, wNotV, wIf, wTup, wLst, wLstM, gwName, gwNil, gwCons, gwTup, gwSub, oInt1, oAbsI, oLen, oGcd, oDivmod, oMax2, oMin2, oIsi, tyOf, clOf, oStrI, if_t1, if_f1, Bool.not_true, Bool.not_false, startD, List.map_cons, List.map_nil, List.length_cons, List.length_nil, List.cons_append, List.nil_append, List.getElem?_cons_zero, List.getElem?_cons_succ, List.set_cons_zero, List.set_cons_succ, List.replicate, Nat.reduceAdd, Nat.reduceSub, Nat.zero_add, Nat.sub_self, Nat.add_sub_cancel, sForI, forStep, listD, seqD, wFz, wTruth, wiL, wiT, wiR, wiR2, wiET, wLcI, wDcI, wYes, wSortKI, wMakeI, sSetF, putFD, wMerge2, oEqDT, oBoolD, wListRg, wSMeth, oOwn2, wCutE, oRepL, wDIn, oLcm, wChain, kt_ii, kt_ib, kt_rr, wFld_e, wProp_e, ixr_lst, ixr_tup, ixr_tpk, w_is_int, w_within, w_asc, fld_flags, fld_odd, ins_rd, w_initT, w_initL, w_told, w_within, sWhile, w_modulus, w_chosen]; exact ⟨o, h⟩
    | .str _, o => simp only [true_and, and_true, oU2, oUn1, oL1, oS1, oR1, oJust, iAdd, iSub, iMul, iFdiv, iMod, iEq, iNe, iLt, iLe, iGt, iGe, iNeg, iAbs, DL.iStr, wFmt, wJs, wJoined, sNext, sSeq, sDrop, sRet, sRetN, sIf, sAsg, sPar, wOp, wVar, wC, wUn, wCons, wNil, wCB, wCall, wMake, wMakeSw, wCallSw, oI, oI0, oU, wTest, wAnd, wOr, DL.wNot, wAndV, wOrV, wNotV, wIf, wTup, wLst, wLstM, gwName, gwNil, gwCons, gwTup, gwSub, oInt1, oAbsI, oLen, oGcd, oDivmod, oMax2, oMin2, oIsi, tyOf, clOf, oStrI, if_t1, if_f1, Bool.not_true, Bool.not_false, startD, List.map_cons, List.map_nil, List.length_cons, List.length_nil, List.cons_append, List.nil_append, List.getElem?_cons_zero, List.getElem?_cons_succ, List.set_cons_zero, List.set_cons_succ, List.replicate, Nat.reduceAdd, Nat.reduceSub, Nat.zero_add, Nat.sub_self, Nat.add_sub_cancel, sForI, forStep, listD, seqD, wFz, wTruth, wiL, wiT, wiR, wiR2, wiET, wLcI, wDcI, wYes, wSortKI, wMakeI, sSetF, putFD, wMerge2, oEqDT, oBoolD, wListRg, wSMeth, oOwn2, wCutE, oRepL, wDIn, oLcm, wChain, kt_ii, kt_ib, kt_rr, wFld_e, wProp_e, ixr_lst, ixr_tup, ixr_tpk, w_is_int, w_within, w_asc, fld_flags, fld_odd, ins_rd, w_initT, w_initL, w_told, w_within, sWhile, w_modulus, w_chosen]; exact ⟨o, h⟩
    | .tup _, o => simp only [true_and, and_true, oU2, oUn1, oL1, oS1, oR1, oJust, iAdd, iSub, iMul, iFdiv, iMod, iEq, iNe, iLt, iLe, iGt, iGe, iNeg, iAbs, DL.iStr, wFmt, wJs, wJoined, sNext, sSeq, sDrop, sRet, sRetN, sIf, sAsg, sPar, wOp, wVar, wC, wUn, wCons, wNil, wCB, wCall, wMake, wMakeSw, wCallSw, oI, oI0, oU, wTest, wAnd, wOr, DL.wNot, wAndV, wOrV, wNotV, wIf, wTup, wLst, wLstM, gwName, gwNil, gwCons, gwTup, gwSub, oInt1, oAbsI, oLen, oGcd, oDivmod, oMax2, oMin2, oIsi, tyOf, clOf, oStrI, if_t1, if_f1, Bool.not_true, Bool.not_false, startD, List.map_cons, List.map_nil, List.length_cons, List.length_nil, List.cons_append, List.nil_append, List.getElem?_cons_zero, List.getElem?_cons_succ, List.set_cons_zero, List.set_cons_succ, List.replicate, Nat.reduceAdd, Nat.reduceSub, Nat.zero_add, Nat.sub_self, Nat.add_sub_cancel, sForI, forStep, listD, seqD, wFz, wTruth, wiL, wiT, wiR, wiR2, wiET, wLcI, wDcI, wYes, wSortKI, wMakeI, sSetF, putFD, wMerge2, oEqDT, oBoolD, wListRg, wSMeth, oOwn2, wCutE, oRepL, wDIn, oLcm, wChain, kt_ii, kt_ib, kt_rr, wFld_e, wProp_e, ixr_lst, ixr_tup, ixr_tpk, w_is_int, w_within, w_asc, fld_flags, fld_odd, ins_rd, w_initT, w_initL, w_told, w_within, sWhile, w_modulus, w_chosen]; exact ⟨o, h⟩
    | .lst _, o => simp only [true_and, and_true, oU2, oUn1, oL1, oS1, oR1, oJust, iAdd, iSub, iMul, iFdiv, iMod, iEq, iNe, iLt, iLe, iGt, iGe, iNeg, iAbs, DL.iStr, wFmt, wJs, wJoined, sNext, sSeq, sDrop, sRet, sRetN, sIf, sAsg, sPar, wOp, wVar, wC, wUn, wCons, wNil, wCB, wCall, wMake, wMakeSw, wCallSw, oI, oI0, oU, wTest, wAnd, wOr, DL.wNot, wAndV, wOrV, wNotV, wIf, wTup, wLst, wLstM, gwName, gwNil, gwCons, gwTup, gwSub, oInt1, oAbsI, oLen, oGcd, oDivmod, oMax2, oMin2, oIsi, tyOf, clOf, oStrI, if_t1, if_f1, Bool.not_true, Bool.not_false, startD, List.map_cons, List.map_nil, List.length_cons, List.length_nil, List.cons_append, List.nil_append, List.getElem?_cons_zero, List.getElem?_cons_succ, List.set_cons_zero, List.set_cons_succ, List.replicate, Nat.reduceAdd, Nat.reduceSub, Nat.zero_add, Nat.sub_self, Nat.add_sub_cancel, sForI, forStep, listD, seqD, wFz, wTruth, wiL, wiT, wiR, wiR2, wiET, wLcI, wDcI, wYes, wSortKI, wMakeI, sSetF, putFD, wMerge2, oEqDT, oBoolD, wListRg, wSMeth, oOwn2, wCutE, oRepL, wDIn, oLcm, wChain, kt_ii, kt_ib, kt_rr, wFld_e, wProp_e, ixr_lst, ixr_tup, ixr_tpk, w_is_int, w_within, w_asc, fld_flags, fld_odd, ins_rd, w_initT, w_initL, w_told, w_within, sWhile, w_modulus, w_chosen]; exact ⟨o, h⟩
    | .ins c fs, o => simp only [true_and, and_true, oU2, oUn1, oL1, oS1, oR1, oJust, iAdd, iSub, iMul, iFdiv, iMod, iEq, iNe, iLt, iLe, iGt, iGe, iNeg, iAbs, DL.iStr, wFmt, wJs, wJoined, sNext, sSeq, sDrop, sRet, sRetN, sIf, sAsg, sPar, wOp, wVar, wC, wUn, wCons, wNil, wCB, wCall, wMake, wMakeSw, wCallSw, oI, oI0, oU, wTest, wAnd, wOr, DL.wNot, wAndV, wOrV, wNotV, wIf, wTup, wLst, wLstM, gwName, gwNil, gwCons, gwTup, gwSub, oInt1, oAbsI, oLen, oGcd, oDivmod, oMax2, oMin2, oIsi, tyOf, clOf, oStrI, if_t1, if_f1, Bool.not_true, Bool.not_false, startD, List.map_cons, List.map_nil, List.length_cons, List.length_nil, List.cons_append, List.nil_append, List.getElem?_cons_zero, List.getElem?_cons_succ, List.set_cons_zero, List.set_cons_succ, List.replicate, Nat.reduceAdd, Nat.reduceSub, Nat.zero_add, Nat.sub_self, Nat.add_sub_cancel, sForI, forStep, listD, seqD, wFz, wTruth, wiL, wiT, wiR, wiR2, wiET, wLcI, wDcI, wYes, wSortKI, wMakeI, sSetF, putFD, wMerge2, oEqDT, oBoolD, wListRg, wSMeth, oOwn2, wCutE, oRepL, wDIn, oLcm, wChain, kt_ii, kt_ib, kt_rr, wFld_e, wProp_e, ixr_lst, ixr_tup, ixr_tpk, w_is_int, w_within, w_asc, fld_flags, fld_odd, ins_rd, w_initT, w_initL, w_told, w_within, sWhile, w_modulus, w_chosen]; exact ⟨o, h⟩
def w_combined : WF := fun ds S Q => ∃ r1 r2 t, ds = [rd r1, rd r2, tab t] ∧ Wf r1 ∧ Wf r2 ∧ Nat.lcm r1.1.length r2.1.length ≤ 5040 ∧
  ∀ odd : List Int, odd.Nodup → Up odd → (∀ n, n ∈ odd ↔ (n ∈ r1.2 ∨ n ∈ r2.2) ∧ pick t (mem r1 n) (mem r2 n) ≠ pick t (r1.1.getD (n % (r1.1.length : Int)).toNat false) (r2.1.getD (n % (r2.1.length : Int)).toNat false)) →
    Q (rd ((List.range (Nat.lcm r1.1.length r2.1.length)).map fun n => pick t (r1.1.getD (n % r1.1.length) false) (r2.1.getD (n % r2.1.length) false), odd)) S
theorem sc_combined : FnScope ["one", "two", "table", "modulus", "flags", "n", "either", "odd"] ["one", "two", "table"] (defScope s_combined) := ⟨rfl, rfl, rfl, by decide +kernel, rfl, by decide +kernel, by decide +kernel⟩
theorem ok_combined (T : Tx K mg) : FnOk P w K mg base CX0 6 T.f_combined T.fd_combined ["one", "two", "table"] (spW ⟨K, mg⟩ 3 w_combined) := by
  refine fnD (k := 5) T.F_combined sc_combined (fun cdv A outer s H E hr => ⟨_, (dss_cons (ds_set (i := 3) sc_combined.nd (d_callF cr_lcm snd_lcm T.g_lcm (da_cons (d_prop (dv 0) T.g_Rounds T.cl T.p_modulus (ok_modulus T) (hr.mono (by decide)) T.b_modulus) (da_cons (d_prop (dv 1) T.g_Rounds T.cl T.p_modulus (ok_modulus T) (hr.mono (by decide)) T.b_modulus) da_nil))))
  (dss_cons (ds_if (dt_cmp op_gt snd_iGt (dv 3) (d_globI T.g_MOST_MODULUS) (nomark _)) (dss_one ds_never) dss_nil)
  (dss_cons (ds_set (i := 4) sc_combined.nd (d_fz (d_lcI (own := [("n", 5)]) rfl sc_combined.nd (ii_range T.z_range (da_cons (dv 3) da_nil)) (blkOk_by (own := [("n", 5)]) (N := ["one", "two", "table", "modulus", "flags", "n", "either", "odd"]) (sc := defScope s_combined) (by decide +kernel)) (gown_name (by decide)) (fun _ _ _ _ _ => (dg_name (i := 5) sc_combined.nd)) (fun _ _ _ _ _ => dts_nil) (fun _ _ _ _ _ => (d_callC (ok_chosen T) (hr.mono (by decide)) T.m_chosen T.F_chosen.kp T.b_chosen (da_cons (dv 2) (da_cons (d_ixC (G' := ⟨K, mg⟩) (d_fldC (K' := K) (dv 0) T.g_Rounds T.cl T.na_flags) (d_op op_modN snd_iMod (dv 5) (d_propC (dv 0) T.g_Rounds T.cl T.p_modulus (ok_modulus T) (hr.mono (by decide)) T.b_modulus))) (da_cons (d_ixC (G' := ⟨K, mg⟩) (d_fldC (K' := K) (dv 1) T.g_Rounds T.cl T.na_flags) (d_op op_modN snd_iMod (dv 5) (d_propC (dv 1) T.g_Rounds T.cl T.p_modulus (ok_modulus T) (hr.mono (by decide)) T.b_modulus))) da_nil))))))))
  (dss_cons (ds_set (i := 6) sc_combined.nd (d_fz (d_merge2 (d_fld (dv 0) T.g_Rounds T.cl T.na_odd) (d_fld (dv 1) T.g_Rounds T.cl T.na_odd))))
  (dss_cons (ds_setL (i := 7) sc_combined.nd (p_fz (p_lcI (own := [("n", 5)]) rfl sc_combined.nd (ii_list (d_sortKI (dv 6) rfl (room_2 hr) T.z_sorted T.z_int)) (blkOk_by (own := [("n", 5)]) (N := ["one", "two", "table", "modulus", "flags", "n", "either", "odd"]) (sc := defScope s_combined) (by decide +kernel)) (gown_name (by decide)) (fun _ _ _ _ _ => (dg_name (i := 5) sc_combined.nd)) (fun _ _ _ _ _ => (dts_one (dt_cmp (op_neDC (K' := K) hr.units) snd_neD (d_callC (ok_chosen T) (hr.mono (by decide)) T.m_chosen T.F_chosen.kp T.b_chosen (da_cons (dv 2) (da_cons (d_cmp (op_ownIn T.M_contains (ok_contains T) (hr.mono (by decide)) T.b_contains) (snd_ownIn T.g_Rounds) (dv 5) (dv 0) (by first | exact nobehind _ (by decide) (by decide) | rfl | with_unfolding_all rfl)) (da_cons (d_cmp (op_ownIn T.M_contains (ok_contains T) (hr.mono (by decide)) T.b_contains) (snd_ownIn T.g_Rounds) (dv 5) (dv 1) (by first | exact nobehind _ (by decide) (by decide) | rfl | with_unfolding_all rfl)) da_nil)))) (d_ixC (G' := ⟨K, mg⟩) (dv 4) (d_op op_modN snd_iMod (dv 5) (dv 3))) (nomark _)))) (fun _ _ _ _ _ => (dv 5)))))
  (dss_one (ds_ret (d_fz (d_makeI T.mkk (ok_init_L T) (hr.mono (by decide)) T.g_Rounds T.b_init (da_cons (dv 4) (da_cons (dv 7) da_nil)))))))))))⟩) (fun ds S Q hl h => ?_)
  obtain ⟨r1, r2, t, rfl, w1, w2, hL, h⟩ := h
  simp only [true_and, and_true, oU2, oUn1, oL1, oS1, oR1, oJust, iAdd, iSub, iMul, iFdiv, iMod, iEq, iNe, iLt, iLe, iGt, iGe, iNeg, iAbs, DL.iStr, wFmt, wJs, wJoined, sNext, sSeq, sDrop, sRet, sRetN, sIf, sAsg, sPar, wOp, wVar, wC, wUn, wCons, wNil, wCB, wCall, wMake, wMakeSw, wCallSw, oI, oI0, oU, wTest, wAnd, wOr, DL.wNot, wAndV, wOrV, wNotV, wIf, wTup, wLst, wLstM, gwName, gwNil, gwCons, gwTup, gwSub, oInt1, oAbsI, oLen, oGcd, oDivmod, oMax2, oMin2, oIsi, tyOf, clOf, oStrI, if_t1, if_f1, Bool.not_true, Bool.not_false, startD, List.map_cons, List.map_nil, List.length_cons, List.length_nil, List.cons_append, List.nil_append, List.getElem?_cons_zero, List.getElem?_cons_succ, List.set_cons_zero, List.set_cons_succ, List.replicate, Nat.reduceAdd, Nat.reduceSub, Nat.zero_add, Nat.sub_self, Nat.add_sub_cancel, sForI, forStep, listD, seqD, wFz, wTruth, wiL, wiT, wiR, wiR2, wiET, wLcI, wDcI, wYes, wSortKI, wMakeI, sSetF, putFD, wMerge2, oEqDT, oBoolD, wListRg, wSMeth, oOwn2, wCutE, oRepL, wDIn, oLcm, wChain, kt_ii, kt_ib, kt_rr, wFld_e, wProp_e, ixr_lst, ixr_tup, ixr_tpk, w_is_int, w_within, w_asc, fld_flags, fld_odd, ins_rd, w_initT, w_initL, w_told, w_within, sWhile, w_modulus, w_chosen, w_contains, oOwnIn]
  refine ⟨r1, rfl, r2, rfl, (by have := w1.le; omega), (by have := w2.le; omega), ?_⟩
  have hLe : ((Nat.lcm (r1.1.length : Int).natAbs (r2.1.length : Int).natAbs : Nat) : Int) = (Nat.lcm r1.1.length r2.1.length : Nat) := by rw [Int.natAbs_natCast, Int.natAbs_natCast]
  rw [hLe]
  have hLp : 0 < Nat.lcm r1.1.length r2.1.length := Nat.lcm_pos w1.pos w2.pos
  generalize hl0 : Nat.lcm r1.1.length r2.1.length = L at *
  refine ifF (by omega) ⟨by omega, ?_⟩
  rw [show ((L : Nat) : Int).toNat = L from Int.toNat_natCast L]
  refine lcO_all (fun i : Nat => D.int (0 + i)) (fun n : Nat => D.bl (pick t (r1.1.getD (n % r1.1.length) false) (r2.1.getD (n % r2.1.length) false))) (List.range L) (fun _ => trivial) (line5 (by simp; omega)) loL_bl (fun n hn acc kk hl2 hkk => ?_) ?_
  · simp only [lcStep, wipeD, gwName, wYes, wCall, wCons, wNil, wVar, wOp, oJust, iMod, wFld_e, wProp_e, fld_flags, ins_rd, w_modulus, w_chosen, ixr_lst, if_t1, List.set_cons_zero, List.set_cons_succ, List.getElem?_cons_zero, List.getElem?_cons_succ]
    rw [if_pos trivial]
    refine ⟨r1, rfl, by have := w1.pos; omega, ?_⟩
    rw [Int.fmod_eq_emod_of_nonneg _ (by omega)]
    refine atOf (at_fl w1.pos) ⟨r2, rfl, by have := w2.pos; omega, ?_⟩
    rw [Int.fmod_eq_emod_of_nonneg _ (by omega)]
    refine atOf (at_fl w2.pos) ⟨rfl, t, _, _, rfl, acc_end hl2 ?_⟩
    rw [modN, modN]
    exact hkk
  have h1 : List.map (fun n : Nat => D.bl (pick t (r1.1.getD (n % r1.1.length) false) (r2.1.getD (n % r2.1.length) false))) (List.range L) = (FL t r1 r2 L).map D.bl := by
    unfold FL
    rw [List.map_map]
    rfl
  rw [h1]
  refine ⟨oddK r1.2, rfl, at_acc, line5 (by unfold oddK; have := w1.sz; simp; omega), oddK r2.2, oddK r1.2, rfl, by rw [set_acc, uni_nil w1.nd]; exact at_acc, line5 (by unfold oddK; have := w1.sz; have := w2.sz; simp; omega), ?_⟩
  rw [set_acc, set_acc, merge_uni]
  have hu := len_uni (b := r2.2) (a := r1.2)
  have un := nodup_uni (b := r2.2) w1.nd
  have um := fun k : Int => mem_uni (b := r2.2) (a := r1.2) (k := k)
  generalize uni r1.2 r2.2 = u at hu un um ⊢
  refine Fz.dict (loK_odd u) ⟨oddK u, u, rfl, intKeys_odd u, fun ys hp hw => ?_⟩
  have ym : ∀ k, k ∈ ys ↔ k ∈ r1.2 ∨ k ∈ r2.2 := fun k => hp.mem_iff.trans (um k)
  have yl : ys.length ≤ 2000 := by rw [hp.length_eq]; have := w1.sz; have := w2.sz; omega
  refine lcO_some D.int (fun n => if keepN t r1 r2 n then some (.int n) else none) ys (fun _ => trivial) (line5 (by omega)) (loL_keep ys) (fun n hn acc kk hl2 hkk => ?_) ?_
  · simp only [lcStep, wipeD, gwName, wTest, wCall, wCons, wNil, wVar, wOp, oJust, iMod, wFld_e, wProp_e, fld_flags, ins_rd, oOwnIn, w_contains, w_chosen, ixr_lst, if_t1, List.set_cons_zero, List.set_cons_succ, List.getElem?_cons_zero, List.getElem?_cons_succ]
    have n0 : 0 ≤ n := ((ym n).mp hn).elim (fun z => (w1.ge n z).1) fun z => (w2.ge n z).1
    have e1 : (false ^^ (decide (0 ≤ n) && mem r1 n)) = mem r1 n := by rw [decide_eq_true n0, Bool.true_and, Bool.false_xor]
    have e2 : (false ^^ (decide (0 ≤ n) && mem r2 n)) = mem r2 n := by rw [decide_eq_true n0, Bool.true_and, Bool.false_xor]
    refine ⟨⟨_, rfl⟩, r1, _, rfl, w1, .inl ⟨n, rfl, _, rfl, ⟨_, rfl⟩, r2, _, rfl, w2, .inl ⟨n, rfl, _, rfl, rfl, t, _, _, rfl, by omega, ?_⟩⟩⟩
    rw [Int.fmod_eq_emod_of_nonneg _ (by omega), e1, e2]
    refine atOf (at_flL FL_len hLp) (ne_bl ?_)
    rw [FL_at (mod_lt hLp), mod_mod w1.pos (hl0 ▸ Nat.dvd_lcm_left _ _) hLp, mod_mod w2.pos (hl0 ▸ Nat.dvd_lcm_right _ _) hLp]
    show if keepN t r1 r2 n = true then _ else _
    cases hk : keepN t r1 r2 n with
    | true =>
      rw [hk] at hkk
      exact acc_end hl2 hkk
    | false =>
      rw [hk] at hkk
      have hkk' : kk (S ++ [MO.l (acc ++ [])]) := hkk
      rw [List.append_nil] at hkk'
      exact hkk'
  · rw [keep_map]
    refine ⟨S.length, FL t r1 r2 L, ys.filter (keepN t r1 r2), rfl, at_acc, by unfold FL; simp; omega, ?_, (hp.nodup_iff.mpr un).filter _, made_rd (h _ ((hp.nodup_iff.mpr un).filter _) ((up_of hw (hp.nodup_iff.mpr un)).filter _) fun n => ?_)⟩
    · have := List.length_filter_le (keepN t r1 r2) ys
      omega
    · rw [List.mem_filter, ym]
      unfold keepN
      simp
end
end K1
set_option Elab.async false
set_option linter.all false
set_option maxRecDepth 100000
set_option maxHeartbeats 0
namespace K1
open PySem PySem.Spec PyProof.Rows L2 DL
section
variable {P : Program} {w : World} {K : PySem.W.Frag} {mg : Str → Option Value} {base : Heap}
/-! ### the next member -/
/-- the least number from a on of which p holds, or none -/
def NextS (p : Nat → Bool) (a : Nat) : Option Nat → Prop
  | none => ∀ n, a ≤ n → p n = false
  | some n => a ≤ n ∧ p n = true ∧ ∀ k, a ≤ k → k < n → p k = false
theorem nextS_uniq {p : Nat → Bool} {a : Nat} : ∀ {o q : Option Nat}, NextS p a o → NextS p a q → o = q
  | none, none, _, _ => rfl
  | none, some n, h, ⟨h1, h2, _⟩ => by rw [h n h1] at h2; cases h2
  | some n, none, ⟨h1, h2, _⟩, h => by rw [h n h1] at h2; cases h2
  | some n, some m, ⟨a1, a2, a3⟩, ⟨b1, b2, b3⟩ => by
    rcases Nat.lt_trichotomy n m with z | z | z
    · rw [b3 n a1 z] at a2; cases a2
    · rw [z]
    · rw [a3 m b1 z] at b2; cases b2
/-- the first k of them -/
def Nexts (p : Nat → Bool) : Nat → Nat → List Nat → Prop
  | _, 0, L => L = []
  | a, k + 1, L => (NextS p a none ∧ L = []) ∨ ∃ n M, NextS p a (some n) ∧ L = n :: M ∧ Nexts p (n + 1) k M
theorem nexts_uniq {p : Nat → Bool} : ∀ {k a : Nat} {L M : List Nat}, Nexts p a k L → Nexts p a k M → L = M
  | 0, _, L, M, h1, h2 => by
    have e1 : L = [] := h1
    have e2 : M = [] := h2
    rw [e1, e2]
  | k + 1, a, L, M, h1, h2 => by
    rcases h1 with ⟨h1, rfl⟩ | ⟨n, L', h1, rfl, r1⟩ <;> rcases h2 with ⟨h2, rfl⟩ | ⟨m, M', h2, rfl, r2⟩
    · rfl
    · cases nextS_uniq h1 h2
    · cases nextS_uniq h1 h2
    · cases nextS_uniq h1 h2
      rw [nexts_uniq r1 r2]
def flg (r : Rnd) (n : Nat) : Bool := r.1.getD (n % r.1.length) false
abbrev memN (r : Rnd) : Nat → Bool := fun n => mem r (n : Int)
theorem mem_flg {r : Rnd} {n : Nat} : mem r (n : Int) = (flg r n ^^ decide ((n : Int) ∈ r.2)) := by
  unfold mem flg
  rw [← Int.natCast_emod, Int.toNat_natCast]
theorem nextF_spec {f : List Bool} (h : 0 < f.length) (a : Nat) : match nextF f a with
    | none => ∀ n, a ≤ n → f.getD (n % f.length) false = false
    | some n => a ≤ n ∧ n < a + f.length ∧ f.getD (n % f.length) false = true ∧ ∀ k, a ≤ k → k < n → f.getD (k % f.length) false = false := by
  unfold nextF
  cases hf : (List.range f.length).find? fun i => f.getD ((a + i) % f.length) false with
  | none =>
    intro n hn
    rw [List.find?_eq_none] at hf
    have hm := Nat.mod_lt (n - a) h
    have e := hf ((n - a) % f.length) (List.mem_range.mpr hm)
    rw [Nat.add_mod_mod, show a + (n - a) = n by omega] at e
    exact Bool.eq_false_iff.mpr e
  | some i =>
    rw [List.find?_range_eq_some] at hf
    obtain ⟨h1, h2, h3⟩ := hf
    have hi := List.mem_range.mp h2
    refine ⟨by show a ≤ a + i; omega, by show a + i < _; omega, h1, fun k k1 k2 => ?_⟩
    have k2' : k < a + i := k2
    have e := h3 (k - a) (by omega)
    rw [show a + (k - a) = k by omega] at e
    simpa using e
/-- at i the next odd number, all before p looked at -/
structure Look (r : Rnd) (a i p : Nat) : Prop where
  il : i ≤ r.2.length
  ap : a ≤ p
  pl : p ≤ max a 1000001
  be : ∀ j v, r.2[j]? = some v → (v < (p : Int) ↔ j < i)
  cl : ∀ k, a ≤ k → k < p → mem r (k : Int) = false
theorem up_lt {ns : List Int} (up : Up ns) {i j : Nat} {u v : Int} (hu : ns[i]? = some u) (hv : ns[j]? = some v) (h : i < j) : u < v := by
  obtain ⟨hi, rfl⟩ := List.getElem?_eq_some_iff.mp hu
  obtain ⟨hj, rfl⟩ := List.getElem?_eq_some_iff.mp hv
  exact List.pairwise_iff_getElem.mp up i j hi hj h
/-- between p and the next odd number there is no odd one -/
theorem Look.no {r : Rnd} {a i p : Nat} (l : Look r a i p) (up : Up r.2) {v : Int} (hv : r.2[i]? = some v) {k : Nat} (h1 : p ≤ k) (h2 : (k : Int) < v) : (k : Int) ∉ r.2 := fun z => by
  obtain ⟨j, hj, e⟩ := List.getElem_of_mem z
  have hj' : r.2[j]? = some (k : Int) := by rw [List.getElem?_eq_getElem hj, e]
  have b := l.be j _ hj'
  rcases Nat.lt_trichotomy j i with q | q | q
  · have := b.mpr q
    omega
  · subst q
    rw [hv] at hj'
    cases hj'
    omega
  · have := up_lt up hv hj' q
    omega
theorem Look.no' {r : Rnd} {a p : Nat} (l : Look r a r.2.length p) {k : Nat} (h1 : p ≤ k) : (k : Int) ∉ r.2 := fun z => by
  obtain ⟨j, hj, e⟩ := List.getElem_of_mem z
  have hj' : r.2[j]? = some (k : Int) := by rw [List.getElem?_eq_getElem hj, e]
  have := (l.be j _ hj').mpr hj
  omega
theorem mem_no {r : Rnd} {k : Nat} (h : (k : Int) ∉ r.2) : mem r (k : Int) = flg r k := by rw [mem_flg, decide_eq_false h, Bool.xor_false]
theorem mem_yes {r : Rnd} {k : Nat} (h : (k : Int) ∈ r.2) : mem r (k : Int) = !flg r k := by rw [mem_flg, decide_eq_true h, Bool.xor_true]
/-- the rule's next number comes before the next odd one -/
theorem Look.reg {r : Rnd} {a i p : Nat} (l : Look r a i p) (up : Up r.2) {v : Int} (hv : r.2[i]? = some v) {n : Nat} (h0 : 0 < r.1.length) (hn : nextF r.1 p = some n) (h : (n : Int) < v) : NextS (memN r) a (some n) := by
  have s := nextF_spec h0 p
  rw [hn] at s
  obtain ⟨s1, s2, s3, s4⟩ := s
  refine ⟨Nat.le_trans l.ap s1, ?_, fun k k1 k2 => ?_⟩
  · show mem r (n : Int) = true
    rw [mem_no (l.no up hv s1 h)]
    exact s3
  · show mem r (k : Int) = false
    by_cases q : k < p
    · exact l.cl k k1 q
    · rw [mem_no (l.no up hv (by omega) (by omega))]
      exact s4 k (by omega) k2
/-- the next odd number comes first -/
theorem Look.odd {r : Rnd} {a i p v : Nat} (l : Look r a i p) (up : Up r.2) (hv : r.2[i]? = some (v : Int)) (h0 : 0 < r.1.length) (h : ∀ n, nextF r.1 p = some n → v < n) : NextS (memN r) a (some v) := by
  have s := nextF_spec h0 p
  have pv : p ≤ v := by
    have := l.be i _ hv
    omega
  have fl : ∀ k, p ≤ k → k ≤ v → flg r k = false := fun k k1 k2 => by
    cases hc : nextF r.1 p with
    | none => rw [hc] at s; exact s k k1
    | some n => rw [hc] at s; exact s.2.2.2 k k1 (by have := h n hc; omega)
  refine ⟨Nat.le_trans l.ap pv, ?_, fun k k1 k2 => ?_⟩
  · show mem r (v : Int) = true
    rw [mem_yes (List.mem_of_getElem? hv), fl v pv (Nat.le_refl _)]
    rfl
  · show mem r (k : Int) = false
    by_cases q : k < p
    · exact l.cl k k1 q
    · rw [mem_no (l.no up hv (by omega) (by omega))]
      exact fl k (by omega) (by omega)
/-- both at once: it is left out, and the look goes on -/
theorem Look.both {r : Rnd} {a i p v : Nat} (l : Look r a i p) (up : Up r.2) (hv : r.2[i]? = some (v : Int)) (hb : v ≤ 1000000) (h0 : 0 < r.1.length) (h : nextF r.1 p = some v) : Look r a (i + 1) (v + 1) := by
  have s := nextF_spec h0 p
  rw [h] at s
  obtain ⟨s1, s2, s3, s4⟩ := s
  have il := (List.getElem?_eq_some_iff.mp hv).1
  refine ⟨il, by have := l.ap; omega, by omega, fun j u hu => ?_, fun k k1 k2 => ?_⟩
  · rcases Nat.lt_trichotomy j i with q | q | q
    · have := up_lt up hu hv q
      omega
    · subst q
      rw [hu] at hv
      cases hv
      omega
    · have := up_lt up hv hu q
      omega
  · by_cases q : k < p
    · exact l.cl k k1 q
    · by_cases e : k = v
      · subst e
        rw [mem_yes (List.mem_of_getElem? hv)]
        have s3' : flg r k = true := s3
        rw [s3']
        rfl
      · rw [mem_no (l.no up hv (by omega) (by omega))]
        exact s4 k (by omega) (by omega)
/-- behind all odd numbers -/
theorem Look.fin {r : Rnd} {a p : Nat} (l : Look r a r.2.length p) (h0 : 0 < r.1.length) : NextS (memN r) a (nextF r.1 p) := by
  have s := nextF_spec h0 p
  have m : ∀ k, p ≤ k → mem r (k : Int) = flg r k := fun k hk => mem_no (l.no' hk)
  cases hc : nextF r.1 p with
  | none =>
    rw [hc] at s
    intro n hn
    show mem r (n : Int) = false
    by_cases q : n < p
    · exact l.cl n hn q
    · rw [m n (by omega)]
      exact s n (by omega)
  | some n =>
    rw [hc] at s
    obtain ⟨s1, s2, s3, s4⟩ := s
    refine ⟨Nat.le_trans l.ap s1, (m n s1).trans s3, fun k k1 k2 => ?_⟩
    show mem r (k : Int) = false
    by_cases q : k < p
    · exact l.cl k k1 q
    · rw [m k (by omega)]
      exact s4 k (by omega) k2
theorem nextF_le {f : List Bool} {a n : Nat} (h0 : 0 < f.length) (h : nextF f a = some n) : n < a + f.length := by
  have s := nextF_spec h0 a
  rw [h] at s
  exact s.2.1
theorem look_start {r : Rnd} (up : Up r.2) (a : Nat) : Look r a (below r.2 a) a := ⟨below_le _, Nat.le_refl _, by omega, fun j v hv => below_iff up j v hv, fun k k1 k2 => by omega⟩
theorem eqv_int (a b : Int) : PyData.eqv (.int a) (.int b) = decide (a = b) := by
  show (a == b) = _
  exact Bool.beq_eq_decide_eq a b
theorem ne_int {a b : Int} {S : MS} {Q : D → MS → Prop} (q : Q (.bl (!decide (a = b))) S) : oNeD (.int a) (.int b) S Q := ⟨.int a, .int b, rfl, rfl, rfl, rfl, by rw [eqv_int]; exact q⟩
theorem ne_non {b : Int} {S : MS} {Q : D → MS → Prop} (q : Q (.bl true) S) : oNeD .non (.int b) S Q := ⟨.none, .int b, rfl, rfl, rfl, rfl, q⟩
def w_next : WF := fun ds S Q => ∃ (r : Rnd) (a : Nat), ds = [.lst (r.1.map D.bl), .lst (r.2.map D.int), .int a] ∧ Wf r ∧ a ≤ 1500000000 ∧ ∀ o, NextS (memN r) a o → (∀ n, o = some n → n ≤ max a 1000001 + 5040) → Q (optD o) S
theorem sc_next_member : FnScope ["flags", "odd", "first", "at", "place", "regular"] ["flags", "odd", "first"] (defScope s_next_member) := ⟨rfl, rfl, rfl, by decide +kernel, rfl, by decide +kernel, by decide +kernel⟩
theorem ok_next_member (T : Tx K mg) : FnOk P w K mg base CX0 3 T.f_next_member T.fd_next_member ["flags", "odd", "first"] (spW ⟨K, mg⟩ 3 w_next) := by
  refine fnD (k := 2) T.F_next_member sc_next_member (fun cdv A outer s H E hr => ⟨_, (dss_cons (ds_set (i := 3) sc_next_member.nd (d_call (ok_index_from T) (hr.mono (by decide)) T.m_index_from T.F_index_from.kp T.b_index_from (da_cons (dv 1) (da_cons (dv 2) da_nil))))
  (dss_cons (ds_set (i := 4) sc_next_member.nd (dv 2))
  (dss_cons (ds_while PassesOwn.never (dt_cmp op_lt snd_iLt (dv 3) (d_callB call_len_seq snd_len T.z_len (da_cons (dv 1) da_nil) (hv := bt_len)) (nomark _)) (dss_cons (ds_set (i := 5) sc_next_member.nd (d_call (ok_next_flagged T) (hr.mono (by decide)) T.m_next_flagged T.F_next_flagged.kp T.b_next_flagged (da_cons (dv 0) (da_cons (dv 4) da_nil))))
  (dss_cons (ds_if (PDW.pt (dw_and (dt_cmp op_notN snd_notI (dv 5) d_non (nomark _)) (dw_and1 (dt_cmp op_lt snd_iLt (dv 5) (d_ix (dv 1) (dv 3)) (nomark _))))) (dss_one (ds_ret (dv 5))) dss_nil)
  (dss_cons (ds_if (dt_cmp (op_neD hr.units) snd_neD (dv 5) (d_ix (dv 1) (dv 3)) (nomark _)) (dss_one (ds_ret (d_ix (dv 1) (dv 3)))) dss_nil)
  (dss_cons (ds_set (i := 4) sc_next_member.nd (d_op op_add snd_iAdd (d_ix (dv 1) (dv 3)) d_int))
  (dss_one (ds_set (i := 3) sc_next_member.nd (d_op op_add snd_iAdd (dv 3) d_int))))))))
  (dss_one (ds_ret (d_call (ok_next_flagged T) (hr.mono (by decide)) T.m_next_flagged T.F_next_flagged.kp T.b_next_flagged (da_cons (dv 0) (da_cons (dv 4) da_nil))))))))⟩) (fun ds S Q hl h => ?_)
  obtain ⟨r, a, rfl, wf, a1, h⟩ := h
  refine seqG fun R hR => ?_
  simp only [true_and, and_true, oU2, oUn1, oL1, oS1, oR1, oJust, iAdd, iSub, iMul, iFdiv, iMod, iEq, iNe, iLt, iLe, iGt, iGe, iNeg, iAbs, DL.iStr, wFmt, wJs, wJoined, sNext, sSeq, sDrop, sRet, sRetN, sIf, sAsg, sPar, wOp, wVar, wC, wUn, wCons, wNil, wCB, wCall, wMake, wMakeSw, wCallSw, oI, oI0, oU, wTest, wAnd, wOr, DL.wNot, wAndV, wOrV, wNotV, wIf, wTup, wLst, wLstM, gwName, gwNil, gwCons, gwTup, gwSub, oInt1, oAbsI, oLen, oGcd, oDivmod, oMax2, oMin2, oIsi, tyOf, clOf, oStrI, if_t1, if_f1, Bool.not_true, Bool.not_false, startD, List.map_cons, List.map_nil, List.length_cons, List.length_nil, List.cons_append, List.nil_append, List.getElem?_cons_zero, List.getElem?_cons_succ, List.set_cons_zero, List.set_cons_succ, List.replicate, Nat.reduceAdd, Nat.reduceSub, Nat.zero_add, Nat.sub_self, Nat.add_sub_cancel, sForI, forStep, listD, seqD, wFz, wTruth, wiL, wiT, wiR, wiR2, wiET, wLcI, wDcI, wYes, wSortKI, wMakeI, sSetF, putFD, wMerge2, oEqDT, oBoolD, wListRg, wSMeth, oOwn2, wCutE, oRepL, wDIn, oLcm, wChain, kt_ii, kt_ib, kt_rr, wFld_e, wProp_e, ixr_lst, ixr_tup, ixr_tpk, w_is_int, w_within, w_asc, fld_flags, fld_odd, ins_rd, w_initT, w_initL, w_told, w_within, sWhile, w_modulus, w_chosen, w_contains, oOwnIn, w_index, w_nextf, oNotI]
  refine ⟨r.2, a, rfl, wf.up, by have := wf.sz; omega, ?_⟩
  subst hR
  simp only [true_and, and_true, oU2, oUn1, oL1, oS1, oR1, oJust, iAdd, iSub, iMul, iFdiv, iMod, iEq, iNe, iLt, iLe, iGt, iGe, iNeg, iAbs, DL.iStr, wFmt, wJs, wJoined, sNext, sSeq, sDrop, sRet, sRetN, sIf, sAsg, sPar, wOp, wVar, wC, wUn, wCons, wNil, wCB, wCall, wMake, wMakeSw, wCallSw, oI, oI0, oU, wTest, wAnd, wOr, DL.wNot, wAndV, wOrV, wNotV, wIf, wTup, wLst, wLstM, gwName, gwNil, gwCons, gwTup, gwSub, oInt1, oAbsI, oLen, oGcd, oDivmod, oMax2, oMin2, oIsi, tyOf, clOf, oStrI, if_t1, if_f1, Bool.not_true, Bool.not_false, startD, List.map_cons, List.map_nil, List.length_cons, List.length_nil, List.cons_append, List.nil_append, List.getElem?_cons_zero, List.getElem?_cons_succ, List.set_cons_zero, List.set_cons_succ, List.replicate, Nat.reduceAdd, Nat.reduceSub, Nat.zero_add, Nat.sub_self, Nat.add_sub_cancel, sForI, forStep, listD, seqD, wFz, wTruth, wiL, wiT, wiR, wiR2, wiET, wLcI, wDcI, wYes, wSortKI, wMakeI, sSetF, putFD, wMerge2, oEqDT, oBoolD, wListRg, wSMeth, oOwn2, wCutE, oRepL, wDIn, oLcm, wChain, kt_ii, kt_ib, kt_rr, wFld_e, wProp_e, ixr_lst, ixr_tup, ixr_tpk, w_is_int, w_within, w_asc, fld_flags, fld_odd, ins_rd, w_initT, w_initL, w_told, w_within, sWhile, w_modulus, w_chosen, w_contains, oOwnIn, w_index, w_nextf, oNotI]
  refine ⟨fun m ρ S' => S' = S ∧ ∃ (i p : Nat) (o : Option D), ρ = [some (.lst (r.1.map D.bl)), some (.lst (r.2.map D.int)), some (.int a), some (.int i), some (.int p), o] ∧ Look r a i p ∧ m = r.2.length - i, ⟨_, rfl, _, a, none, rfl, look_start wf.up a, rfl⟩, ?_⟩
  rintro m ρ S' ⟨rfl, i, p, o, rfl, lk, rfl⟩
  simp only [true_and, and_true, oU2, oUn1, oL1, oS1, oR1, oJust, iAdd, iSub, iMul, iFdiv, iMod, iEq, iNe, iLt, iLe, iGt, iGe, iNeg, iAbs, DL.iStr, wFmt, wJs, wJoined, sNext, sSeq, sDrop, sRet, sRetN, sIf, sAsg, sPar, wOp, wVar, wC, wUn, wCons, wNil, wCB, wCall, wMake, wMakeSw, wCallSw, oI, oI0, oU, wTest, wAnd, wOr, DL.wNot, wAndV, wOrV, wNotV, wIf, wTup, wLst, wLstM, gwName, gwNil, gwCons, gwTup, gwSub, oInt1, oAbsI, oLen, oGcd, oDivmod, oMax2, oMin2, oIsi, tyOf, clOf, oStrI, if_t1, if_f1, Bool.not_true, Bool.not_false, startD, List.map_cons, List.map_nil, List.length_cons, List.length_nil, List.cons_append, List.nil_append, List.getElem?_cons_zero, List.getElem?_cons_succ, List.set_cons_zero, List.set_cons_succ, List.replicate, Nat.reduceAdd, Nat.reduceSub, Nat.zero_add, Nat.sub_self, Nat.add_sub_cancel, sForI, forStep, listD, seqD, wFz, wTruth, wiL, wiT, wiR, wiR2, wiET, wLcI, wDcI, wYes, wSortKI, wMakeI, sSetF, putFD, wMerge2, oEqDT, oBoolD, wListRg, wSMeth, oOwn2, wCutE, oRepL, wDIn, oLcm, wChain, kt_ii, kt_ib, kt_rr, wFld_e, wProp_e, ixr_lst, ixr_tup, ixr_tpk, w_is_int, w_within, w_asc, fld_flags, fld_odd, ins_rd, w_initT, w_initL, w_told, w_within, sWhile, w_modulus, w_chosen, w_contains, oOwnIn, w_index, w_nextf, oNotI]
  have le1 := wf.le
  have h0 := wf.pos
  have pl := lk.pl
  by_cases c : (i : Int) < (r.2.map D.int).length
  · refine ifT' c ⟨r.1, p, rfl, h0, le1, by omega, ?_⟩
    have ci : i < r.2.length := by rw [List.length_map] at c; omega
    obtain ⟨v, hv, v1⟩ : ∃ v : Nat, r.2[i]? = some (v : Int) ∧ v ≤ 1000000 := by
      have g := wf.ge _ (List.getElem_mem ci)
      exact ⟨r.2[i].toNat, by rw [List.getElem?_eq_getElem ci, Int.toNat_of_nonneg g.1], by omega⟩
    have at_ : L2.atI (r.2.map D.int) (i : Int) = some (.int (v : Int)) := atI_nat (by rw [List.getElem?_map, hv]; rfl)
    cases hc : nextF r.1 p with
    | none =>
      dsimp only [optD]
      refine atOf at_ (ne_non ?_)
      dsimp only
      rw [if_pos rfl]
      exact atOf at_ (h (some v) (lk.odd wf.up hv h0 fun n hn => by rw [hc] at hn; cases hn) fun n e => by cases e; omega)
    | some n =>
      dsimp only [optD]
      rw [if_pos trivial]
      refine atOf at_ ?_
      dsimp only
      by_cases q : (n : Int) < v
      · refine ifT' q (h (some n) (lk.reg wf.up hv h0 hc q) fun k e => ?_)
        cases e
        have := nextF_le h0 hc
        omega
      · refine ifF' q (atOf at_ (ne_int ?_))
        dsimp only
        by_cases q2 : (n : Int) = v
        · rw [decide_eq_true q2, if_neg (by decide)]
          have e : n = v := by omega
          subst e
          exact atOf at_ ⟨_, by omega, rfl, i + 1, n + 1, _, rfl, lk.both wf.up hv v1 h0 hc, rfl⟩
        · rw [decide_eq_false q2, if_pos (by rfl)]
          exact atOf at_ (h (some v) (lk.odd wf.up hv h0 fun k hk => by rw [hc] at hk; cases hk; omega) fun k e => by cases e; omega)
  · refine ifF' c ⟨r.1, p, rfl, h0, le1, by omega, ?_⟩
    have e : i = r.2.length := by rw [List.length_map] at c; have := lk.il; omega
    subst e
    exact h _ (lk.fin h0) fun n e => by have := nextF_le h0 e; omega
end
end K1
set_option Elab.async false
set_option linter.all false
set_option maxRecDepth 100000
set_option maxHeartbeats 0
namespace K1
open PySem PySem.Spec PyProof.Rows L2 DL
section
variable {P : Program} {w : World} {K : PySem.W.Frag} {mg : Str → Option Value} {base : Heap}
/-! ### lists of truth values compared -/
theorem eqv_bools : ∀ a b : List Bool, PyData.eqvAll (a.map PyData.bool) (b.map PyData.bool) = decide (a = b)
  | [], [] => rfl
  | [], _ :: _ => rfl
  | _ :: _, [] => rfl
  | x :: a, y :: b => by
    show (PyData.eqv (.bool x) (.bool y) && PyData.eqvAll (a.map PyData.bool) (b.map PyData.bool)) = _
    rw [eqv_bools a b]
    show ((x == y) && decide (a = b)) = _
    cases x <;> cases y <;> simp
theorem lay_bools : ∀ a : List Bool, PyData.canLayAll0 (a.map PyData.bool) = true
  | [] => rfl
  | x :: a => by
    show (PyData.canLay0 (.bool x) && PyData.canLayAll0 (a.map PyData.bool)) = true
    rw [lay_bools a]
    rfl
theorem dep_bools : ∀ a : List Bool, PyData.depthAll (a.map PyData.bool) = 0
  | [] => rfl
  | x :: a => by
    show max (PyData.depth (.bool x)) (PyData.depthAll (a.map PyData.bool)) = 0
    rw [dep_bools a]
    rfl
theorem datL_bools (S : MS) : ∀ a : List Bool, datL S (a.map D.bl) = some (a.map PyData.bool)
  | [] => rfl
  | x :: a => by
    show (match dat S (.bl x), datL S (a.map D.bl) with
      | some p, some l => some (p :: l)
      | _, _ => none) = _
    rw [datL_bools S a]
    rfl

theorem nodup_sub_len : ∀ {a b : List Int}, a.Nodup → (∀ n ∈ a, n ∈ b) → a.length ≤ b.length
  | [], _, _, _ => Nat.zero_le _
  | x :: a, b, h, hs => by
    have hx : x ∈ b := hs x List.mem_cons_self
    have h2 := nodup_sub_len (a := a) (b := b.erase x) (List.nodup_cons.mp h).2 fun n hn => by
      have ne : n ≠ x := fun e => (List.nodup_cons.mp h).1 (e ▸ hn)
      exact (List.mem_erase_of_ne ne).mpr (hs n (List.mem_cons_of_mem _ hn))
    rw [List.length_erase_of_mem hx] at h2
    have := List.length_pos_of_mem hx
    rw [List.length_cons]
    omega

theorem lt_log2 {n k : Nat} (h0 : 0 < k) (h : n < 2 ^ k) : n.log2 < k := PySem.Flt.log2_lt_of h0 h

theorem cut_upto (l : List D) (n : Nat) : DL.cutD l none (some (n : Int)) = l.take n := by
  unfold DL.cutD
  rw [HT.sIx_nat, HT.sIx_none, List.drop_zero, Nat.sub_zero]
  by_cases h : n ≤ l.length
  · rw [Nat.min_eq_left h]
  · rw [Nat.min_eq_right (by omega), List.take_of_length_le (by omega), List.take_of_length_le (by omega)]

theorem isi_rr {r : Rnd} {S : MS} {Q : D → MS → Prop} : oIsi kt [rd r, .cls "Rounds"] S Q = Q (.bl true) S := by
  show (match some (TyK.cls "Rounds"), some (TyK.cls "Rounds") with
    | some a, some b => (match kt a b with | some r => Q (.bl r) S | none => False)
    | _, _ => False) = _
  dsimp only
  rw [kt_rr]
theorem datM_bools (S : MS) (a : List Bool) : datM S (.lst (a.map D.bl)) = some (.list (a.map PyData.bool)) := by
  show (datL S (a.map D.bl)).map PyData.list = _
  rw [datL_bools]
  rfl
theorem shaped_bools (a : List Bool) : SeqAt.shaped (.list (a.map PyData.bool)) = true := by
  unfold SeqAt.shaped
  have c : PyData.canLay0 (.list (a.map PyData.bool)) = true := lay_bools a
  have d : PyData.depth (.list (a.map PyData.bool)) ≤ 64 := by
    show PyData.depthAll (a.map PyData.bool) + 1 ≤ 64
    rw [dep_bools]
    decide
  rw [c, decide_eq_true d]
  rfl
theorem any_bools (x : Bool) : ∀ a : List Bool, ((a.map PyData.bool).any fun z => PyData.eqv z (.bool x)) = a.contains x
  | [] => rfl
  | y :: a => by
    rw [List.map_cons, List.any_cons, any_bools x a, List.contains_cons]
    show ((y == x) || a.contains x) = _
    cases x <;> cases y <;> rfl
theorem in_bl {x : Bool} {a : List Bool} {S : MS} {Q : D → MS → Prop} (q : Q (.bl (a.contains x)) S) : oInD (.bl x) (.lst (a.map D.bl)) S Q :=
  ⟨.bool x, a.map PyData.bool, rfl, datM_bools S a, by cases x <;> rfl, shaped_bools a, by rw [any_bools]; exact q⟩
def w_op (t : Tab) : WF := fun ds S Q => ∃ r1 r2, ds = [rd r1, rd r2] ∧ w_combined [rd r1, rd r2, tab t] S Q
def w_or : WF := w_op (false, true, true, true)
theorem sc_or : FnScope ["self", "other"] ["self", "other"] (defScope s_or) := ⟨rfl, rfl, rfl, by decide +kernel, rfl, by decide +kernel, by decide +kernel⟩
theorem ok_or (T : Tx K mg) : FnOk P w K mg base CX0 7 T.f_or T.fd_or ["self", "other"] (spW ⟨K, mg⟩ 2 w_or) := by
  refine fnD (k := 6) T.F_or sc_or (fun cdv A outer s H E hr => ⟨_, (dss_cons (ds_if (dt_not (dt_val (d_callB call_isi (snd_isi T.isi) T.z_isinstance (da_cons (dv 1) (da_cons (d_cls T.g_Rounds) da_nil)) (hv := bt_isinstance)))) (dss_one ds_never) dss_nil)
  (dss_one (ds_ret (d_call (ok_combined T) (hr.mono (by decide)) T.m_combined T.F_combined.kp T.b_combined (da_cons (dv 0) (da_cons (dv 1) (da_cons (d_globT T.g_IN_ONE_AT_LEAST T.kt_IN_ONE_AT_LEAST (fun _ _ => .cons (.bl _) (.cons (.bl _) (.cons (.bl _) (.cons (.bl _) .nil))))) da_nil)))))))⟩) (fun ds S Q hl h => ?_)
  obtain ⟨r1, r2, rfl, h⟩ := h
  simp only [true_and, and_true, oU2, oUn1, oL1, oS1, oR1, oJust, iAdd, iSub, iMul, iFdiv, iMod, iEq, iNe, iLt, iLe, iGt, iGe, iNeg, iAbs, DL.iStr, wFmt, wJs, wJoined, sNext, sSeq, sDrop, sRet, sRetN, sIf, sAsg, sPar, wOp, wVar, wC, wUn, wCons, wNil, wCB, wCall, wMake, wMakeSw, wCallSw, oI, oI0, oU, wTest, wAnd, wOr, DL.wNot, wAndV, wOrV, wNotV, wIf, wTup, wLst, wLstM, gwName, gwNil, gwCons, gwTup, gwSub, oInt1, oAbsI, oLen, oGcd, oDivmod, oMax2, oMin2, oStrI, if_t1, if_f1, Bool.not_true, Bool.not_false, startD, List.map_cons, List.map_nil, List.length_cons, List.length_nil, List.cons_append, List.nil_append, List.getElem?_cons_zero, List.getElem?_cons_succ, List.set_cons_zero, List.set_cons_succ, List.replicate, Nat.reduceAdd, Nat.reduceSub, Nat.zero_add, Nat.sub_self, Nat.add_sub_cancel, sForI, forStep, listD, seqD, wFz, wTruth, wiL, wiT, wiR, wiR2, wiET, wLcI, wDcI, wYes, wSortKI, wMakeI, sSetF, putFD, wMerge2, oEqDT, oBoolD, wListRg, wSMeth, oOwn2, wCutE, oRepL, wDIn, oLcm, wChain, kt_ii, kt_ib, kt_rr, wFld_e, wProp_e, ixr_lst, ixr_tup, ixr_tpk, w_is_int, w_within, w_asc, fld_flags, fld_odd, ins_rd, w_initT, w_initL, w_told, w_within, sWhile, w_modulus, w_chosen, w_contains, oOwnIn, w_index, w_nextf, oNotI, isi_rr]
  exact h
def w_xor : WF := w_op (false, true, true, false)
theorem sc_xor : FnScope ["self", "other"] ["self", "other"] (defScope s_xor) := ⟨rfl, rfl, rfl, by decide +kernel, rfl, by decide +kernel, by decide +kernel⟩
theorem ok_xor (T : Tx K mg) : FnOk P w K mg base CX0 7 T.f_xor T.fd_xor ["self", "other"] (spW ⟨K, mg⟩ 2 w_xor) := by
  refine fnD (k := 6) T.F_xor sc_xor (fun cdv A outer s H E hr => ⟨_, (dss_cons (ds_if (dt_not (dt_val (d_callB call_isi (snd_isi T.isi) T.z_isinstance (da_cons (dv 1) (da_cons (d_cls T.g_Rounds) da_nil)) (hv := bt_isinstance)))) (dss_one ds_never) dss_nil)
  (dss_one (ds_ret (d_call (ok_combined T) (hr.mono (by decide)) T.m_combined T.F_combined.kp T.b_combined (da_cons (dv 0) (da_cons (dv 1) (da_cons (d_globT T.g_IN_JUST_ONE T.kt_IN_JUST_ONE (fun _ _ => .cons (.bl _) (.cons (.bl _) (.cons (.bl _) (.cons (.bl _) .nil))))) da_nil)))))))⟩) (fun ds S Q hl h => ?_)
  obtain ⟨r1, r2, rfl, h⟩ := h
  simp only [true_and, and_true, oU2, oUn1, oL1, oS1, oR1, oJust, iAdd, iSub, iMul, iFdiv, iMod, iEq, iNe, iLt, iLe, iGt, iGe, iNeg, iAbs, DL.iStr, wFmt, wJs, wJoined, sNext, sSeq, sDrop, sRet, sRetN, sIf, sAsg, sPar, wOp, wVar, wC, wUn, wCons, wNil, wCB, wCall, wMake, wMakeSw, wCallSw, oI, oI0, oU, wTest, wAnd, wOr, DL.wNot, wAndV, wOrV, wNotV, wIf, wTup, wLst, wLstM, gwName, gwNil, gwCons, gwTup, gwSub, oInt1, oAbsI, oLen, oGcd, oDivmod, oMax2, oMin2, oStrI, if_t1, if_f1, Bool.not_true, Bool.not_false, startD, List.map_cons, List.map_nil, List.length_cons, List.length_nil, List.cons_append, List.nil_append, List.getElem?_cons_zero, List.getElem?_cons_succ, List.set_cons_zero, List.set_cons_succ, List.replicate, Nat.reduceAdd, Nat.reduceSub, Nat.zero_add, Nat.sub_self, Nat.add_sub_cancel, sForI, forStep, listD, seqD, wFz, wTruth, wiL, wiT, wiR, wiR2, wiET, wLcI, wDcI, wYes, wSortKI, wMakeI, sSetF, putFD, wMerge2, oEqDT, oBoolD, wListRg, wSMeth, oOwn2, wCutE, oRepL, wDIn, oLcm, wChain, kt_ii, kt_ib, kt_rr, wFld_e, wProp_e, ixr_lst, ixr_tup, ixr_tpk, w_is_int, w_within, w_asc, fld_flags, fld_odd, ins_rd, w_initT, w_initL, w_told, w_within, sWhile, w_modulus, w_chosen, w_contains, oOwnIn, w_index, w_nextf, oNotI, isi_rr]
  exact h
def w_bool : WF := fun ds S Q => ∃ r : Rnd, ds = [rd r] ∧ r.1.length ≤ 5040 ∧ Q (.bl (r.1.contains true || !r.2.isEmpty)) S
theorem sc_bool : FnScope ["self"] ["self"] (defScope s_bool) := ⟨rfl, rfl, rfl, by decide +kernel, rfl, by decide +kernel, by decide +kernel⟩
theorem ok_bool (T : Tx K mg) : FnOk P w K mg base CX0 4 T.f_bool T.fd_bool ["self"] (spW ⟨K, mg⟩ 1 w_bool) := by
  refine fnD (k := 3) T.F_bool sc_bool (fun cdv A outer s H E hr => ⟨_, (dss_one (ds_ret (d_or (d_cmp (op_inD (room65 hr)) snd_inD d_bl (d_fld (dv 0) T.g_Rounds T.cl T.na_flags) (by first | exact nobehind _ (by decide) (by decide) | rfl | with_unfolding_all rfl)) (d_one (d_callTy call_boolD snd_boolD T.z_bool (da_cons (d_fld (dv 0) T.g_Rounds T.cl T.na_odd) da_nil) (hv := bt_bool))))))⟩) (fun ds S Q hl h => ?_)
  obtain ⟨r, rfl, l, h⟩ := h
  simp only [true_and, and_true, oU2, oUn1, oL1, oS1, oR1, oJust, iAdd, iSub, iMul, iFdiv, iMod, iEq, iNe, iLt, iLe, iGt, iGe, iNeg, iAbs, DL.iStr, wFmt, wJs, wJoined, sNext, sSeq, sDrop, sRet, sRetN, sIf, sAsg, sPar, wOp, wVar, wC, wUn, wCons, wNil, wCB, wCall, wMake, wMakeSw, wCallSw, oI, oI0, oU, wTest, wAnd, wOr, DL.wNot, wAndV, wOrV, wNotV, wIf, wTup, wLst, wLstM, gwName, gwNil, gwCons, gwTup, gwSub, oInt1, oAbsI, oLen, oGcd, oDivmod, oMax2, oMin2, oStrI, if_t1, if_f1, Bool.not_true, Bool.not_false, startD, List.map_cons, List.map_nil, List.length_cons, List.length_nil, List.cons_append, List.nil_append, List.getElem?_cons_zero, List.getElem?_cons_succ, List.set_cons_zero, List.set_cons_succ, List.replicate, Nat.reduceAdd, Nat.reduceSub, Nat.zero_add, Nat.sub_self, Nat.add_sub_cancel, sForI, forStep, listD, seqD, wFz, wTruth, wiL, wiT, wiR, wiR2, wiET, wLcI, wDcI, wYes, wSortKI, wMakeI, sSetF, putFD, wMerge2, oEqDT, oBoolD, wListRg, wSMeth, oOwn2, wCutE, oRepL, wDIn, oLcm, wChain, kt_ii, kt_ib, kt_rr, wFld_e, wProp_e, ixr_lst, ixr_tup, ixr_tpk, w_is_int, w_within, w_asc, fld_flags, fld_odd, ins_rd, w_initT, w_initL, w_told, w_within, sWhile, w_modulus, w_chosen, w_contains, oOwnIn, w_index, w_nextf, oNotI, isi_rr]
  refine in_bl ?_
  dsimp only
  cases hc : r.1.contains true with
  | true =>
    rw [hc] at h
    exact h
  | false =>
    rw [hc] at h
    rw [if_neg Bool.false_ne_true]
    refine ⟨oddK r.2, rfl, ?_⟩
    rw [show (oddK r.2).isEmpty = r.2.isEmpty by unfold oddK; cases r.2 <;> rfl]
    exact h
theorem list_odd {ns : List Int} {S : MS} {Q : D → MS → Prop} (q : Q (.lst (ns.map D.int)) S) : oListD [.dct (oddK ns)] S Q := by
  have e : (oddK ns).map (fun kv => keyD kv.1) = ns.map D.int := by
    unfold oddK
    rw [List.map_map]
    rfl
  exact ⟨oddK ns, rfl, by rw [e]; exact q⟩
theorem ix_lst {S : MS} {ds : List D} {i : Int} {d : D} {Q : D → MS → Prop} (e : L2.atI ds i = some d) (q : Q d S) : oIx (.lst ds) (.int i) S Q := by
  rw [ixr_lst]
  unfold AtOf
  rw [e]
  exact q
theorem at_last {α : Type} {l : List α} {v : α} (h : l.getLast? = some v) : L2.atI l (-1) = some v := by
  have hl : 0 < l.length := by
    cases l with
    | nil => cases h
    | cons _ _ => simp
  show (ixN l.length (-1)).bind _ = _
  unfold ixN
  rw [if_neg (by decide), if_pos (by omega)]
  show l[((-1 : Int) + l.length).toNat]? = some v
  rw [show ((-1 : Int) + l.length).toNat = l.length - 1 by omega, ← List.getLast?_eq_getElem?]
  exact h
/-- the number from which on all numbers are members -/
def wholeD (r : Rnd) : D := if r.1.contains false then .non else match r.2.getLast? with
  | none => .int 0
  | some v => .int (v + 1)
def w_whole : WF := fun ds S Q => ∃ r : Rnd, ds = [rd r] ∧ Wf r ∧ Q (wholeD r) S
theorem sc_whole_from : FnScope ["self", "odd"] ["self"] (defScope s_whole_from) := ⟨rfl, rfl, rfl, by decide +kernel, rfl, by decide +kernel, by decide +kernel⟩
theorem ok_whole_from (T : Tx K mg) : FnOk P w K mg base CX0 4 T.f_whole_from T.fd_whole_from ["self"] (spW ⟨K, mg⟩ 1 w_whole) := by
  refine fnD (k := 3) T.F_whole_from sc_whole_from (fun cdv A outer s H E hr => ⟨_, (dss_cons (ds_if (dt_cmp (op_inD (room65 hr)) snd_inD d_bl (d_fld (dv 0) T.g_Rounds T.cl T.na_flags) (by with_unfolding_all rfl)) (dss_one (ds_ret d_non)) dss_nil)
  (dss_cons (ds_set (i := 1) sc_whole_from.nd (d_callTy (call_listD rfl) snd_listD T.z_list (da_cons (d_fld (dv 0) T.g_Rounds T.cl T.na_odd) da_nil) (hv := bt_list)))
  (dss_one (ds_ret (d_if (dt_truth (dv 1)) (d_op op_add snd_iAdd (d_ix (dv 1) (d_un un_neg (snd_rU fun _ _ _ => .int _) d_int)) d_int) d_int)))))⟩) (fun ds S Q hl h => ?_)
  obtain ⟨r, rfl, wf, h⟩ := h
  simp only [true_and, and_true, oU2, oUn1, oL1, oS1, oR1, oJust, iAdd, iSub, iMul, iFdiv, iMod, iEq, iNe, iLt, iLe, iGt, iGe, iNeg, iAbs, DL.iStr, wFmt, wJs, wJoined, sNext, sSeq, sDrop, sRet, sRetN, sIf, sAsg, sPar, wOp, wVar, wC, wUn, wCons, wNil, wCB, wCall, wMake, wMakeSw, wCallSw, oI, oI0, oU, wTest, wAnd, wOr, DL.wNot, wAndV, wOrV, wNotV, wIf, wTup, wLst, wLstM, gwName, gwNil, gwCons, gwTup, gwSub, oInt1, oAbsI, oLen, oGcd, oDivmod, oMax2, oMin2, oIsi, tyOf, clOf, oStrI, if_t1, if_f1, Bool.not_true, Bool.not_false, startD, List.map_cons, List.map_nil, List.length_cons, List.length_nil, List.cons_append, List.nil_append, List.getElem?_cons_zero, List.getElem?_cons_succ, List.set_cons_zero, List.set_cons_succ, List.replicate, Nat.reduceAdd, Nat.reduceSub, Nat.zero_add, Nat.sub_self, Nat.add_sub_cancel, sForI, forStep, listD, seqD, wFz, wTruth, wiL, wiT, wiR, wiR2, wiET, wLcI, wDcI, wYes, wSortKI, wMakeI, sSetF, putFD, wMerge2, oEqDT, oBoolD, wListRg, wSMeth, oOwn2, wCutE, oRepL, wDIn, oLcm, wChain, kt_ii, kt_ib, kt_rr, wFld_e, wProp_e, ixr_lst, ixr_tup, ixr_tpk, w_is_int, w_within, w_asc, fld_flags, fld_odd, ins_rd, w_initT, w_initL, w_told, w_within, sWhile, w_modulus, w_chosen, w_contains, oOwnIn, w_index, w_nextf, oNotI, w_next, w_first]
  refine in_bl ?_
  dsimp only
  unfold wholeD at h
  cases hc : r.1.contains false with
  | true =>
    rw [hc, if_pos rfl] at h
    rw [if_pos rfl]
    exact h
  | false =>
    rw [hc, if_neg Bool.false_ne_true] at h
    rw [if_neg Bool.false_ne_true]
    refine list_odd ?_
    dsimp only
    cases hr : r.2.getLast? with
    | none =>
      rw [hr] at h
      rw [List.getLast?_eq_none_iff.mp hr]
      exact h
    | some v =>
      rw [hr] at h
      have ne : (!(List.map D.int r.2).isEmpty) = true := by
        cases hx : r.2 with
        | nil => rw [hx] at hr; cases hr
        | cons _ _ => rfl
      rw [if_pos ne]
      exact ix_lst (at_last (by rw [List.getLast?_map, hr]; rfl)) h
def w_after : WF := fun ds S Q => ∃ (r : Rnd) (a : Nat), ds = [rd r, .int a] ∧ Wf r ∧ a ≤ 1000000000 ∧ ∀ o, NextS (memN r) a o → (∀ n, o = some n → n ≤ max a 1000001 + 5040) → Q (optD o) S
theorem sc_after : FnScope ["self", "first"] ["self", "first"] (defScope s_after) := ⟨rfl, rfl, rfl, by decide +kernel, rfl, by decide +kernel, by decide +kernel⟩
theorem ok_after (T : Tx K mg) : FnOk P w K mg base CX0 5 T.f_after T.fd_after ["self", "first"] (spW ⟨K, mg⟩ 2 w_after) := by
  refine fnD (k := 4) T.F_after sc_after (fun cdv A outer s H E hr => ⟨_, (dss_cons (ds_expr (d_call (ok_check_first T) (hr.mono (by decide)) T.m_check_first T.F_check_first.kp T.b_check_first (da_cons (dv 1) da_nil)))
  (dss_one (ds_ret (d_call (ok_next_member T) (hr.mono (by decide)) T.m_next_member T.F_next_member.kp T.b_next_member (da_cons (d_fld (dv 0) T.g_Rounds T.cl T.na_flags) (da_cons (d_callTy (call_listD rfl) snd_listD T.z_list (da_cons (d_fld (dv 0) T.g_Rounds T.cl T.na_odd) da_nil) (hv := bt_list)) (da_cons (dv 1) da_nil)))))))⟩) (fun ds S Q hl h => ?_)
  obtain ⟨r, a, rfl, wf, a1, h⟩ := h
  simp only [true_and, and_true, oU2, oUn1, oL1, oS1, oR1, oJust, iAdd, iSub, iMul, iFdiv, iMod, iEq, iNe, iLt, iLe, iGt, iGe, iNeg, iAbs, DL.iStr, wFmt, wJs, wJoined, sNext, sSeq, sDrop, sRet, sRetN, sIf, sAsg, sPar, wOp, wVar, wC, wUn, wCons, wNil, wCB, wCall, wMake, wMakeSw, wCallSw, oI, oI0, oU, wTest, wAnd, wOr, DL.wNot, wAndV, wOrV, wNotV, wIf, wTup, wLst, wLstM, gwName, gwNil, gwCons, gwTup, gwSub, oInt1, oAbsI, oLen, oGcd, oDivmod, oMax2, oMin2, oIsi, tyOf, clOf, oStrI, if_t1, if_f1, Bool.not_true, Bool.not_false, startD, List.map_cons, List.map_nil, List.length_cons, List.length_nil, List.cons_append, List.nil_append, List.getElem?_cons_zero, List.getElem?_cons_succ, List.set_cons_zero, List.set_cons_succ, List.replicate, Nat.reduceAdd, Nat.reduceSub, Nat.zero_add, Nat.sub_self, Nat.add_sub_cancel, sForI, forStep, listD, seqD, wFz, wTruth, wiL, wiT, wiR, wiR2, wiET, wLcI, wDcI, wYes, wSortKI, wMakeI, sSetF, putFD, wMerge2, oEqDT, oBoolD, wListRg, wSMeth, oOwn2, wCutE, oRepL, wDIn, oLcm, wChain, kt_ii, kt_ib, kt_rr, wFld_e, wProp_e, ixr_lst, ixr_tup, ixr_tpk, w_is_int, w_within, w_asc, fld_flags, fld_odd, ins_rd, w_initT, w_initL, w_told, w_within, sWhile, w_modulus, w_chosen, w_contains, oOwnIn, w_index, w_nextf, oNotI, w_first]
  exact ⟨a, rfl, by omega, by omega, list_odd ⟨r, a, rfl, wf, by omega, h⟩⟩
theorem sc_members : GScope ["self", "first", "many", "odd", "place", "_", "member"] ["self", "first", "many"] (defScope s_members) := ⟨rfl, rfl, rfl, by decide +kernel, rfl, by decide +kernel, by decide +kernel⟩
def w_members : WFG := fun ds S Q => ∃ (r : Rnd) (a m : Nat), ds = [rd r, .int a, .int m] ∧ Wf r ∧ a ≤ 1000000000 ∧ m ≤ 20 ∧ ∀ L, Nexts (memN r) a m L → Q (L.map fun n : Nat => D.int n) S
theorem ok_members (T : Tx K mg) : GFn P w K mg base 6 T.f_members T.fd_members ["self", "first", "many"] (spWG ⟨K, mg⟩ 3 w_members) := by
  refine gfnD (k := 5) T.F_members sc_members (fun cdv A outer s H E pn hr => ⟨_, (dgn_cons (dgn_plain (ds_expr (d_call (ok_check_first T) (hr.mono (by decide)) T.m_check_first T.F_check_first.kp T.b_check_first (da_cons (dv 1) da_nil))))
  (dgn_cons (dgn_plain (ds_if (dt_not (dt_val (d_call (ok_is_int_within T) (hr.mono (by decide)) T.m_is_int_within T.F_is_int_within.kp T.b_is_int_within (da_cons (dv 2) (da_cons d_int (da_cons (d_globI T.g_MOST_YIELDED) da_nil)))))) (dss_one ds_never) dss_nil))
  (dgn_cons (dgn_plain (ds_set (i := 3) sc_members.nd (d_callTy (call_listD rfl) snd_listD T.z_list (da_cons (d_fld (dv 0) T.g_Rounds T.cl T.na_odd) da_nil) (hv := bt_list))))
  (dgn_cons (dgn_plain (ds_set (i := 4) sc_members.nd (dv 1)))
  (dgn_cons (dgn_for owns_gcx rfl (ii_range T.z_range (da_cons (dv 2) da_nil)) (dg_name (i := 5) sc_members.nd) (dgn_cons (dgn_plain (ds_set (i := 6) sc_members.nd (d_call (ok_next_member T) (hr.mono (by decide)) T.m_next_member T.F_next_member.kp T.b_next_member (da_cons (d_fld (dv 0) T.g_Rounds T.cl T.na_flags) (da_cons (dv 3) (da_cons (dv 4) da_nil))))))
  (dgn_cons (dgn_plain (ds_if (dt_cmp op_isN snd_isN (dv 6) d_non (nomark _)) (dss_one ds_retN) dss_nil))
  (dgn_cons (dgn_yield (dv 6))
  (dgn_cons (dgn_plain (ds_set (i := 4) sc_members.nd (d_op op_add snd_iAdd (dv 6) d_int)))
  dgn_nil)))))
  dgn_nil)))))⟩) (fun ds S Q hl h => ?_)
  obtain ⟨r, a, m, rfl, wf, a1, m1, h⟩ := h
  simp only [true_and, and_true, oU2, oUn1, oL1, oS1, oR1, oJust, iAdd, iSub, iMul, iFdiv, iMod, iEq, iNe, iLt, iLe, iGt, iGe, iNeg, iAbs, DL.iStr, wFmt, wJs, wJoined, sNext, sSeq, sDrop, sRet, sRetN, sIf, sAsg, sPar, wOp, wVar, wC, wUn, wCons, wNil, wCB, wCall, wMake, wMakeSw, wCallSw, oI, oI0, oU, wTest, wAnd, wOr, DL.wNot, wAndV, wOrV, wNotV, wIf, wTup, wLst, wLstM, gwName, gwNil, gwCons, gwTup, gwSub, oInt1, oAbsI, oLen, oGcd, oDivmod, oMax2, oMin2, oIsi, tyOf, clOf, oStrI, if_t1, if_f1, Bool.not_true, Bool.not_false, startD, List.map_cons, List.map_nil, List.length_cons, List.length_nil, List.cons_append, List.nil_append, List.getElem?_cons_zero, List.getElem?_cons_succ, List.set_cons_zero, List.set_cons_succ, List.replicate, Nat.reduceAdd, Nat.reduceSub, Nat.zero_add, Nat.sub_self, Nat.add_sub_cancel, sForI, forStep, listD, seqD, wFz, wTruth, wiL, wiT, wiR, wiR2, wiET, wLcI, wDcI, wYes, wSortKI, wMakeI, sSetF, putFD, wMerge2, oEqDT, oBoolD, wListRg, wSMeth, oOwn2, wCutE, oRepL, wDIn, oLcm, wChain, kt_ii, kt_ib, kt_rr, wFld_e, wProp_e, ixr_lst, ixr_tup, ixr_tpk, w_is_int, w_within, w_asc, fld_flags, fld_odd, ins_rd, w_initT, w_initL, w_told, w_within, sWhile, w_modulus, w_chosen, w_contains, oOwnIn, w_index, w_nextf, oNotI, w_first, gSeq, gPlain, gYield, gFor, DL.gNil, gforStep, DGEnds.at]
  refine ⟨a, rfl, by omega, by omega, ?_⟩
  rw [decide_eq_true (show (0 : Int) ≤ (m : Int) by omega), decide_eq_true (show (m : Int) ≤ 1000 by omega), if_neg (by decide)]
  refine list_odd ⟨⟨by omega, by omega⟩, ?_⟩
  generalize hst : gforStep _ _ _ = st
  rw [Int.toNat_natCast]
  have hs1 : ∀ (i : D) (outs : List D) (p : Nat) (o5 o6 : Option D) (nx : List D → DEnv → MS → Prop), p ≤ 1500000000 → outs.length ≤ 1000 →
      (∀ o, NextS (memN r) p o → (∀ n, o = some n → n ≤ max p 1000001 + 5040) → match o with
        | none => Q outs S
        | some n => ∀ o5 o6, nx (outs ++ [.int n]) [some (rd r), some (.int a), some (.int m), some (.lst (r.2.map D.int)), some (.int ((n + 1 : Nat) : Int)), o5, o6] S) →
      st i outs [some (rd r), some (.int a), some (.int m), some (.lst (r.2.map D.int)), some (.int p), o5, o6] S nx := fun i outs p o5 o6 nx hp ho hn => by
    subst hst
    simp only [true_and, and_true, oU2, oUn1, oL1, oS1, oR1, oJust, iAdd, iSub, iMul, iFdiv, iMod, iEq, iNe, iLt, iLe, iGt, iGe, iNeg, iAbs, DL.iStr, wFmt, wJs, wJoined, sNext, sSeq, sDrop, sRet, sRetN, sIf, sAsg, sPar, wOp, wVar, wC, wUn, wCons, wNil, wCB, wCall, wMake, wMakeSw, wCallSw, oI, oI0, oU, wTest, wAnd, wOr, DL.wNot, wAndV, wOrV, wNotV, wIf, wTup, wLst, wLstM, gwName, gwNil, gwCons, gwTup, gwSub, oInt1, oAbsI, oLen, oGcd, oDivmod, oMax2, oMin2, oIsi, tyOf, clOf, oStrI, if_t1, if_f1, Bool.not_true, Bool.not_false, startD, List.map_cons, List.map_nil, List.length_cons, List.length_nil, List.cons_append, List.nil_append, List.getElem?_cons_zero, List.getElem?_cons_succ, List.set_cons_zero, List.set_cons_succ, List.replicate, Nat.reduceAdd, Nat.reduceSub, Nat.zero_add, Nat.sub_self, Nat.add_sub_cancel, sForI, forStep, listD, seqD, wFz, wTruth, wiL, wiT, wiR, wiR2, wiET, wLcI, wDcI, wYes, wSortKI, wMakeI, sSetF, putFD, wMerge2, oEqDT, oBoolD, wListRg, wSMeth, oOwn2, wCutE, oRepL, wDIn, oLcm, wChain, kt_ii, kt_ib, kt_rr, wFld_e, wProp_e, ixr_lst, ixr_tup, ixr_tpk, w_is_int, w_within, w_asc, fld_flags, fld_odd, ins_rd, w_initT, w_initL, w_told, w_within, sWhile, w_modulus, w_chosen, w_contains, oOwnIn, w_index, w_nextf, oNotI, w_first, gSeq, gPlain, gYield, gFor, DL.gNil, gforStep, DGEnds.at]
    refine ⟨r, p, rfl, wf, hp, fun o h1 h2 => ?_⟩
    have hn := hn o h1 h2
    cases o with
    | none =>
      have hn' : Q outs S := hn
      simp only [optD, oIsN, if_true]
      exact hn'
    | some n =>
      simp only [optD, oIsN, if_f1]
      exact ⟨line5 (by omega), hn _ _⟩
  clear hst
  have gen : ∀ (todo : List D) (outs : List D) (p : Nat) (o5 o6 : Option D), p + 7000 * todo.length ≤ 1200000000 → outs.length + todo.length ≤ 100 → (∀ L, Nexts (memN r) p todo.length L → Q (outs ++ L.map fun n : Nat => D.int n) S) →
      gforO (fun _ => True) todo st (fun ds' _ S' => Q ds' S') outs [some (rd r), some (.int a), some (.int m), some (.lst (r.2.map D.int)), some (.int p), o5, o6] S := by
    intro todo
    induction todo with
    | nil =>
      intro outs p o5 o6 _ _ hq
      have e := hq [] rfl
      simp only [List.map_nil, List.append_nil] at e
      exact ⟨trivial, e⟩
    | cons i todo ih =>
      intro outs p o5 o6 hp ho hq
      rw [List.length_cons] at hp ho
      refine ⟨trivial, hs1 i outs p o5 o6 _ (by omega) (by omega) fun o h1 h2 => ?_⟩
      cases o with
      | none =>
        have e := hq [] (.inl ⟨h1, rfl⟩)
        simp only [List.map_nil, List.append_nil] at e
        exact e
      | some n =>
        intro o5 o6
        have hb := h2 n rfl
        by_cases pm : p ≤ 1000001
        · refine ih _ (n + 1) o5 o6 ?_ (by rw [List.length_append, List.length_singleton]; omega) fun L hL => ?_
          · omega
          · have e := hq (n :: L) (.inr ⟨n, L, h1, rfl, hL⟩)
            rw [List.map_cons] at e
            rw [List.append_assoc]
            exact e
        · refine ih _ (n + 1) o5 o6 (by omega) (by rw [List.length_append, List.length_singleton]; omega) fun L hL => ?_
          have e := hq (n :: L) (.inr ⟨n, L, h1, rfl, hL⟩)
          rw [List.map_cons] at e
          rw [List.append_assoc]
          exact e
  have lr : (rangeD 0 m).length = m := by rw [rangeD_map]; simp
  refine gen _ [] a none none (by omega) (by rw [lr]; simp; omega) fun L hL => ?_
  rw [lr] at hL
  exact h L hL
def w_Rinit : WF := fun ds S Q => ∃ m : Nat, ds = [.mut m, .int 3, .int 1] ∧ S[m]? = some (.i "Ratio" []) ∧ Q .non (S.set m (.i "Ratio" [("_top", .int 3), ("_bottom", .int 1)]))
theorem sc_R_init : FnScope ["self", "top", "bottom", "common"] ["self", "top", "bottom"] (defScope s_R_init) := ⟨rfl, rfl, rfl, by decide +kernel, rfl, by decide +kernel, by decide +kernel⟩
theorem ok_R_init (T : Tx K mg) : FnOk P w K mg base CX0 3 T.f_R_init T.fd_R_init ["self", "top", "bottom"] (spW ⟨K, mg⟩ 3 w_Rinit) := by
  refine fnDD (k := 2) T.F_R_init sc_R_init (fun cdv A outer s H E hr => ⟨_, (dss_cons (ds_if (dt_not (dt_val (d_call (ok_is_int T) (hr.mono (by decide)) T.m_is_int T.F_is_int.kp T.b_is_int (da_cons (dv 1) da_nil)))) (dss_one ds_never) dss_nil)
  (dss_cons (ds_if (PDW.pt (dw_or (dt_not (dt_val (d_call (ok_is_int T) (hr.mono (by decide)) T.m_is_int T.F_is_int.kp T.b_is_int (da_cons (dv 2) da_nil)))) (dw_or1 (dt_cmp op_lt snd_iLt (dv 2) d_int (nomark _))))) (dss_one ds_never) dss_nil)
  (dss_cons (ds_set (i := 3) sc_R_init.nd (d_callF cr_gcd snd_gcd T.g_gcd (da_cons (dv 1) (da_cons (dv 2) da_nil))))
  (dss_cons (ds_setf (dv 0) (d_op op_fdivWN snd_iFdiv (dv 1) (dv 3)) T.g_Ratio T.clR T.na_top)
  (dss_one (ds_setf (dv 0) (d_op op_fdivWN snd_iFdiv (dv 2) (dv 3)) T.g_Ratio T.clR T.na_bottom))))))⟩) (fun ds S Q hl h => ?_)
  obtain ⟨m, rfl, hm, h⟩ := h
  simp only [true_and, and_true, oU2, oUn1, oL1, oS1, oR1, oJust, iAdd, iSub, iMul, iFdiv, iMod, iEq, iNe, iLt, iLe, iGt, iGe, iNeg, iAbs, DL.iStr, wFmt, wJs, wJoined, sNext, sSeq, sDrop, sRet, sRetN, sIf, sAsg, sPar, wOp, wVar, wC, wUn, wCons, wNil, wCB, wCall, wMake, wMakeSw, wCallSw, oI, oI0, oU, wTest, wAnd, wOr, DL.wNot, wAndV, wOrV, wNotV, wIf, wTup, wLst, wLstM, gwName, gwNil, gwCons, gwTup, gwSub, oInt1, oAbsI, oLen, oGcd, oDivmod, oMax2, oMin2, oIsi, tyOf, clOf, oStrI, if_t1, if_f1, Bool.not_true, Bool.not_false, startD, List.map_cons, List.map_nil, List.length_cons, List.length_nil, List.cons_append, List.nil_append, List.getElem?_cons_zero, List.getElem?_cons_succ, List.set_cons_zero, List.set_cons_succ, List.replicate, Nat.reduceAdd, Nat.reduceSub, Nat.zero_add, Nat.sub_self, Nat.add_sub_cancel, sForI, forStep, listD, seqD, wFz, wTruth, wiL, wiT, wiR, wiR2, wiET, wLcI, wDcI, wYes, wSortKI, wMakeI, sSetF, putFD, wMerge2, oEqDT, oBoolD, wListRg, wSMeth, oOwn2, wCutE, oRepL, wDIn, oLcm, wChain, kt_ii, kt_ib, kt_rr, wFld_e, wProp_e, ixr_lst, ixr_tup, ixr_tpk, w_is_int, w_within, w_asc, fld_flags, fld_odd, ins_rd, w_initT, w_initL, w_told, w_within, sWhile, w_modulus, w_chosen, w_contains, oOwnIn, w_index, w_nextf, oNotI, w_next, w_first]
  have e1 : (Int.natAbs 3).gcd (Int.natAbs 1) = 1 := by decide
  rw [e1]
  have hd : ∀ i : Int, CDivWN i ((1 : Nat) : Int) := fun i => ⟨by decide, by decide⟩
  refine ifF (by decide) ⟨hd _, [], hm, by decide, hd _, _, setM_at hm, by decide, ?_⟩
  rw [List.set_set]
  exact h
end
end K1
set_option Elab.async false
set_option linter.all false
set_option maxRecDepth 100000
set_option maxHeartbeats 0
namespace K1
open PySem PySem.Spec PyProof.Rows L2 DL
section
variable {P : Program} {w : World} {K : PySem.W.Frag} {mg : Str → Option Value} {base : Heap}
/-- a product by a number of one word -/
def CMulS (_ j : Int) : Prop := j.natAbs < 2 ^ 62
theorem op_mulS {X : Cx} : OpR X (binaryOp .Mult) (rI CMulS fun i j => .int (i * j)) := opI fun _ _ _ _ _ _ _ hc q => mul_int q (IntMulOk.of_right (by
  have h := lt_log2 (k := 62) (by decide) hc
  unfold Builtin.Int.intBits
  split <;> omega))
def iMulS : OInt := fun i j S Q => CMulS i j ∧ Q (.int (i * j)) S
theorem snd_iMulS {mg : MG} : SndR mg (rI CMulS fun i j => .int (i * j)) (oJust iMulS) := snd_justC fun _ _ _ _ => .int _
theorem fmod_pos {a b : Int} (h : 0 < b) : a.fmod b = a % b := Int.fmod_eq_emod_of_nonneg a (by omega)
theorem at0 {α : Type} {a : α} {l : List α} : L2.atI (a :: l) 0 = some a := by
  show (ixN (l.length + 1) 0).bind _ = _
  unfold ixN
  rw [if_pos (by decide), if_pos (by omega)]
  rfl
theorem at1 {α : Type} {a b : α} {l : List α} : L2.atI (a :: b :: l) 1 = some b := by
  show (ixN (l.length + 1 + 1) 1).bind _ = _
  unfold ixN
  rw [if_pos (by decide), if_pos (by omega)]
  rfl
theorem at2 {α : Type} {a b c : α} {l : List α} : L2.atI (a :: b :: c :: l) 2 = some c := by
  show (ixN (l.length + 1 + 1 + 1) 2).bind _ = _
  unfold ixN
  rw [if_pos (by decide), if_pos (by omega)]
  rfl
theorem ix_mut {S : MS} {m : Nat} {ds : List D} {i : Int} {d : D} {Q : D → MS → Prop} (h : S[m]? = some (.l ds)) (e : L2.atI ds i = some d) (q : Q d S) : oIx (.mut m) (.int i) S Q := by
  show (match S[m]? with
    | some (.l ds) => (match L2.atI ds i with | some d => Q d S | none => False)
    | _ => False)
  rw [h]
  dsimp only
  rw [e]
  exact q
def AllI (xs : List D) : Prop := ∀ d ∈ xs, ∃ i, d = .int i
theorem AllI.cut {xs : List D} (h : AllI xs) (lo hi : Option Int) : AllI (DL.cutD xs lo hi) := fun d hd => h d (List.mem_of_mem_drop (List.mem_of_mem_take hd))
theorem AllI.at {xs : List D} (h : AllI xs) {k : Int} (h0 : 0 ≤ k) (h1 : k < xs.length) : ∃ i, L2.atI xs k = some (.int i) := by
  have hk : k.toNat < xs.length := by omega
  have e : (k.toNat : Int) = k := by omega
  have z := atI_nat (List.getElem?_eq_getElem hk)
  rw [e] at z
  obtain ⟨i, hi⟩ := h _ (List.getElem_mem hk)
  exact ⟨i, by rw [z, hi]⟩
theorem modq (x : Int) : 0 ≤ x.fmod 2147483549 ∧ x.fmod 2147483549 < 2147483549 := by
  rw [fmod_pos (by decide)]
  omega
def oPow : OD := oI CPow fun i j => .int (i ^ j.toNat)
/-- the draws' list: figures, seed, turn c -/
def Pd (x : MO) (c : Int) : Prop := ∃ f s : Int, x = .l [.int f, .int s, .int c] ∧ 0 ≤ f ∧ 0 ≤ s ∧ s < 2147483549
def Pu (S : MS) (d : Nat) (c : Int) : Prop := ∃ x, S[d]? = some x ∧ Pd x c
def w_purse : WF := fun ds S Q => match ds with
  | [.scr xs, .int k] => AllI xs ∧ (0 ≤ k ∧ k ≤ 100) ∧ ∀ x, Pd x 0 → Q (.mut S.length) (S ++ [x])
  | _ => False
theorem sc__law_purse : FnScope ["cells", "at", "cell", "seed", "other"] ["cells", "at"] (defScope s__law_purse) := ⟨rfl, rfl, rfl, by decide +kernel, rfl, by decide +kernel, by decide +kernel⟩
theorem ok__law_purse (T : Tx K mg) : FnOk P w K mg base CX0 1 T.f__law_purse T.fd__law_purse ["cells", "at"] (spW ⟨K, mg⟩ 2 w_purse) := by
  refine fnD (k := 0) T.F__law_purse sc__law_purse (fun cdv A outer s H E hr => ⟨_, (dss_cons (ds_set (i := 2) sc__law_purse.nd (d_if (dt_cmp op_lt snd_iLt (dv 1) (d_callB call_len_seq snd_len T.z_len (da_cons (dv 0) da_nil) (hv := bt_len)) (nomark _)) (d_ix (dv 0) (dv 1)) d_int))
  (dss_cons (ds_set (i := 3) sc__law_purse.nd (d_op op_modN snd_iMod (d_callTy call_int1 snd_int1 T.z_int (da_cons (d_op op_add snd_iAdd (d_op op_add snd_iAdd (d_op op_mulS snd_iMulS (dv 2) d_int) (d_op op_mulS snd_iMulS (dv 1) d_int)) d_int) da_nil) (hv := bt_int)) d_int))
  (dss_cons (ds_for PassesOwn.never rfl (ii_list (d_if (dt_cmp op_ge snd_iGe (dv 1) (d_callB call_len_seq snd_len T.z_len (da_cons (dv 0) da_nil) (hv := bt_len)) (nomark _)) (d_cutTo (dv 0)) (d_lst da_nil))) (dg_name (i := 4) sc__law_purse.nd) (dss_one (ds_set (i := 3) sc__law_purse.nd (d_op op_modN snd_iMod (d_callTy call_int1 snd_int1 T.z_int (da_cons (d_op op_add snd_iAdd (d_op op_mulS snd_iMulS (dv 3) d_int) (dv 4)) da_nil) (hv := bt_int)) d_int))))
  (dss_one (ds_ret (d_lstM (da_cons (d_if (dt_cmp op_ge snd_iGe (d_callB call_abs snd_absI T.z_abs (da_cons (dv 2) da_nil) (hv := bt_abs)) (d_op op_pow (snd_rI fun _ _ _ _ => .int _) d_int d_int) (nomark _)) (d_callB call_abs snd_absI T.z_abs (da_cons (dv 2) da_nil) (hv := bt_abs)) d_int) (da_cons (dv 3) (da_cons d_int da_nil)))))))))⟩) (fun ds S Q hl h => ?_)
  match ds, h with
  | [.scr xs, .int k], ⟨hx, hk, h⟩ =>
    have pw : CPow 10 18 := ⟨by decide, by decide, by decide⟩
    have m1 : ∀ x : Int, CMulS x 69621 := fun _ => by show _ < _; decide
    have m2 : ∀ x : Int, CMulS x 40692 := fun _ => by show _ < _; decide
    have m3 : ∀ x : Int, CMulS x 45991 := fun _ => by show _ < _; decide
    have p18 : (10 : Int) ^ (18 : Int).toNat = 1000000000000000000 := by decide +kernel
    have fin : ∀ g s, 0 ≤ g → 0 ≤ s ∧ s < 2147483549 → Q (.mut S.length) (S ++ [MO.l [.int g, .int s, .int 0]]) := fun g s hg hs => h _ ⟨g, s, rfl, hg, hs.1, hs.2⟩
    refine seqG fun R hR => ?_
    have rest : ∀ cell : Int, R ({ nx := fun _ S' => Q .non S', rt := Q } : DEnds) [some (.scr xs), some (.int k), some (.int cell), none, none] S := fun cell => by
      subst hR
      refine seqG fun R hR => ?_
      simp only [true_and, and_true, oU2, oUn1, oL1, oS1, oR1, oJust, iAdd, iSub, iMul, iFdiv, iMod, iEq, iNe, iLt, iLe, iGt, iGe, iNeg, iAbs, DL.iStr, wFmt, wJs, wJoined, sNext, sSeq, sDrop, sRet, sRetN, sIf, sAsg, sPar, wOp, wVar, wC, wUn, wCons, wNil, wCB, wCall, wMake, wMakeSw, wCallSw, oI, oI0, oU, wTest, wAnd, wOr, DL.wNot, wAndV, wOrV, wNotV, wIf, wTup, wLst, wLstM, gwName, gwNil, gwCons, gwTup, gwSub, oInt1, oAbsI, oLen, oGcd, oDivmod, oMax2, oMin2, oIsi, tyOf, clOf, oStrI, if_t1, if_f1, Bool.not_true, Bool.not_false, startD, List.map_cons, List.map_nil, List.length_cons, List.length_nil, List.cons_append, List.nil_append, List.getElem?_cons_zero, List.getElem?_cons_succ, List.set_cons_zero, List.set_cons_succ, List.replicate, Nat.reduceAdd, Nat.reduceSub, Nat.zero_add, Nat.sub_self, Nat.add_sub_cancel, sForI, forStep, listD, seqD, wFz, wTruth, wiL, wiT, wiR, wiR2, wiET, wLcI, wDcI, wYes, wSortKI, wMakeI, sSetF, putFD, wMerge2, oEqDT, oBoolD, wListRg, wSMeth, oOwn2, wCutE, oRepL, wDIn, oLcm, wChain, kt_ii, kt_ib, kt_rr, wFld_e, wProp_e, ixr_lst, ixr_tup, ixr_tpk, w_is_int, w_within, w_asc, fld_flags, fld_odd, ins_rd, w_initT, w_initL, w_told, w_within, sWhile, w_modulus, w_chosen, w_contains, oOwnIn, w_index, w_nextf, oNotI, w_next, w_first, w_or, w_xor, iMulS, at0, at1, at2, oPow, wCut, wCutTo, oAbsI, stayD, gwLst]
      refine ⟨m1 _, m2 _, by decide, ?_⟩
      have hs := modq (cell * 69621 + k * 40692 + 10007)
      generalize (cell * 69621 + k * 40692 + 10007).fmod 2147483549 = s at hs ⊢
      subst hR
      refine seqG fun R hR => ?_
      have fn : ∀ (s : Int) (o : Option D), 0 ≤ s ∧ s < 2147483549 → R ({ nx := fun _ S' => Q .non S', rt := Q } : DEnds) [some (.scr xs), some (.int k), some (.int cell), some (.int s), o] S := fun s o hs => by
        subst hR
        simp only [true_and, and_true, oU2, oUn1, oL1, oS1, oR1, oJust, iAdd, iSub, iMul, iFdiv, iMod, iEq, iNe, iLt, iLe, iGt, iGe, iNeg, iAbs, DL.iStr, wFmt, wJs, wJoined, sNext, sSeq, sDrop, sRet, sRetN, sIf, sAsg, sPar, wOp, wVar, wC, wUn, wCons, wNil, wCB, wCall, wMake, wMakeSw, wCallSw, oI, oI0, oU, wTest, wAnd, wOr, DL.wNot, wAndV, wOrV, wNotV, wIf, wTup, wLst, wLstM, gwName, gwNil, gwCons, gwTup, gwSub, oInt1, oAbsI, oLen, oGcd, oDivmod, oMax2, oMin2, oIsi, tyOf, clOf, oStrI, if_t1, if_f1, Bool.not_true, Bool.not_false, startD, List.map_cons, List.map_nil, List.length_cons, List.length_nil, List.cons_append, List.nil_append, List.getElem?_cons_zero, List.getElem?_cons_succ, List.set_cons_zero, List.set_cons_succ, List.replicate, Nat.reduceAdd, Nat.reduceSub, Nat.zero_add, Nat.sub_self, Nat.add_sub_cancel, sForI, forStep, listD, seqD, wFz, wTruth, wiL, wiT, wiR, wiR2, wiET, wLcI, wDcI, wYes, wSortKI, wMakeI, sSetF, putFD, wMerge2, oEqDT, oBoolD, wListRg, wSMeth, oOwn2, wCutE, oRepL, wDIn, oLcm, wChain, kt_ii, kt_ib, kt_rr, wFld_e, wProp_e, ixr_lst, ixr_tup, ixr_tpk, w_is_int, w_within, w_asc, fld_flags, fld_odd, ins_rd, w_initT, w_initL, w_told, w_within, sWhile, w_modulus, w_chosen, w_contains, oOwnIn, w_index, w_nextf, oNotI, w_next, w_first, w_or, w_xor, iMulS, at0, at1, at2, oPow, wCut, wCutTo, oAbsI, stayD, gwLst]
        refine ⟨pw, ?_⟩
        by_cases c : (10 : Int) ^ (18 : Int).toNat ≤ if cell < 0 then -cell else cell
        · exact ifT c ⟨line5 (by decide), fin _ _ (by split <;> omega) hs⟩
        · exact ifF c ⟨line5 (by decide), fin _ _ (by decide) hs⟩
      simp only [true_and, and_true, oU2, oUn1, oL1, oS1, oR1, oJust, iAdd, iSub, iMul, iFdiv, iMod, iEq, iNe, iLt, iLe, iGt, iGe, iNeg, iAbs, DL.iStr, wFmt, wJs, wJoined, sNext, sSeq, sDrop, sRet, sRetN, sIf, sAsg, sPar, wOp, wVar, wC, wUn, wCons, wNil, wCB, wCall, wMake, wMakeSw, wCallSw, oI, oI0, oU, wTest, wAnd, wOr, DL.wNot, wAndV, wOrV, wNotV, wIf, wTup, wLst, wLstM, gwName, gwNil, gwCons, gwTup, gwSub, oInt1, oAbsI, oLen, oGcd, oDivmod, oMax2, oMin2, oIsi, tyOf, clOf, oStrI, if_t1, if_f1, Bool.not_true, Bool.not_false, startD, List.map_cons, List.map_nil, List.length_cons, List.length_nil, List.cons_append, List.nil_append, List.getElem?_cons_zero, List.getElem?_cons_succ, List.set_cons_zero, List.set_cons_succ, List.replicate, Nat.reduceAdd, Nat.reduceSub, Nat.zero_add, Nat.sub_self, Nat.add_sub_cancel, sForI, forStep, listD, seqD, wFz, wTruth, wiL, wiT, wiR, wiR2, wiET, wLcI, wDcI, wYes, wSortKI, wMakeI, sSetF, putFD, wMerge2, oEqDT, oBoolD, wListRg, wSMeth, oOwn2, wCutE, oRepL, wDIn, oLcm, wChain, kt_ii, kt_ib, kt_rr, wFld_e, wProp_e, ixr_lst, ixr_tup, ixr_tpk, w_is_int, w_within, w_asc, fld_flags, fld_odd, ins_rd, w_initT, w_initL, w_told, w_within, sWhile, w_modulus, w_chosen, w_contains, oOwnIn, w_index, w_nextf, oNotI, w_next, w_first, w_or, w_xor, iMulS, at0, at1, at2, oPow, wCut, wCutTo, oAbsI, stayD, gwLst]
      generalize hst : forStep _ _ _ = st
      have hs1 : ∀ (i s : Int) (o : Option D) (nx : DEnv → MS → Prop), 0 ≤ s ∧ s < 2147483549 → (∀ s', 0 ≤ s' ∧ s' < 2147483549 → nx [some (.scr xs), some (.int k), some (.int cell), some (.int s'), some (.int i)] S) → st (.int i) [some (.scr xs), some (.int k), some (.int cell), some (.int s), o] S nx := fun i s o nx hs hn => by
        subst hst
        simp only [true_and, and_true, oU2, oUn1, oL1, oS1, oR1, oJust, iAdd, iSub, iMul, iFdiv, iMod, iEq, iNe, iLt, iLe, iGt, iGe, iNeg, iAbs, DL.iStr, wFmt, wJs, wJoined, sNext, sSeq, sDrop, sRet, sRetN, sIf, sAsg, sPar, wOp, wVar, wC, wUn, wCons, wNil, wCB, wCall, wMake, wMakeSw, wCallSw, oI, oI0, oU, wTest, wAnd, wOr, DL.wNot, wAndV, wOrV, wNotV, wIf, wTup, wLst, wLstM, gwName, gwNil, gwCons, gwTup, gwSub, oInt1, oAbsI, oLen, oGcd, oDivmod, oMax2, oMin2, oIsi, tyOf, clOf, oStrI, if_t1, if_f1, Bool.not_true, Bool.not_false, startD, List.map_cons, List.map_nil, List.length_cons, List.length_nil, List.cons_append, List.nil_append, List.getElem?_cons_zero, List.getElem?_cons_succ, List.set_cons_zero, List.set_cons_succ, List.replicate, Nat.reduceAdd, Nat.reduceSub, Nat.zero_add, Nat.sub_self, Nat.add_sub_cancel, sForI, forStep, listD, seqD, wFz, wTruth, wiL, wiT, wiR, wiR2, wiET, wLcI, wDcI, wYes, wSortKI, wMakeI, sSetF, putFD, wMerge2, oEqDT, oBoolD, wListRg, wSMeth, oOwn2, wCutE, oRepL, wDIn, oLcm, wChain, kt_ii, kt_ib, kt_rr, wFld_e, wProp_e, ixr_lst, ixr_tup, ixr_tpk, w_is_int, w_within, w_asc, fld_flags, fld_odd, ins_rd, w_initT, w_initL, w_told, w_within, sWhile, w_modulus, w_chosen, w_contains, oOwnIn, w_index, w_nextf, oNotI, w_next, w_first, w_or, w_xor, iMulS, at0, at1, at2, oPow, wCut, wCutTo, oAbsI, stayD, gwLst]
        exact ⟨m3 _, by decide, hn _ (modq _)⟩
      have loop : ∀ (ys : List D), AllI ys → ∀ (s : Int) (o : Option D), 0 ≤ s ∧ s < 2147483549 → forO (fun _ => True) ys st (fun ρ S' => R ({ nx := fun _ S' => Q .non S', rt := Q } : DEnds) ρ S') [some (.scr xs), some (.int k), some (.int cell), some (.int s), o] S := by
        intro ys
        induction ys with
        | nil => exact fun _ s o hs => ⟨trivial, fn s o hs⟩
        | cons y ys ih =>
          intro hy s o hs
          obtain ⟨i, rfl⟩ := hy y List.mem_cons_self
          exact ⟨trivial, hs1 i s o _ hs fun s' hs' => ih (fun d hd => hy d (List.mem_cons_of_mem _ hd)) s' _ hs'⟩
      by_cases hl : (xs.length : Int) ≤ k
      · exact ifT hl (loop _ (hx.cut _ _) s none hs)
      · exact ifF hl ⟨Nat.zero_le _, loop [] (fun d hd => by cases hd) s none hs⟩
    simp only [true_and, and_true, oU2, oUn1, oL1, oS1, oR1, oJust, iAdd, iSub, iMul, iFdiv, iMod, iEq, iNe, iLt, iLe, iGt, iGe, iNeg, iAbs, DL.iStr, wFmt, wJs, wJoined, sNext, sSeq, sDrop, sRet, sRetN, sIf, sAsg, sPar, wOp, wVar, wC, wUn, wCons, wNil, wCB, wCall, wMake, wMakeSw, wCallSw, oI, oI0, oU, wTest, wAnd, wOr, DL.wNot, wAndV, wOrV, wNotV, wIf, wTup, wLst, wLstM, gwName, gwNil, gwCons, gwTup, gwSub, oInt1, oAbsI, oLen, oGcd, oDivmod, oMax2, oMin2, oIsi, tyOf, clOf, oStrI, if_t1, if_f1, Bool.not_true, Bool.not_false, startD, List.map_cons, List.map_nil, List.length_cons, List.length_nil, List.cons_append, List.nil_append, List.getElem?_cons_zero, List.getElem?_cons_succ, List.set_cons_zero, List.set_cons_succ, List.replicate, Nat.reduceAdd, Nat.reduceSub, Nat.zero_add, Nat.sub_self, Nat.add_sub_cancel, sForI, forStep, listD, seqD, wFz, wTruth, wiL, wiT, wiR, wiR2, wiET, wLcI, wDcI, wYes, wSortKI, wMakeI, sSetF, putFD, wMerge2, oEqDT, oBoolD, wListRg, wSMeth, oOwn2, wCutE, oRepL, wDIn, oLcm, wChain, kt_ii, kt_ib, kt_rr, wFld_e, wProp_e, ixr_lst, ixr_tup, ixr_tpk, w_is_int, w_within, w_asc, fld_flags, fld_odd, ins_rd, w_initT, w_initL, w_told, w_within, sWhile, w_modulus, w_chosen, w_contains, oOwnIn, w_index, w_nextf, oNotI, w_next, w_first, w_or, w_xor, iMulS, at0, at1, at2, oPow, wCut, wCutTo, oAbsI, stayD, gwLst]
    by_cases hl : k < (xs.length : Int)
    · refine ifT hl ?_
      obtain ⟨i, hi⟩ := hx.at hk.1 hl
      show AtOf _ _ _
      exact atOf hi (rest i)
    · exact ifF hl (rest 0)
def w_take : WF := fun ds S Q => match ds with
  | [.mut d, .int many] => ∃ c x0, S[d]? = some x0 ∧ Pd x0 c ∧ (0 ≤ c ∧ c ≤ 100000) ∧ (0 < many ∧ many.natAbs < 2 ^ 1000) ∧ ∀ k x, 0 ≤ k → k < many → Pd x (c + 1) → Q (.int k) (S.set d x)
  | _ => False
theorem sc__law_take : FnScope ["draws", "many", "figures", "seed", "turn"] ["draws", "many"] (defScope s__law_take) := ⟨rfl, rfl, rfl, by decide +kernel, rfl, by decide +kernel, by decide +kernel⟩
theorem ok__law_take (T : Tx K mg) : FnOk P w K mg base CX0 1 T.f__law_take T.fd__law_take ["draws", "many"] (spW ⟨K, mg⟩ 2 w_take) := by
  refine fnD (k := 0) T.F__law_take sc__law_take (fun cdv A outer s H E hr => ⟨_, (dss_cons (ds_asg (dv 0) (dg_lst (n := 3) rfl (dgs_cons (dg_name (i := 2) sc__law_take.nd) (dgs_cons (dg_name (i := 3) sc__law_take.nd) (dgs_cons (dg_name (i := 4) sc__law_take.nd) dgs_nil)))))
  (dss_cons (ds_asg (d_op op_modN snd_iMod (d_callTy call_int1 snd_int1 T.z_int (da_cons (d_op op_add snd_iAdd (d_op op_add snd_iAdd (d_op op_mulS snd_iMulS (dv 3) (d_op op_add snd_iAdd d_int (d_op op_mulS snd_iMulS d_int (dv 4)))) (d_op op_mulS snd_iMulS d_int (dv 4))) d_int) da_nil) (hv := bt_int)) d_int) (dg_sub (dv 0) d_int))
  (dss_cons (ds_asg (d_op op_add snd_iAdd (dv 4) d_int) (dg_sub (dv 0) d_int))
  (dss_cons (ds_if (dt_cmp op_gt snd_iGt (dv 2) d_int (nomark _)) (dss_cons (ds_asg (d_op op_fdivWN snd_iFdiv (d_callTy call_int1 snd_int1 T.z_int (da_cons (dv 2) da_nil) (hv := bt_int)) (dv 1)) (dg_sub (dv 0) d_int))
  (dss_one (ds_ret (d_op op_modN snd_iMod (d_callTy call_int1 snd_int1 T.z_int (da_cons (dv 2) da_nil) (hv := bt_int)) (dv 1))))) dss_nil)
  (dss_one (ds_ret (d_op op_modN snd_iMod (d_callTy call_int1 snd_int1 T.z_int (da_cons (d_op op_fdivWN snd_iFdiv (d_ix (dv 0) d_int) d_int) da_nil) (hv := bt_int)) (dv 1))))))))⟩) (fun ds S Q hl h => ?_)
  match ds, h with
  | [.mut d, .int many], ⟨c, x0, hS, ⟨g, s, ex, hg, hs0, hs1⟩, hc, ⟨hm0, hm1⟩, h⟩ =>
    subst ex
    have mm : ∀ (x y : Int), y.natAbs < 2 ^ 62 → CMulS x y := fun _ _ h => h
    simp only [true_and, and_true, oU2, oUn1, oL1, oS1, oR1, oJust, iAdd, iSub, iMul, iFdiv, iMod, iEq, iNe, iLt, iLe, iGt, iGe, iNeg, iAbs, DL.iStr, wFmt, wJs, wJoined, sNext, sSeq, sDrop, sRet, sRetN, sIf, sAsg, sPar, wOp, wVar, wC, wUn, wCons, wNil, wCB, wCall, wMake, wMakeSw, wCallSw, oI, oI0, oU, wTest, wAnd, wOr, DL.wNot, wAndV, wOrV, wNotV, wIf, wTup, wLst, wLstM, gwName, gwNil, gwCons, gwTup, gwSub, oInt1, oAbsI, oLen, oGcd, oDivmod, oMax2, oMin2, oIsi, tyOf, clOf, oStrI, if_t1, if_f1, Bool.not_true, Bool.not_false, startD, List.map_cons, List.map_nil, List.length_cons, List.length_nil, List.cons_append, List.nil_append, List.getElem?_cons_zero, List.getElem?_cons_succ, List.set_cons_zero, List.set_cons_succ, List.replicate, Nat.reduceAdd, Nat.reduceSub, Nat.zero_add, Nat.sub_self, Nat.add_sub_cancel, sForI, forStep, listD, seqD, wFz, wTruth, wiL, wiT, wiR, wiR2, wiET, wLcI, wDcI, wYes, wSortKI, wMakeI, sSetF, putFD, wMerge2, oEqDT, oBoolD, wListRg, wSMeth, oOwn2, wCutE, oRepL, wDIn, oLcm, wChain, kt_ii, kt_ib, kt_rr, wFld_e, wProp_e, ixr_lst, ixr_tup, ixr_tpk, w_is_int, w_within, w_asc, fld_flags, fld_odd, ins_rd, w_initT, w_initL, w_told, w_within, sWhile, w_modulus, w_chosen, w_contains, oOwnIn, w_index, w_nextf, oNotI, w_next, w_first, w_or, w_xor, iMulS, at0, at1, at2, oPow, wCut, wCutTo, oAbsI, stayD, gwLst]
    refine ⟨_, lsAt_of hS, rfl, ?_⟩
    simp only [true_and, and_true, oU2, oUn1, oL1, oS1, oR1, oJust, iAdd, iSub, iMul, iFdiv, iMod, iEq, iNe, iLt, iLe, iGt, iGe, iNeg, iAbs, DL.iStr, wFmt, wJs, wJoined, sNext, sSeq, sDrop, sRet, sRetN, sIf, sAsg, sPar, wOp, wVar, wC, wUn, wCons, wNil, wCB, wCall, wMake, wMakeSw, wCallSw, oI, oI0, oU, wTest, wAnd, wOr, DL.wNot, wAndV, wOrV, wNotV, wIf, wTup, wLst, wLstM, gwName, gwNil, gwCons, gwTup, gwSub, oInt1, oAbsI, oLen, oGcd, oDivmod, oMax2, oMin2, oIsi, tyOf, clOf, oStrI, if_t1, if_f1, Bool.not_true, Bool.not_false, startD, List.map_cons, List.map_nil, List.length_cons, List.length_nil, List.cons_append, List.nil_append, List.getElem?_cons_zero, List.getElem?_cons_succ, List.set_cons_zero, List.set_cons_succ, List.replicate, Nat.reduceAdd, Nat.reduceSub, Nat.zero_add, Nat.sub_self, Nat.add_sub_cancel, sForI, forStep, listD, seqD, wFz, wTruth, wiL, wiT, wiR, wiR2, wiET, wLcI, wDcI, wYes, wSortKI, wMakeI, sSetF, putFD, wMerge2, oEqDT, oBoolD, wListRg, wSMeth, oOwn2, wCutE, oRepL, wDIn, oLcm, wChain, kt_ii, kt_ib, kt_rr, wFld_e, wProp_e, ixr_lst, ixr_tup, ixr_tpk, w_is_int, w_within, w_asc, fld_flags, fld_odd, ins_rd, w_initT, w_initL, w_told, w_within, sWhile, w_modulus, w_chosen, w_contains, oOwnIn, w_index, w_nextf, oNotI, w_next, w_first, w_or, w_xor, iMulS, at0, at1, at2, oPow, wCut, wCutTo, oAbsI, stayD, gwLst]
    refine ⟨mm _ _ (by omega), mm _ _ (by omega), mm _ _ (by omega), by decide, _, 1, hS, rfl, ?_⟩
    simp only [true_and, and_true, oU2, oUn1, oL1, oS1, oR1, oJust, iAdd, iSub, iMul, iFdiv, iMod, iEq, iNe, iLt, iLe, iGt, iGe, iNeg, iAbs, DL.iStr, wFmt, wJs, wJoined, sNext, sSeq, sDrop, sRet, sRetN, sIf, sAsg, sPar, wOp, wVar, wC, wUn, wCons, wNil, wCB, wCall, wMake, wMakeSw, wCallSw, oI, oI0, oU, wTest, wAnd, wOr, DL.wNot, wAndV, wOrV, wNotV, wIf, wTup, wLst, wLstM, gwName, gwNil, gwCons, gwTup, gwSub, oInt1, oAbsI, oLen, oGcd, oDivmod, oMax2, oMin2, oIsi, tyOf, clOf, oStrI, if_t1, if_f1, Bool.not_true, Bool.not_false, startD, List.map_cons, List.map_nil, List.length_cons, List.length_nil, List.cons_append, List.nil_append, List.getElem?_cons_zero, List.getElem?_cons_succ, List.set_cons_zero, List.set_cons_succ, List.replicate, Nat.reduceAdd, Nat.reduceSub, Nat.zero_add, Nat.sub_self, Nat.add_sub_cancel, sForI, forStep, listD, seqD, wFz, wTruth, wiL, wiT, wiR, wiR2, wiET, wLcI, wDcI, wYes, wSortKI, wMakeI, sSetF, putFD, wMerge2, oEqDT, oBoolD, wListRg, wSMeth, oOwn2, wCutE, oRepL, wDIn, oLcm, wChain, kt_ii, kt_ib, kt_rr, wFld_e, wProp_e, ixr_lst, ixr_tup, ixr_tpk, w_is_int, w_within, w_asc, fld_flags, fld_odd, ins_rd, w_initT, w_initL, w_told, w_within, sWhile, w_modulus, w_chosen, w_contains, oOwnIn, w_index, w_nextf, oNotI, w_next, w_first, w_or, w_xor, iMulS, at0, at1, at2, oPow, wCut, wCutTo, oAbsI, stayD, gwLst]
    generalize hs2 : (s * (50027 + 6 * c) + 12347 * c + 12358).fmod 2147483549 = s2
    have s21 : 0 ≤ s2 ∧ s2 < 2147483549 := by rw [← hs2]; exact modq _
    have hA := set_at (x := MO.l [D.int g, .int s2, .int c]) hS
    refine ⟨_, 2, hA, rfl, ?_⟩
    simp only [true_and, and_true, oU2, oUn1, oL1, oS1, oR1, oJust, iAdd, iSub, iMul, iFdiv, iMod, iEq, iNe, iLt, iLe, iGt, iGe, iNeg, iAbs, DL.iStr, wFmt, wJs, wJoined, sNext, sSeq, sDrop, sRet, sRetN, sIf, sAsg, sPar, wOp, wVar, wC, wUn, wCons, wNil, wCB, wCall, wMake, wMakeSw, wCallSw, oI, oI0, oU, wTest, wAnd, wOr, DL.wNot, wAndV, wOrV, wNotV, wIf, wTup, wLst, wLstM, gwName, gwNil, gwCons, gwTup, gwSub, oInt1, oAbsI, oLen, oGcd, oDivmod, oMax2, oMin2, oIsi, tyOf, clOf, oStrI, if_t1, if_f1, Bool.not_true, Bool.not_false, startD, List.map_cons, List.map_nil, List.length_cons, List.length_nil, List.cons_append, List.nil_append, List.getElem?_cons_zero, List.getElem?_cons_succ, List.set_cons_zero, List.set_cons_succ, List.replicate, Nat.reduceAdd, Nat.reduceSub, Nat.zero_add, Nat.sub_self, Nat.add_sub_cancel, sForI, forStep, listD, seqD, wFz, wTruth, wiL, wiT, wiR, wiR2, wiET, wLcI, wDcI, wYes, wSortKI, wMakeI, sSetF, putFD, wMerge2, oEqDT, oBoolD, wListRg, wSMeth, oOwn2, wCutE, oRepL, wDIn, oLcm, wChain, kt_ii, kt_ib, kt_rr, wFld_e, wProp_e, ixr_lst, ixr_tup, ixr_tpk, w_is_int, w_within, w_asc, fld_flags, fld_odd, ins_rd, w_initT, w_initL, w_told, w_within, sWhile, w_modulus, w_chosen, w_contains, oOwnIn, w_index, w_nextf, oNotI, w_next, w_first, w_or, w_xor, iMulS, at0, at1, at2, oPow, wCut, wCutTo, oAbsI, stayD, gwLst]
    rw [List.set_set]
    have hB := set_at (x := MO.l [D.int g, .int s2, .int (c + 1)]) hS
    by_cases g0 : 0 < g
    · refine ifT g0 ?_
      refine ⟨⟨by omega, Nat.lt_trans (lt_log2 (k := 1000) (by decide) hm1) (by decide)⟩, _, 0, hB, rfl, ?_⟩
      simp only [true_and, and_true, oU2, oUn1, oL1, oS1, oR1, oJust, iAdd, iSub, iMul, iFdiv, iMod, iEq, iNe, iLt, iLe, iGt, iGe, iNeg, iAbs, DL.iStr, wFmt, wJs, wJoined, sNext, sSeq, sDrop, sRet, sRetN, sIf, sAsg, sPar, wOp, wVar, wC, wUn, wCons, wNil, wCB, wCall, wMake, wMakeSw, wCallSw, oI, oI0, oU, wTest, wAnd, wOr, DL.wNot, wAndV, wOrV, wNotV, wIf, wTup, wLst, wLstM, gwName, gwNil, gwCons, gwTup, gwSub, oInt1, oAbsI, oLen, oGcd, oDivmod, oMax2, oMin2, oIsi, tyOf, clOf, oStrI, if_t1, if_f1, Bool.not_true, Bool.not_false, startD, List.map_cons, List.map_nil, List.length_cons, List.length_nil, List.cons_append, List.nil_append, List.getElem?_cons_zero, List.getElem?_cons_succ, List.set_cons_zero, List.set_cons_succ, List.replicate, Nat.reduceAdd, Nat.reduceSub, Nat.zero_add, Nat.sub_self, Nat.add_sub_cancel, sForI, forStep, listD, seqD, wFz, wTruth, wiL, wiT, wiR, wiR2, wiET, wLcI, wDcI, wYes, wSortKI, wMakeI, sSetF, putFD, wMerge2, oEqDT, oBoolD, wListRg, wSMeth, oOwn2, wCutE, oRepL, wDIn, oLcm, wChain, kt_ii, kt_ib, kt_rr, wFld_e, wProp_e, ixr_lst, ixr_tup, ixr_tpk, w_is_int, w_within, w_asc, fld_flags, fld_odd, ins_rd, w_initT, w_initL, w_told, w_within, sWhile, w_modulus, w_chosen, w_contains, oOwnIn, w_index, w_nextf, oNotI, w_next, w_first, w_or, w_xor, iMulS, at0, at1, at2, oPow, wCut, wCutTo, oAbsI, stayD, gwLst]
      rw [List.set_set]
      refine ⟨by omega, h _ _ ?_ ?_ ⟨g.fdiv many, s2, rfl, ?_, s21.1, s21.2⟩⟩
      · rw [fmod_pos hm0]; exact Int.emod_nonneg _ (by omega)
      · rw [fmod_pos hm0]; exact Int.emod_lt_of_pos _ hm0
      · rw [Int.fdiv_eq_ediv_of_nonneg _ (by omega)]; exact Int.ediv_nonneg hg (by omega)
    · refine ifF g0 ?_
      refine ix_mut hB at1 ?_
      dsimp only
      refine ⟨⟨by decide, by decide⟩, by omega, h _ _ ?_ ?_ ⟨g, s2, rfl, hg, s21.1, s21.2⟩⟩
      · rw [fmod_pos hm0]; exact Int.emod_nonneg _ (by omega)
      · rw [fmod_pos hm0]; exact Int.emod_lt_of_pos _ hm0
end
end K1
set_option Elab.async false
set_option linter.all false
set_option maxRecDepth 100000
set_option maxHeartbeats 0
namespace K1
open PySem PySem.Spec PyProof.Rows L2 DL
section
variable {P : Program} {w : World} {K : PySem.W.Frag} {mg : Str → Option Value} {base : Heap}
theorem set_self {S : MS} {d : Nat} {x : MO} (h : S[d]? = some x) : S.set d x = S := by
  obtain ⟨hd, e⟩ := List.getElem?_eq_some_iff.mp h
  rw [← e]
  exact List.set_getElem_self hd
theorem loM_pd {n : Nat} {x : MO} {c : Int} (h : Pd x c) : LoM n x := by
  obtain ⟨f, s, rfl, _⟩ := h
  exact .cons (.int _) (.cons (.int _) (.cons (.int _) .nil))
theorem Fz.draw {S : MS} {d : Nat} {x : MO} {c : Int} {Q : D → MS → Prop} {acc : List D} (p : Pd x c) (h : LoL S.length acc) (q : Q (.lst acc) (S.set d x)) : Fz S Q (.mut S.length) (S.set d x ++ [.l acc]) := by
  refine ⟨S.set d x, [.l acc], rfl, List.length_set, fun i o e => ?_, .inr ⟨S.length, .l acc, rfl, Nat.le_refl _, ?_, h, q⟩⟩
  · by_cases hi : d = i
    · subst hi
      by_cases hl : d < S.length
      · rw [List.getElem?_set_self hl] at e
        cases e
        exact .inr (loM_pd p)
      · rw [List.getElem?_eq_none (by simp; omega)] at e
        cases e
    · rw [List.getElem?_set_ne hi] at e
      exact .inl e
  · have e : (S.set d x).length = S.length := List.length_set
    rw [← e]
    simp
theorem lcO_dr {α : Type} {S : MS} {d : Nat} {ok : MS → Prop} {step : D → MS → (MS → Prop) → Prop} {P : MS → Prop} (g : α → D) (xs : List α) (b : Int) (c : Int) (Pa : List D → Prop) (hb : 0 ≤ b) (hok : ∀ S', ok S') {x0 : MO} (hS : S[d]? = some x0) (h0 : Pd x0 c) (p0 : Pa [])
    (hs : ∀ y ∈ xs, ∀ x c' acc k, Pd x c' → c ≤ c' → c' ≤ c + b * xs.length → Pa acc → acc.length < xs.length → (∀ x2 c2 acc2, Pd x2 c2 → c' ≤ c2 → c2 ≤ c' + b → Pa acc2 → acc2.length ≤ acc.length + 1 → k (S.set d x2 ++ [.l acc2])) → step (g y) (S.set d x ++ [.l acc]) k)
    (hf : ∀ x c' acc, Pd x c' → c ≤ c' → c' ≤ c + b * xs.length → Pa acc → acc.length ≤ xs.length → P (S.set d x ++ [.l acc])) : lcO ok (xs.map g) step P (S ++ [.l []]) := by
  have gen : ∀ (ys : List α) (x : MO) (c' : Int) (acc : List D), (∀ y ∈ ys, y ∈ xs) → Pd x c' → c ≤ c' → c' + b * ys.length ≤ c + b * xs.length → Pa acc → acc.length + ys.length ≤ xs.length → lcO ok (ys.map g) step P (S.set d x ++ [.l acc]) := by
    intro ys
    induction ys with
    | nil =>
      intro x c' acc _ p h1 h2 pa hl
      simp only [List.length_nil, Int.natCast_zero, Int.mul_zero, Int.add_zero, Nat.add_zero] at h2 hl
      exact ⟨hok _, hf x c' acc p h1 h2 pa hl⟩
    | cons y ys ih =>
      intro x c' acc hy p h1 h2 pa hl
      rw [List.length_cons] at h2 hl
      have e : b * ((ys.length + 1 : Nat) : Int) = b * ys.length + b := by rw [Int.natCast_add, Int.mul_add]; simp
      rw [e] at h2
      have nn : 0 ≤ b * (ys.length : Int) := Int.mul_nonneg hb (by omega)
      exact ⟨hok _, hs y (hy y List.mem_cons_self) x c' acc _ p h1 (by omega) pa (by omega) fun x2 c2 acc2 p2 g1 g2 pa2 gl => ih x2 c2 acc2 (fun z hz => hy z (List.mem_cons_of_mem _ hz)) p2 (by omega) (by omega) pa2 (by omega)⟩
  have z := gen xs x0 c [] (fun _ h => h) h0 (Int.le_refl _) (Int.le_refl _) p0 (by simp)
  rw [set_self hS] at z
  exact z
theorem lcO_dri {α : Type} {S : MS} {d : Nat} {ok : MS → Prop} {step : D → MS → (MS → Prop) → Prop} {P : MS → Prop} (g : α → D) (xs : List α) (b : Int) (c : Int) (Pa : List α → List D → Prop) (hb : 0 ≤ b) (hok : ∀ S', ok S') {x0 : MO} (hS : S[d]? = some x0) (h0 : Pd x0 c) (p0 : Pa [] [])
    (hs : ∀ done y ys, xs = done ++ y :: ys → ∀ x c' acc k, Pd x c' → c ≤ c' → c' ≤ c + b * xs.length → Pa done acc → acc.length < xs.length → (∀ x2 c2 acc2, Pd x2 c2 → c' ≤ c2 → c2 ≤ c' + b → Pa (done ++ [y]) acc2 → acc2.length ≤ acc.length + 1 → k (S.set d x2 ++ [.l acc2])) → step (g y) (S.set d x ++ [.l acc]) k)
    (hf : ∀ x c' acc, Pd x c' → c ≤ c' → c' ≤ c + b * xs.length → Pa xs acc → acc.length ≤ xs.length → P (S.set d x ++ [.l acc])) : lcO ok (xs.map g) step P (S ++ [.l []]) := by
  have gen : ∀ (ys done : List α) (x : MO) (c' : Int) (acc : List D), xs = done ++ ys → Pd x c' → c ≤ c' → c' + b * ys.length ≤ c + b * xs.length → Pa done acc → acc.length + ys.length ≤ xs.length → lcO ok (ys.map g) step P (S.set d x ++ [.l acc]) := by
    intro ys
    induction ys with
    | nil =>
      intro done x c' acc e p h1 h2 pa hl
      rw [List.append_nil] at e
      subst e
      simp only [List.length_nil, Int.natCast_zero, Int.mul_zero, Int.add_zero, Nat.add_zero] at h2 hl
      exact ⟨hok _, hf x c' acc p h1 h2 pa hl⟩
    | cons y ys ih =>
      intro done x c' acc hy p h1 h2 pa hl
      rw [List.length_cons] at h2 hl
      have e : b * ((ys.length + 1 : Nat) : Int) = b * ys.length + b := by rw [Int.natCast_add, Int.mul_add]; simp
      rw [e] at h2
      have nn : 0 ≤ b * (ys.length : Int) := Int.mul_nonneg hb (by omega)
      exact ⟨hok _, hs done y ys hy x c' acc _ p h1 (by omega) pa (by omega) fun x2 c2 acc2 p2 g1 g2 pa2 gl => ih (done ++ [y]) x2 c2 acc2 (by rw [hy, List.append_assoc]; rfl) p2 (by omega) (by omega) pa2 (by omega)⟩
  have z := gen xs [] x0 c [] rfl h0 (Int.le_refl _) (Int.le_refl _) p0 (by simp)
  rw [set_self hS] at z
  exact z
theorem range_split {m y : Nat} {done ys : List Nat} (h : List.range m = done ++ y :: ys) : y = done.length := by
  have e : (List.range m)[done.length]? = (done ++ y :: ys)[done.length]? := by rw [h]
  have hl : done.length < m := by
    have := congrArg List.length h
    simp at this
    omega
  rw [List.getElem?_range hl, List.getElem?_append_right (Nat.le_refl _), Nat.sub_self] at e
  exact (Option.some.inj e).symm
theorem up_snoc {rs : List Int} {n : Int} (h : Up rs) (hl : ∀ r ∈ rs, r < n) : Up (rs ++ [n]) := List.pairwise_append.mpr ⟨h, List.pairwise_singleton _ _, fun a ha b hb => by rw [List.mem_singleton.mp hb]; exact hl a ha⟩
/-- the d-th object, before what a comprehension makes -/
theorem drw_at {S : MS} {d : Nat} {x : MO} {acc : List D} (hd : d < S.length) : (S.set d x ++ [MO.l acc])[d]? = some x := by
  rw [List.getElem?_append_left (by rw [List.length_set]; exact hd), List.getElem?_set_self hd]
theorem drw_set {S : MS} {d : Nat} {x y : MO} {acc : List D} (hd : d < S.length) : (S.set d x ++ [MO.l acc]).set d y = S.set d y ++ [MO.l acc] := by
  rw [List.set_append_left _ _ (by rw [List.length_set]; exact hd), List.set_set]
theorem drw_acc {S : MS} {d : Nat} {x : MO} {acc : List D} : (S.set d x ++ [MO.l acc])[S.length]? = some (MO.l acc) := by
  have e : (S.set d x).length = S.length := List.length_set
  rw [← e]
  simp
theorem drw_put {S : MS} {d : Nat} {x : MO} {acc : List D} {o : MO} : (S.set d x ++ [MO.l acc]).set S.length o = S.set d x ++ [o] := by
  have e : (S.set d x).length = S.length := List.length_set
  rw [← e]
  simp
/-- a model: its modulus, rests, odd numbers -/
structure Mdl where
  m : Int
  rs : List Int
  ns : List Int
def md (x : Mdl) : D := .tup [.int x.m, .lst (x.rs.map D.int), .lst (x.ns.map D.int)]
structure WfM (x : Mdl) : Prop where
  m0 : 0 < x.m
  m24 : x.m ∣ 420
  ml : x.m ≤ 12
  rr : ∀ r ∈ x.rs, 0 ≤ r ∧ r < x.m
  ru : Up x.rs
  rl : x.rs.length ≤ 12
  nn : ∀ n ∈ x.ns, 0 ≤ n ∧ n < 300
  nu : Up x.ns
theorem eqv_any (x : Int) : ∀ a : List Int, ((a.map PyData.int).any fun z => PyData.eqv z (.int x)) = a.contains x
  | [] => rfl
  | y :: a => by
    rw [List.map_cons, List.any_cons, eqv_any x a, List.contains_cons]
    show ((y == x) || a.contains x) = ((x == y) || a.contains x)
    rw [BEq.comm]
theorem lay_ints : ∀ a : List Int, PyData.canLayAll0 (a.map PyData.int) = true
  | [] => rfl
  | x :: a => by
    show (PyData.canLay0 (.int x) && PyData.canLayAll0 (a.map PyData.int)) = true
    rw [lay_ints a]
    rfl
theorem dep_ints : ∀ a : List Int, PyData.depthAll (a.map PyData.int) = 0
  | [] => rfl
  | x :: a => by
    show max (PyData.depth (.int x)) (PyData.depthAll (a.map PyData.int)) = 0
    rw [dep_ints a]
    rfl
theorem datL_ints (S : MS) : ∀ a : List Int, datL S (a.map D.int) = some (a.map PyData.int)
  | [] => rfl
  | x :: a => by
    show (match dat S (.int x), datL S (a.map D.int) with
      | some p, some l => some (p :: l)
      | _, _ => none) = _
    rw [datL_ints S a]
    rfl
theorem in_int {x : Int} {a : List Int} {S : MS} {Q : D → MS → Prop} (q : Q (.bl (a.contains x)) S) : oInD (.int x) (.lst (a.map D.int)) S Q := by
  refine ⟨.int x, a.map PyData.int, rfl, ?_, rfl, ?_, by rw [eqv_any]; exact q⟩
  · show (datL S (a.map D.int)).map PyData.list = _
    rw [datL_ints]
    rfl
  · unfold SeqAt.shaped
    have c : PyData.canLay0 (.list (a.map PyData.int)) = true := lay_ints a
    have d : PyData.depth (.list (a.map PyData.int)) ≤ 64 := by
      show PyData.depthAll (a.map PyData.int) + 1 ≤ 64
      rw [dep_ints]
      decide
    rw [c, decide_eq_true d]
    rfl
theorem keepI {vs : List Int} : ∀ l : List Nat, l.filterMap (fun i : Nat => if vs.contains (i : Int) then some (D.int i) else none) = ((l.filter fun i : Nat => vs.contains (i : Int)).map fun i : Nat => (i : Int)).map D.int
  | [] => rfl
  | a :: l => by
    rw [List.filterMap_cons, List.filter_cons]
    cases hc : vs.contains (a : Int) with
    | true =>
      show D.int (a : Int) :: List.filterMap _ l = D.int (a : Int) :: _
      rw [keepI l]
    | false => exact keepI l
theorem pow1000 {n : Nat} (h : n ≤ 1000) : n < 2 ^ 1000 := Nat.lt_of_le_of_lt h (Nat.lt_of_lt_of_le (show 1000 < 2 ^ 10 by decide) (Nat.pow_le_pow_right (by decide) (by decide)))
theorem at_ints {ms : List Int} {k : Int} (h0 : 0 ≤ k) (h1 : k < ms.length) : ∃ m, L2.atI (ms.map D.int) k = some (.int m) ∧ m ∈ ms := by
  have hk : k.toNat < ms.length := by omega
  have e : (k.toNat : Int) = k := by omega
  have hz : (ms.map D.int)[k.toNat]? = some (.int ms[k.toNat]) := by rw [List.getElem?_map, List.getElem?_eq_getElem hk]; rfl
  have z := atI_nat hz
  rw [e] at z
  exact ⟨ms[k.toNat], z, List.getElem_mem hk⟩
def w_set : WF := fun ds S Q => ∃ (d : Nat) (ms : List Int) (x0 : MO) (c : Int), ds = [.mut d, .lst (ms.map D.int)] ∧ S[d]? = some x0 ∧ Pd x0 c ∧ 0 ≤ c ∧ c ≤ 1000 ∧ (∀ m ∈ ms, 0 < m ∧ m ∣ 420 ∧ m ≤ 12) ∧ 0 < ms.length ∧ ms.length ≤ 100 ∧ ∀ (x : MO) (c' : Int) (y : Mdl), Pd x c' → c ≤ c' → c' ≤ c + 50 → WfM y → Q (md y) (S.set d x)
theorem sc__law_set : FnScope ["draws", "moduli", "many", "rests", "rest", "some", "turn", "number"] ["draws", "moduli"] (defScope s__law_set) := ⟨rfl, rfl, rfl, by decide +kernel, rfl, by decide +kernel, by decide +kernel⟩
theorem ok__law_set (T : Tx K mg) : FnOk P w K mg base CX0 3 T.f__law_set T.fd__law_set ["draws", "moduli"] (spW ⟨K, mg⟩ 2 w_set) := by
  refine fnD (k := 2) T.F__law_set sc__law_set (fun cdv A outer s H E hr => ⟨_, (dss_cons (ds_set (i := 2) sc__law_set.nd (d_ix (dv 1) (d_call (ok__law_take T) (hr.mono (by decide)) T.m__law_take T.F__law_take.kp T.b__law_take (da_cons (dv 0) (da_cons (d_callB call_len_seq snd_len T.z_len (da_cons (dv 1) da_nil) (hv := bt_len)) da_nil)))))
  (dss_cons (ds_setL (i := 3) sc__law_set.nd (p_fz (p_lcI (own := [("rest", 4)]) rfl sc__law_set.nd (ii_range T.z_range (da_cons (d_callB (call_min2 rfl) snd_min2 T.z_min (da_cons (dv 2) (da_cons d_int da_nil)) (hv := bt_min)) da_nil)) (blkOk_by (own := [("rest", 4)]) (N := ["draws", "moduli", "many", "rests", "rest", "some", "turn", "number"]) (sc := defScope s__law_set) (by decide +kernel)) (gown_name (by decide)) (fun _ _ _ _ _ => (dg_name (i := 4) sc__law_set.nd)) (fun _ _ _ _ _ => (dts_one (dt_cmp op_eq snd_iEq (d_callC (ok__law_take T) (hr.mono (by decide)) T.m__law_take T.F__law_take.kp T.b__law_take (da_cons (dv 0) (da_cons d_int da_nil))) d_int (nomark _)))) (fun _ _ _ _ _ => (dv 4)))))
  (dss_cons (ds_if (dt_cmp op_eq snd_iEq (d_call (ok__law_take T) (hr.mono (by decide)) T.m__law_take T.F__law_take.kp T.b__law_take (da_cons (dv 0) (da_cons d_int da_nil))) d_int (nomark _)) (dss_one (ds_set (i := 3) sc__law_set.nd (d_listRg rfl T.z_list T.z_range (dv 2)))) dss_nil)
  (dss_cons (ds_set (i := 5) sc__law_set.nd (d_fz (d_lcI (own := [("turn", 6)]) rfl sc__law_set.nd (ii_range T.z_range (da_cons (d_call (ok__law_take T) (hr.mono (by decide)) T.m__law_take T.F__law_take.kp T.b__law_take (da_cons (dv 0) (da_cons d_int da_nil))) da_nil)) (blkOk_by (own := [("turn", 6)]) (N := ["draws", "moduli", "many", "rests", "rest", "some", "turn", "number"]) (sc := defScope s__law_set) (by decide +kernel)) (gown_name (by decide)) (fun _ _ _ _ _ => (dg_name (i := 6) sc__law_set.nd)) (fun _ _ _ _ _ => dts_nil) (fun _ _ _ _ _ => (d_callC (ok__law_take T) (hr.mono (by decide)) T.m__law_take T.F__law_take.kp T.b__law_take (da_cons (dv 0) (da_cons (d_ixC (G' := ⟨K, mg⟩) (d_lst (da_cons d_int (da_cons d_int (da_cons d_int da_nil)))) (d_callC (ok__law_take T) (hr.mono (by decide)) T.m__law_take T.F__law_take.kp T.b__law_take (da_cons (dv 0) (da_cons d_int da_nil)))) da_nil)))))))
  (dss_one (ds_ret (d_tup (da_cons (dv 2) (da_cons (dv 3) (da_cons (d_fz (d_lcI (own := [("number", 7)]) rfl sc__law_set.nd (ii_range T.z_range (da_cons d_int da_nil)) (blkOk_by (own := [("number", 7)]) (N := ["draws", "moduli", "many", "rests", "rest", "some", "turn", "number"]) (sc := defScope s__law_set) (by decide +kernel)) (gown_name (by decide)) (fun _ _ _ _ _ => (dg_name (i := 7) sc__law_set.nd)) (fun _ _ _ _ _ => (dts_one (dt_cmp (op_inDC (K' := K) (room65 hr)) snd_inD (dv 7) (dv 5) (by with_unfolding_all rfl)))) (fun _ _ _ _ _ => (dv 7)))) da_nil))))))))))⟩) (fun ds S Q hl h => ?_)
  obtain ⟨d, ms, x0, c, rfl, hS, p0, c0, c1, hm, ml, ml2, h⟩ := h
  have dl : d < S.length := (List.getElem?_eq_some_iff.mp hS).1
  refine seqG fun R hR => ?_
  simp only [true_and, and_true, oU2, oUn1, oL1, oS1, oR1, oJust, iAdd, iSub, iMul, iFdiv, iMod, iEq, iNe, iLt, iLe, iGt, iGe, iNeg, iAbs, DL.iStr, wFmt, wJs, wJoined, sNext, sSeq, sDrop, sRet, sRetN, sIf, sAsg, sPar, wOp, wVar, wC, wUn, wCons, wNil, wCB, wCall, wMake, wMakeSw, wCallSw, oI, oI0, oU, wTest, wAnd, wOr, DL.wNot, wAndV, wOrV, wNotV, wIf, wTup, wLst, wLstM, gwName, gwNil, gwCons, gwTup, gwSub, oInt1, oAbsI, oLen, oGcd, oDivmod, oMax2, oMin2, oIsi, tyOf, clOf, oStrI, if_t1, if_f1, Bool.not_true, Bool.not_false, startD, List.map_cons, List.map_nil, List.length_cons, List.length_nil, List.cons_append, List.nil_append, List.getElem?_cons_zero, List.getElem?_cons_succ, List.set_cons_zero, List.set_cons_succ, List.replicate, Nat.reduceAdd, Nat.reduceSub, Nat.zero_add, Nat.sub_self, Nat.add_sub_cancel, sForI, forStep, listD, seqD, wFz, wTruth, wiL, wiT, wiR, wiR2, wiET, wLcI, wDcI, wYes, wSortKI, wMakeI, sSetF, putFD, wMerge2, oEqDT, oBoolD, wListRg, wSMeth, oOwn2, wCutE, oRepL, wDIn, oLcm, wChain, kt_ii, kt_ib, kt_rr, wFld_e, wProp_e, ixr_lst, ixr_tup, ixr_tpk, w_is_int, w_within, w_asc, fld_flags, fld_odd, ins_rd, w_initT, w_initL, w_told, w_within, sWhile, w_modulus, w_chosen, w_contains, oOwnIn, w_index, w_nextf, oNotI, w_next, w_first, w_or, w_xor, iMulS, at0, at1, at2, oPow, wCut, wCutTo, oAbsI, stayD, gwLst, w_purse, w_take, sWhile, lcStep, wipeD, oCatL, itemsD]
  refine ⟨c, x0, hS, p0, by omega, ⟨by simp; omega, pow1000 (by simp; omega)⟩, fun k x1 k0 k1 p1 => ?_⟩
  obtain ⟨m, e, hmm⟩ := at_ints k0 (by simpa using k1)
  refine atOf e ?_
  obtain ⟨m0, m12, mle⟩ := hm m hmm
  have hS1 : (S.set d x1)[d]? = some x1 := set_at hS
  have dl1 : d < (S.set d x1).length := by rw [List.length_set]; exact dl
  have h' : ∀ (x : MO) (c' : Int) (y : Mdl), Pd x c' → c ≤ c' → c' ≤ c + 50 → WfM y → Q (md y) ((S.set d x1).set d x) := fun x c' y a1 a2 a3 a4 => by
    rw [List.set_set]
    exact h x c' y a1 a2 a3 a4
  generalize S.set d x1 = S1 at hS1 dl1 h' ⊢
  subst hR
  refine seqG fun R hR => ?_
  simp only [true_and, and_true, oU2, oUn1, oL1, oS1, oR1, oJust, iAdd, iSub, iMul, iFdiv, iMod, iEq, iNe, iLt, iLe, iGt, iGe, iNeg, iAbs, DL.iStr, wFmt, wJs, wJoined, sNext, sSeq, sDrop, sRet, sRetN, sIf, sAsg, sPar, wOp, wVar, wC, wUn, wCons, wNil, wCB, wCall, wMake, wMakeSw, wCallSw, oI, oI0, oU, wTest, wAnd, wOr, DL.wNot, wAndV, wOrV, wNotV, wIf, wTup, wLst, wLstM, gwName, gwNil, gwCons, gwTup, gwSub, oInt1, oAbsI, oLen, oGcd, oDivmod, oMax2, oMin2, oIsi, tyOf, clOf, oStrI, if_t1, if_f1, Bool.not_true, Bool.not_false, startD, List.map_cons, List.map_nil, List.length_cons, List.length_nil, List.cons_append, List.nil_append, List.getElem?_cons_zero, List.getElem?_cons_succ, List.set_cons_zero, List.set_cons_succ, List.replicate, Nat.reduceAdd, Nat.reduceSub, Nat.zero_add, Nat.sub_self, Nat.add_sub_cancel, sForI, forStep, listD, seqD, wFz, wTruth, wiL, wiT, wiR, wiR2, wiET, wLcI, wDcI, wYes, wSortKI, wMakeI, sSetF, putFD, wMerge2, oEqDT, oBoolD, wListRg, wSMeth, oOwn2, wCutE, oRepL, wDIn, oLcm, wChain, kt_ii, kt_ib, kt_rr, wFld_e, wProp_e, ixr_lst, ixr_tup, ixr_tpk, w_is_int, w_within, w_asc, fld_flags, fld_odd, ins_rd, w_initT, w_initL, w_told, w_within, sWhile, w_modulus, w_chosen, w_contains, oOwnIn, w_index, w_nextf, oNotI, w_next, w_first, w_or, w_xor, iMulS, at0, at1, at2, oPow, wCut, wCutTo, oAbsI, stayD, gwLst, w_purse, w_take, sWhile, lcStep, wipeD, oCatL, itemsD]
  rw [if_neg (show ¬ 30 < m by omega), rangeD_map]
  refine ⟨by omega, ?_⟩
  refine lcO_dri (fun i : Nat => D.int (0 + i)) _ 1 (c + 1) (fun done acc => ∃ rs : List Int, acc = rs.map D.int ∧ Up rs ∧ ∀ r ∈ rs, 0 ≤ r ∧ r < done.length) (by decide) (fun _ => trivial) hS1 p1 ⟨[], rfl, .nil, fun _ h => by cases h⟩ (fun done n tl hd x c' acc kk p h1 h2 pa hla hk => ?_) fun x c' acc p h1 h2 pa hla => ?_
  · simp only [true_and, and_true, oU2, oUn1, oL1, oS1, oR1, oJust, iAdd, iSub, iMul, iFdiv, iMod, iEq, iNe, iLt, iLe, iGt, iGe, iNeg, iAbs, DL.iStr, wFmt, wJs, wJoined, sNext, sSeq, sDrop, sRet, sRetN, sIf, sAsg, sPar, wOp, wVar, wC, wUn, wCons, wNil, wCB, wCall, wMake, wMakeSw, wCallSw, oI, oI0, oU, wTest, wAnd, wOr, DL.wNot, wAndV, wOrV, wNotV, wIf, wTup, wLst, wLstM, gwName, gwNil, gwCons, gwTup, gwSub, oInt1, oAbsI, oLen, oGcd, oDivmod, oMax2, oMin2, oIsi, tyOf, clOf, oStrI, if_t1, if_f1, Bool.not_true, Bool.not_false, startD, List.map_cons, List.map_nil, List.length_cons, List.length_nil, List.cons_append, List.nil_append, List.getElem?_cons_zero, List.getElem?_cons_succ, List.set_cons_zero, List.set_cons_succ, List.replicate, Nat.reduceAdd, Nat.reduceSub, Nat.zero_add, Nat.sub_self, Nat.add_sub_cancel, sForI, forStep, listD, seqD, wFz, wTruth, wiL, wiT, wiR, wiR2, wiET, wLcI, wDcI, wYes, wSortKI, wMakeI, sSetF, putFD, wMerge2, oEqDT, oBoolD, wListRg, wSMeth, oOwn2, wCutE, oRepL, wDIn, oLcm, wChain, kt_ii, kt_ib, kt_rr, wFld_e, wProp_e, ixr_lst, ixr_tup, ixr_tpk, w_is_int, w_within, w_asc, fld_flags, fld_odd, ins_rd, w_initT, w_initL, w_told, w_within, sWhile, w_modulus, w_chosen, w_contains, oOwnIn, w_index, w_nextf, oNotI, w_next, w_first, w_or, w_xor, iMulS, at0, at1, at2, oPow, wCut, wCutTo, oAbsI, stayD, gwLst, w_purse, w_take, sWhile, lcStep, wipeD, oCatL, itemsD]
    rw [List.length_range] at h2 hla
    obtain ⟨rs, rfl, hu, hr⟩ := pa
    have hn := range_split hd
    have hn' : n < m.toNat := by have := congrArg List.length hd; simp at this; omega
    rw [List.length_map] at hla
    refine ⟨c', x, drw_at dl1, p, by omega, ⟨by decide, pow1000 (by decide)⟩, fun k x2 _ _ p2 => ?_⟩
    rw [drw_set dl1]
    by_cases kz : k = 0
    · refine ifT kz ⟨_, drw_acc, line5 (by rw [List.length_map]; omega), ?_⟩
      rw [drw_put]
      refine hk x2 (c' + 1) _ p2 (by omega) (by omega) ⟨rs ++ [0 + (n : Int)], by simp, up_snoc hu fun r hr' => by have := hr r hr'; omega, fun r hr' => ?_⟩ (by simp)
      rw [List.length_append, List.length_singleton]
      rcases List.mem_append.mp hr' with z | z
      · have := hr r z
        omega
      · rw [List.mem_singleton.mp z]
        omega
    · exact ifF kz (hk x2 _ _ p2 (by omega) (by omega) ⟨rs, rfl, hu, fun r hr' => by rw [List.length_append]; have := hr r hr'; omega⟩ (by simp))
  · rw [List.length_range] at h2 hla
    obtain ⟨rs, rfl, hu, hr⟩ := pa
    rw [List.length_range] at hr
    replace hr : ∀ r ∈ rs, 0 ≤ r ∧ r < m := fun r z => by have := hr r z; omega
    rw [List.length_map] at hla
    refine Fz.draw p (loL_int (f := fun i => i)) ?_
    have c'l : c' ≤ c + 13 := by omega
    have rl : rs.length ≤ 12 := by omega
    have h3 : ∀ (x2 : MO) (c2 : Int) (y : Mdl), Pd x2 c2 → c ≤ c2 → c2 ≤ c + 50 → WfM y → Q (md y) ((S1.set d x).set d x2) := fun x2 c2 y a1 a2 a3 a4 => by
      rw [List.set_set]
      exact h' x2 c2 y a1 a2 a3 a4
    have hS2 : (S1.set d x)[d]? = some x := set_at hS1
    have dl2 : d < (S1.set d x).length := by rw [List.length_set]; exact dl1
    generalize S1.set d x = S2 at hS2 dl2 h3 ⊢
    subst hR
    refine seqG fun R hR => ?_
    have rest : ∀ (rs : List Int) (x2 : MO) (c2 : Int), Pd x2 c2 → c ≤ c2 → c2 ≤ c + 14 → (∀ r ∈ rs, 0 ≤ r ∧ r < m) → Up rs → rs.length ≤ 12 → R ({ nx := fun _ S' => Q .non S', rt := Q } : DEnds) [some (.mut d), some (.lst (ms.map D.int)), some (.int m), some (.lst (rs.map D.int)), none, none, none, none] (S2.set d x2) := by
      intro rs x2 c2 p2 g1 g2 hr hu rl
      have h4 : ∀ (x3 : MO) (c3 : Int) (y : Mdl), Pd x3 c3 → c ≤ c3 → c3 ≤ c + 50 → WfM y → Q (md y) ((S2.set d x2).set d x3) := fun x3 c3 y a1 a2 a3 a4 => by
        rw [List.set_set]
        exact h3 x3 c3 y a1 a2 a3 a4
      have hS3 : (S2.set d x2)[d]? = some x2 := set_at hS2
      have dl3 : d < (S2.set d x2).length := by rw [List.length_set]; exact dl2
      generalize S2.set d x2 = S3 at hS3 dl3 h4 ⊢
      subst hR
      refine seqG fun R hR => ?_
      simp only [true_and, and_true, oU2, oUn1, oL1, oS1, oR1, oJust, iAdd, iSub, iMul, iFdiv, iMod, iEq, iNe, iLt, iLe, iGt, iGe, iNeg, iAbs, DL.iStr, wFmt, wJs, wJoined, sNext, sSeq, sDrop, sRet, sRetN, sIf, sAsg, sPar, wOp, wVar, wC, wUn, wCons, wNil, wCB, wCall, wMake, wMakeSw, wCallSw, oI, oI0, oU, wTest, wAnd, wOr, DL.wNot, wAndV, wOrV, wNotV, wIf, wTup, wLst, wLstM, gwName, gwNil, gwCons, gwTup, gwSub, oInt1, oAbsI, oLen, oGcd, oDivmod, oMax2, oMin2, oIsi, tyOf, clOf, oStrI, if_t1, if_f1, Bool.not_true, Bool.not_false, startD, List.map_cons, List.map_nil, List.length_cons, List.length_nil, List.cons_append, List.nil_append, List.getElem?_cons_zero, List.getElem?_cons_succ, List.set_cons_zero, List.set_cons_succ, List.replicate, Nat.reduceAdd, Nat.reduceSub, Nat.zero_add, Nat.sub_self, Nat.add_sub_cancel, sForI, forStep, listD, seqD, wFz, wTruth, wiL, wiT, wiR, wiR2, wiET, wLcI, wDcI, wYes, wSortKI, wMakeI, sSetF, putFD, wMerge2, oEqDT, oBoolD, wListRg, wSMeth, oOwn2, wCutE, oRepL, wDIn, oLcm, wChain, kt_ii, kt_ib, kt_rr, wFld_e, wProp_e, ixr_lst, ixr_tup, ixr_tpk, w_is_int, w_within, w_asc, fld_flags, fld_odd, ins_rd, w_initT, w_initL, w_told, w_within, sWhile, w_modulus, w_chosen, w_contains, oOwnIn, w_index, w_nextf, oNotI, w_next, w_first, w_or, w_xor, iMulS, at0, at1, at2, oPow, wCut, wCutTo, oAbsI, stayD, gwLst, w_purse, w_take, sWhile, lcStep, wipeD, oCatL, itemsD]
      refine ⟨c2, x2, hS3, p2, by omega, ⟨by decide, pow1000 (by decide)⟩, fun k3 x3 a0 a1 p3 => ⟨by omega, ?_⟩⟩
      rw [rangeD_map]
      have hS4 : (S3.set d x3)[d]? = some x3 := set_at hS3
      have dl4 : d < (S3.set d x3).length := by rw [List.length_set]; exact dl3
      refine lcO_dr (fun i : Nat => D.int (0 + i)) _ 2 (c2 + 1) (fun acc => ∃ vs : List Int, acc = vs.map D.int) (by decide) (fun _ => trivial) hS4 p3 ⟨[], rfl⟩ (fun n hn x c' acc kk p h1 h2 pa hla hk => ?_) fun x c' acc p h1 h2 pa hla => ?_
      · rw [List.length_range] at h2 hla
        obtain ⟨vs, rfl⟩ := pa
        rw [List.length_map] at hla
        simp only [true_and, and_true, oU2, oUn1, oL1, oS1, oR1, oJust, iAdd, iSub, iMul, iFdiv, iMod, iEq, iNe, iLt, iLe, iGt, iGe, iNeg, iAbs, DL.iStr, wFmt, wJs, wJoined, sNext, sSeq, sDrop, sRet, sRetN, sIf, sAsg, sPar, wOp, wVar, wC, wUn, wCons, wNil, wCB, wCall, wMake, wMakeSw, wCallSw, oI, oI0, oU, wTest, wAnd, wOr, DL.wNot, wAndV, wOrV, wNotV, wIf, wTup, wLst, wLstM, gwName, gwNil, gwCons, gwTup, gwSub, oInt1, oAbsI, oLen, oGcd, oDivmod, oMax2, oMin2, oIsi, tyOf, clOf, oStrI, if_t1, if_f1, Bool.not_true, Bool.not_false, startD, List.map_cons, List.map_nil, List.length_cons, List.length_nil, List.cons_append, List.nil_append, List.getElem?_cons_zero, List.getElem?_cons_succ, List.set_cons_zero, List.set_cons_succ, List.replicate, Nat.reduceAdd, Nat.reduceSub, Nat.zero_add, Nat.sub_self, Nat.add_sub_cancel, sForI, forStep, listD, seqD, wFz, wTruth, wiL, wiT, wiR, wiR2, wiET, wLcI, wDcI, wYes, wSortKI, wMakeI, sSetF, putFD, wMerge2, oEqDT, oBoolD, wListRg, wSMeth, oOwn2, wCutE, oRepL, wDIn, oLcm, wChain, kt_ii, kt_ib, kt_rr, wFld_e, wProp_e, ixr_lst, ixr_tup, ixr_tpk, w_is_int, w_within, w_asc, fld_flags, fld_odd, ins_rd, w_initT, w_initL, w_told, w_within, sWhile, w_modulus, w_chosen, w_contains, oOwnIn, w_index, w_nextf, oNotI, w_next, w_first, w_or, w_xor, iMulS, at0, at1, at2, oPow, wCut, wCutTo, oAbsI, stayD, gwLst, w_purse, w_take, sWhile, lcStep, wipeD, oCatL, itemsD]
        refine ⟨line5 (by decide), c', x, drw_at dl4, p, by omega, ⟨by decide, pow1000 (by decide)⟩, fun k4 x4 b0 b1 p4 => ?_⟩
        rw [drw_set dl4]
        obtain ⟨v, ev, v0, v1⟩ : ∃ v : Int, L2.atI [D.int 9, .int 40, .int 300] k4 = some (.int v) ∧ 0 < v ∧ v ≤ 300 := by
          have h3 : k4 = 0 ∨ k4 = 1 ∨ k4 = 2 := by omega
          rcases h3 with rfl | rfl | rfl
          · exact ⟨9, at0, by decide, by decide⟩
          · exact ⟨40, at1, by decide, by decide⟩
          · exact ⟨300, at2, by decide, by decide⟩
        refine atOf ev ⟨c' + 1, x4, drw_at dl4, p4, by omega, ⟨v0, pow1000 (by omega)⟩, fun k5 x5 _ _ p5 => ?_⟩
        rw [drw_set dl4]
        refine ⟨_, drw_acc, line5 (by rw [List.length_map]; omega), ?_⟩
        rw [drw_put]
        exact hk x5 _ _ p5 (by omega) (by omega) ⟨vs ++ [k5], by simp⟩ (by simp)
      · rw [List.length_range] at h2 hla
        obtain ⟨vs, rfl⟩ := pa
        rw [List.length_map] at hla
        rw [List.length_set, List.set_set]
        refine Fz.draw p (loL_int (f := fun i => i)) ?_
        subst hR
        simp only [true_and, and_true, oU2, oUn1, oL1, oS1, oR1, oJust, iAdd, iSub, iMul, iFdiv, iMod, iEq, iNe, iLt, iLe, iGt, iGe, iNeg, iAbs, DL.iStr, wFmt, wJs, wJoined, sNext, sSeq, sDrop, sRet, sRetN, sIf, sAsg, sPar, wOp, wVar, wC, wUn, wCons, wNil, wCB, wCall, wMake, wMakeSw, wCallSw, oI, oI0, oU, wTest, wAnd, wOr, DL.wNot, wAndV, wOrV, wNotV, wIf, wTup, wLst, wLstM, gwName, gwNil, gwCons, gwTup, gwSub, oInt1, oAbsI, oLen, oGcd, oDivmod, oMax2, oMin2, oIsi, tyOf, clOf, oStrI, if_t1, if_f1, Bool.not_true, Bool.not_false, startD, List.map_cons, List.map_nil, List.length_cons, List.length_nil, List.cons_append, List.nil_append, List.getElem?_cons_zero, List.getElem?_cons_succ, List.set_cons_zero, List.set_cons_succ, List.replicate, Nat.reduceAdd, Nat.reduceSub, Nat.zero_add, Nat.sub_self, Nat.add_sub_cancel, sForI, forStep, listD, seqD, wFz, wTruth, wiL, wiT, wiR, wiR2, wiET, wLcI, wDcI, wYes, wSortKI, wMakeI, sSetF, putFD, wMerge2, oEqDT, oBoolD, wListRg, wSMeth, oOwn2, wCutE, oRepL, wDIn, oLcm, wChain, kt_ii, kt_ib, kt_rr, wFld_e, wProp_e, ixr_lst, ixr_tup, ixr_tpk, w_is_int, w_within, w_asc, fld_flags, fld_odd, ins_rd, w_initT, w_initL, w_told, w_within, sWhile, w_modulus, w_chosen, w_contains, oOwnIn, w_index, w_nextf, oNotI, w_next, w_first, w_or, w_xor, iMulS, at0, at1, at2, oPow, wCut, wCutTo, oAbsI, stayD, gwLst, w_purse, w_take, sWhile, lcStep, wipeD, oCatL, itemsD]
        refine ⟨by decide, ?_⟩
        rw [rangeD_map]
        refine lcO_some (fun i : Nat => D.int (0 + i)) (fun i : Nat => if vs.contains (i : Int) then some (D.int i) else none) (List.range (300 : Int).toNat) (fun _ => trivial) (line5 (by decide)) (loL_of fun z hz => ?_) (fun n hn acc kk hl hkk => ?_) ?_
        · obtain ⟨i, _, hi⟩ := List.mem_filterMap.mp hz
          split at hi
          · cases hi
            exact .int _
          · cases hi
        · simp only [true_and, and_true, oU2, oUn1, oL1, oS1, oR1, oJust, iAdd, iSub, iMul, iFdiv, iMod, iEq, iNe, iLt, iLe, iGt, iGe, iNeg, iAbs, DL.iStr, wFmt, wJs, wJoined, sNext, sSeq, sDrop, sRet, sRetN, sIf, sAsg, sPar, wOp, wVar, wC, wUn, wCons, wNil, wCB, wCall, wMake, wMakeSw, wCallSw, oI, oI0, oU, wTest, wAnd, wOr, DL.wNot, wAndV, wOrV, wNotV, wIf, wTup, wLst, wLstM, gwName, gwNil, gwCons, gwTup, gwSub, oInt1, oAbsI, oLen, oGcd, oDivmod, oMax2, oMin2, oIsi, tyOf, clOf, oStrI, if_t1, if_f1, Bool.not_true, Bool.not_false, startD, List.map_cons, List.map_nil, List.length_cons, List.length_nil, List.cons_append, List.nil_append, List.getElem?_cons_zero, List.getElem?_cons_succ, List.set_cons_zero, List.set_cons_succ, List.replicate, Nat.reduceAdd, Nat.reduceSub, Nat.zero_add, Nat.sub_self, Nat.add_sub_cancel, sForI, forStep, listD, seqD, wFz, wTruth, wiL, wiT, wiR, wiR2, wiET, wLcI, wDcI, wYes, wSortKI, wMakeI, sSetF, putFD, wMerge2, oEqDT, oBoolD, wListRg, wSMeth, oOwn2, wCutE, oRepL, wDIn, oLcm, wChain, kt_ii, kt_ib, kt_rr, wFld_e, wProp_e, ixr_lst, ixr_tup, ixr_tpk, w_is_int, w_within, w_asc, fld_flags, fld_odd, ins_rd, w_initT, w_initL, w_told, w_within, sWhile, w_modulus, w_chosen, w_contains, oOwnIn, w_index, w_nextf, oNotI, w_next, w_first, w_or, w_xor, iMulS, at0, at1, at2, oPow, wCut, wCutTo, oAbsI, stayD, gwLst, w_purse, w_take, sWhile, lcStep, wipeD, oCatL, itemsD]
          refine in_int ?_
          rw [Int.zero_add]
          dsimp only
          cases hc : vs.contains (n : Int) with
          | true =>
            rw [hc] at hkk
            exact acc_end hl hkk
          | false =>
            rw [hc] at hkk
            have hkk' : kk (S3.set d x ++ [MO.l (acc ++ [])]) := hkk
            rw [List.append_nil] at hkk'
            exact hkk'
        · refine ⟨line5 (by decide), ?_⟩
          have e5 : (List.range (300 : Int).toNat).filterMap (fun i : Nat => if vs.contains (i : Int) then some (D.int i) else none) = (((List.range 300).filter fun i : Nat => vs.contains (i : Int)).map fun i : Nat => (i : Int)).map D.int := by
            exact keepI _
          rw [e5]
          refine h4 x c' ⟨m, rs, _⟩ p (by omega) (by omega) ⟨m0, m12, mle, hr, hu, by show rs.length ≤ 12; omega, fun n hn => ?_, ?_⟩
          · obtain ⟨i, hi, rfl⟩ := List.mem_map.mp hn
            have := List.mem_range.mp (List.mem_filter.mp hi).1
            omega
          · exact List.Pairwise.map (fun i : Nat => (i : Int)) (fun a b h => by omega) (List.pairwise_lt_range.filter _)
    simp only [true_and, and_true, oU2, oUn1, oL1, oS1, oR1, oJust, iAdd, iSub, iMul, iFdiv, iMod, iEq, iNe, iLt, iLe, iGt, iGe, iNeg, iAbs, DL.iStr, wFmt, wJs, wJoined, sNext, sSeq, sDrop, sRet, sRetN, sIf, sAsg, sPar, wOp, wVar, wC, wUn, wCons, wNil, wCB, wCall, wMake, wMakeSw, wCallSw, oI, oI0, oU, wTest, wAnd, wOr, DL.wNot, wAndV, wOrV, wNotV, wIf, wTup, wLst, wLstM, gwName, gwNil, gwCons, gwTup, gwSub, oInt1, oAbsI, oLen, oGcd, oDivmod, oMax2, oMin2, oIsi, tyOf, clOf, oStrI, if_t1, if_f1, Bool.not_true, Bool.not_false, startD, List.map_cons, List.map_nil, List.length_cons, List.length_nil, List.cons_append, List.nil_append, List.getElem?_cons_zero, List.getElem?_cons_succ, List.set_cons_zero, List.set_cons_succ, List.replicate, Nat.reduceAdd, Nat.reduceSub, Nat.zero_add, Nat.sub_self, Nat.add_sub_cancel, sForI, forStep, listD, seqD, wFz, wTruth, wiL, wiT, wiR, wiR2, wiET, wLcI, wDcI, wYes, wSortKI, wMakeI, sSetF, putFD, wMerge2, oEqDT, oBoolD, wListRg, wSMeth, oOwn2, wCutE, oRepL, wDIn, oLcm, wChain, kt_ii, kt_ib, kt_rr, wFld_e, wProp_e, ixr_lst, ixr_tup, ixr_tpk, w_is_int, w_within, w_asc, fld_flags, fld_odd, ins_rd, w_initT, w_initL, w_told, w_within, sWhile, w_modulus, w_chosen, w_contains, oOwnIn, w_index, w_nextf, oNotI, w_next, w_first, w_or, w_xor, iMulS, at0, at1, at2, oPow, wCut, wCutTo, oAbsI, stayD, gwLst, w_purse, w_take, sWhile, lcStep, wipeD, oCatL, itemsD]
    refine ⟨c', x, hS2, p, by omega, ⟨by decide, pow1000 (by decide)⟩, fun k x2 _ _ p2 => ?_⟩
    by_cases kz : k = 0
    · refine ifT kz ⟨by omega, ?_⟩
      rw [show rangeD 0 m.toNat = ((List.range m.toNat).map fun i : Nat => (0 + (i : Int))).map D.int by rw [rangeD_map, List.map_map]; rfl]
      refine rest _ x2 _ p2 (by omega) (by omega) (fun r hr => ?_) (List.Pairwise.map (fun i : Nat => (0 + (i : Int))) (fun a b h => by omega) List.pairwise_lt_range) (by simp; omega)
      obtain ⟨i, hi, rfl⟩ := List.mem_map.mp hr
      have := List.mem_range.mp hi
      omega
    · exact ifF kz (rest rs x2 _ p2 (by omega) (by omega) hr hu rl)
end
end K1
set_option Elab.async false
set_option linter.all false
set_option maxRecDepth 100000
set_option maxHeartbeats 0
namespace K1
open PySem PySem.Spec PyProof.Rows L2 DL
section
variable {P : Program} {w : World} {K : PySem.W.Frag} {mg : Str → Option Value} {base : Heap}
def holds (y : Mdl) (n : Int) : Bool := y.rs.contains (n % y.m) ^^ y.ns.contains n
/-- rounds as the law makes them -/
structure Ok (r : Rnd) : Prop where
  dv : r.1.length ∣ 420
  nd : r.2.Nodup
  up : Up r.2
  ge : ∀ n ∈ r.2, 0 ≤ n ∧ n < 300
theorem Ok.pos {r : Rnd} (h : Ok r) : 0 < r.1.length := Nat.pos_of_dvd_of_pos h.dv (by decide)
theorem Ok.le {r : Rnd} (h : Ok r) : r.1.length ≤ 420 := Nat.le_of_dvd (by decide) h.dv
theorem Ok.wf {r : Rnd} (h : Ok r) : Wf r := by
  refine ⟨h.pos, by have := h.le; omega, h.nd, h.up, ?_, fun n hn => by have := h.ge n hn; omega⟩
  have := nodup_sub_len (b := (List.range 300).map fun i : Nat => (i : Int)) h.nd fun n hn => by
    have := h.ge n hn
    exact List.mem_map.mpr ⟨n.toNat, List.mem_range.mpr (by omega), by omega⟩
  simp at this
  omega
theorem up_nodup {ns : List Int} (h : Up ns) : ns.Nodup := h.imp fun e => by omega
theorem lcm24 {a b : Nat} (ha : a ∣ 420) (hb : b ∣ 420) : Nat.lcm a b ∣ 420 := Nat.lcm_dvd ha hb
theorem fl_at {r : Rnd} {n : Nat} : r.1.getD (((n : Int)) % (r.1.length : Int)).toNat false = r.1.getD (n % r.1.length) false := by
  rw [← Int.natCast_emod, Int.toNat_natCast]
/-- what combined gives -/
theorem comb_ok {t : Tab} {r1 r2 : Rnd} (o1 : Ok r1) (o2 : Ok r2) {odd : List Int} (nd : odd.Nodup) (ou : Up odd) (hm : ∀ n, n ∈ odd ↔ (n ∈ r1.2 ∨ n ∈ r2.2) ∧ pick t (mem r1 n) (mem r2 n) ≠ pick t (r1.1.getD (n % (r1.1.length : Int)).toNat false) (r2.1.getD (n % (r2.1.length : Int)).toNat false)) :
    Ok (FL t r1 r2 (Nat.lcm r1.1.length r2.1.length), odd) ∧ ∀ n : Int, mem (FL t r1 r2 (Nat.lcm r1.1.length r2.1.length), odd) n = pick t (mem r1 n) (mem r2 n) := by
  have hLp : 0 < Nat.lcm r1.1.length r2.1.length := Nat.lcm_pos o1.pos o2.pos
  refine ⟨⟨by show (FL t r1 r2 _).length ∣ 420; rw [FL_len]; exact lcm24 o1.dv o2.dv, nd, ou, fun n hn => ?_⟩, fun n => ?_⟩
  · rcases ((hm n).mp hn).1 with z | z
    · exact o1.ge n z
    · exact o2.ge n z
  · unfold mem
    dsimp only
    rw [FL_len, FL_at (mod_lt hLp), mod_mod o1.pos (Nat.dvd_lcm_left _ _) hLp, mod_mod o2.pos (Nat.dvd_lcm_right _ _) hLp]
    have hn := hm n
    unfold mem at hn
    by_cases h1 : n ∈ r1.2 ∨ n ∈ r2.2
    · simp only [h1, true_and] at hn
      generalize pick t (r1.1.getD (n % (r1.1.length : Int)).toNat false) (r2.1.getD (n % (r2.1.length : Int)).toNat false) = a at hn ⊢
      generalize pick t _ _ = b at hn ⊢
      have hd : decide (n ∈ odd) = (b ^^ a) := by
        by_cases e : b = a
        · rw [decide_eq_false (fun z => (hn.mp z) e), e, Bool.xor_self]
        · rw [decide_eq_true (hn.mpr e)]
          cases a <;> cases b <;> first | rfl | exact absurd rfl e
      rw [hd]
      cases a <;> cases b <;> rfl
    · have h2 : n ∉ r1.2 := fun z => h1 (.inl z)
      have h3 : n ∉ r2.2 := fun z => h1 (.inr z)
      have h4 : n ∉ odd := fun z => h1 (hn.mp z).1
      rw [decide_eq_false h2, decide_eq_false h3, decide_eq_false h4, Bool.xor_false, Bool.xor_false, Bool.xor_false]
theorem md0 {y : Mdl} {S : MS} {Q : D → MS → Prop} : oIx (md y) (.int 0) S Q = Q (.int y.m) S := by
  unfold md
  rw [ixr_tup]
  unfold AtOf
  rw [at0]
theorem md1 {y : Mdl} {S : MS} {Q : D → MS → Prop} : oIx (md y) (.int 1) S Q = Q (.lst (y.rs.map D.int)) S := by
  unfold md
  rw [ixr_tup]
  unfold AtOf
  rw [at1]
theorem md2 {y : Mdl} {S : MS} {Q : D → MS → Prop} : oIx (md y) (.int 2) S Q = Q (.lst (y.ns.map D.int)) S := by
  unfold md
  rw [ixr_tup]
  unfold AtOf
  rw [at2]
theorem op_use {t : Tab} {r1 r2 : Rnd} {S : MS} {Q : D → MS → Prop} (o1 : Ok r1) (o2 : Ok r2) (q : ∀ r, Ok r → r.1.length = Nat.lcm r1.1.length r2.1.length → (∀ n : Int, mem r n = pick t (mem r1 n) (mem r2 n)) → Q (rd r) S) : w_op t [rd r1, rd r2] S Q :=
  ⟨r1, r2, rfl, r1, r2, t, rfl, o1.wf, o2.wf, Nat.le_trans (Nat.le_of_dvd (by decide) (lcm24 o1.dv o2.dv)) (by decide), fun odd nd ou hm => q (FL t r1 r2 (Nat.lcm r1.1.length r2.1.length), odd) (comb_ok o1 o2 nd ou hm).1 FL_len (comb_ok o1 o2 nd ou hm).2⟩
theorem pick_or {a b : Bool} : pick (false, true, true, true) a b = (a || b) := by cases a <;> cases b <;> rfl
theorem pick_and {a b : Bool} : pick (false, false, false, true) a b = (a && b) := by cases a <;> cases b <;> rfl
theorem pick_sub {a b : Bool} : pick (false, false, true, false) a b = (a && !b) := by cases a <;> cases b <;> rfl
theorem pick_xor {a b : Bool} : pick (false, true, true, false) a b = (a ^^ b) := by cases a <;> cases b <;> rfl
def rr (m : Int) (ns : List Int) : Rnd := ((List.range m.toNat).map fun k : Nat => decide ((k : Int) ∈ ns), [])
theorem rr_len {m : Int} {ns : List Int} (h : 0 < m) : ((rr m ns).1.length : Int) = m := by
  unfold rr
  simp
  omega
theorem rr_ok {m : Int} {ns : List Int} (h : 0 < m) (h24 : m ∣ 420) : Ok (rr m ns) := by
  refine ⟨?_, List.nodup_nil, .nil, fun n hn => by cases hn⟩
  have := rr_len (ns := ns) h
  have e : ((rr m ns).1.length : Int) ∣ ((420 : Nat) : Int) := by rw [this]; exact h24
  exact Int.natCast_dvd_natCast.mp e
theorem rr_mem {m : Int} {ns : List Int} (h : 0 < m) (n : Int) : mem (rr m ns) n = ns.contains (n % m) := by
  unfold mem
  rw [rr_len h]
  unfold rr
  have h1 := Int.emod_nonneg n (show m ≠ 0 by omega)
  have h2 := Int.emod_lt_of_pos n h
  rw [List.getD_eq_getElem?_getD, List.getElem?_map, List.getElem?_range (by omega)]
  show (decide ((((n % m).toNat : Nat) : Int) ∈ ns) ^^ decide (n ∈ ([] : List Int))) = _
  rw [Int.toNat_of_nonneg h1, decide_eq_false (show n ∉ ([] : List Int) by simp), Bool.xor_false, List.contains_eq_mem]
theorem tl_ok {ns : List Int} (nu : Up ns) (h : ∀ n ∈ ns, 0 ≤ n ∧ n < 300) : Ok ([false], ns) := ⟨show 1 ∣ 420 by decide, up_nodup nu, nu, h⟩
theorem tl_mem {ns : List Int} (n : Int) : mem ([false], ns) n = ns.contains n := by
  unfold mem
  rw [show (n % (([false] : List Bool).length : Int)) = 0 from Int.emod_one n]
  show (false ^^ decide (n ∈ ns)) = _
  rw [Bool.false_xor, List.contains_eq_mem]
def w_holds : WF := fun ds S Q => ∃ y n, ds = [md y, .int n] ∧ WfM y ∧ 0 ≤ n ∧ Q (.bl (holds y n)) S
theorem sc__law_holds : FnScope ["model", "number"] ["model", "number"] (defScope s__law_holds) := ⟨rfl, rfl, rfl, by decide +kernel, rfl, by decide +kernel, by decide +kernel⟩
theorem ok__law_holds (T : Tx K mg) : FnOk P w K mg base CX0 2 T.f__law_holds T.fd__law_holds ["model", "number"] (spW ⟨K, mg⟩ 2 w_holds) := by
  refine fnD (k := 1) T.F__law_holds sc__law_holds (fun cdv A outer s H E hr => ⟨_, (dss_one (ds_ret (d_cmp (op_neD hr.units) snd_neD (d_cmp (op_inD (room65 hr)) snd_inD (d_op op_modN snd_iMod (d_callTy call_int1 snd_int1 T.z_int (da_cons (dv 1) da_nil) (hv := bt_int)) (d_ix (dv 0) d_int)) (d_ix (dv 0) d_int) (by first | exact nobehind _ (by decide) (by decide) | rfl | with_unfolding_all rfl)) (d_cmp (op_inD (room65 hr)) snd_inD (dv 1) (d_ix (dv 0) d_int) (by first | exact nobehind _ (by decide) (by decide) | rfl | with_unfolding_all rfl)) (nomark _))))⟩) (fun ds S Q hl h => ?_)
  obtain ⟨y, n, rfl, wm, n0, h⟩ := h
  simp only [true_and, and_true, oU2, oUn1, oL1, oS1, oR1, oJust, iAdd, iSub, iMul, iFdiv, iMod, iEq, iNe, iLt, iLe, iGt, iGe, iNeg, iAbs, DL.iStr, wFmt, wJs, wJoined, sNext, sSeq, sDrop, sRet, sRetN, sIf, sAsg, sPar, wOp, wVar, wC, wUn, wCons, wNil, wCB, wCall, wMake, wMakeSw, wCallSw, oI, oI0, oU, wTest, wAnd, wOr, DL.wNot, wAndV, wOrV, wNotV, wIf, wTup, wLst, wLstM, gwName, gwNil, gwCons, gwTup, gwSub, oInt1, oAbsI, oLen, oGcd, oDivmod, oMax2, oMin2, oIsi, tyOf, clOf, oStrI, if_t1, if_f1, Bool.not_true, Bool.not_false, startD, List.map_cons, List.map_nil, List.length_cons, List.length_nil, List.cons_append, List.nil_append, List.getElem?_cons_zero, List.getElem?_cons_succ, List.set_cons_zero, List.set_cons_succ, List.replicate, Nat.reduceAdd, Nat.reduceSub, Nat.zero_add, Nat.sub_self, Nat.add_sub_cancel, sForI, forStep, listD, seqD, wFz, wTruth, wiL, wiT, wiR, wiR2, wiET, wLcI, wDcI, wYes, wSortKI, wMakeI, sSetF, putFD, wMerge2, oEqDT, oBoolD, wListRg, wSMeth, oOwn2, wCutE, oRepL, wDIn, oLcm, wChain, kt_ii, kt_ib, kt_rr, wFld_e, wProp_e, ixr_lst, ixr_tup, ixr_tpk, w_is_int, w_within, w_asc, fld_flags, fld_odd, ins_rd, w_initT, w_initL, w_told, w_within, sWhile, w_modulus, w_chosen, w_contains, oOwnIn, w_index, w_nextf, oNotI, w_next, w_first, w_or, w_xor, iMulS, at0, at1, at2, oPow, wCut, wCutTo, oAbsI, stayD, gwLst, w_purse, w_take, sWhile, lcStep, wipeD, oCatL, itemsD, w_set, md0, md1, md2, List.take_succ_cons, List.take_zero, List.take_nil, List.drop_zero, List.drop_succ_cons, List.drop_nil, Nat.le_refl]
  have := wm.m0
  refine ⟨by omega, ?_⟩
  rw [fmod_pos wm.m0]
  exact in_int (in_int (ne_bl h))
def w_formed : WF := fun ds S Q => ∃ y, ds = [md y] ∧ WfM y ∧ ∀ r, Ok r → (r.1.length : Int) = y.m → (∀ n : Int, mem r n = holds y n) → Q (rd r) S
theorem sc__law_formed : FnScope ["model", "rests", "others", "rest", "number"] ["model"] (defScope s__law_formed) := ⟨rfl, rfl, rfl, by decide +kernel, rfl, by decide +kernel, by decide +kernel⟩
theorem ok__law_formed (T : Tx K mg) : FnOk P w K mg base CX0 9 T.f__law_formed T.fd__law_formed ["model"] (spW ⟨K, mg⟩ 1 w_formed) := by
  refine fnD (k := 8) T.F__law_formed sc__law_formed (fun cdv A outer s H E hr => ⟨_, (dss_cons (ds_par (i := 1) (j := 2) rfl sc__law_formed.nd (da_cons (d_smeth T.g_Rounds rfl T.cr T.sm_rests (ok_rests T) (hr.mono (by decide)) (da_cons (d_ix (dv 0) d_int) da_nil)) (da_cons (d_smeth0 T.g_Rounds rfl T.cr T.sm_told (ok_told T) (hr.mono (by decide))) da_nil)))
  (dss_cons (ds_for PassesOwn.never rfl (ii_list (d_ix (dv 0) d_int)) (dg_name (i := 3) sc__law_formed.nd) (dss_one (ds_set (i := 1) sc__law_formed.nd (d_op (op_own2 T.own T.M_or (ok_or T) (hr.mono (by decide)) T.b_or) (snd_own2 T.g_Rounds) (dv 1) (d_smeth T.g_Rounds rfl T.cr T.sm_rests (ok_rests T) (hr.mono (by decide)) (da_cons (d_ix (dv 0) d_int) (da_cons (dv 3) da_nil)))))))
  (dss_cons (ds_for PassesOwn.never rfl (ii_list (d_ix (dv 0) d_int)) (dg_name (i := 4) sc__law_formed.nd) (dss_one (ds_set (i := 2) sc__law_formed.nd (d_op (op_own2 T.own T.M_or (ok_or T) (hr.mono (by decide)) T.b_or) (snd_own2 T.g_Rounds) (dv 2) (d_smeth T.g_Rounds rfl T.cr T.sm_told (ok_told T) (hr.mono (by decide)) (da_cons (dv 4) da_nil))))))
  (dss_one (ds_ret (d_op (op_own2 T.own T.M_xor (ok_xor T) (hr.mono (by decide)) T.b_xor) (snd_own2 T.g_Rounds) (dv 1) (dv 2)))))))⟩) (fun ds S Q hl h => ?_)
  obtain ⟨y, rfl, wm, h⟩ := h
  have m0 := wm.m0
  have m24 : y.m ≤ 12 := wm.ml
  refine seqG fun R hR => ?_
  simp only [true_and, and_true, oU2, oUn1, oL1, oS1, oR1, oJust, iAdd, iSub, iMul, iFdiv, iMod, iEq, iNe, iLt, iLe, iGt, iGe, iNeg, iAbs, DL.iStr, wFmt, wJs, wJoined, sNext, sSeq, sDrop, sRet, sRetN, sIf, sAsg, sPar, wOp, wVar, wC, wUn, wCons, wNil, wCB, wCall, wMake, wMakeSw, wCallSw, oI, oI0, oU, wTest, wAnd, wOr, DL.wNot, wAndV, wOrV, wNotV, wIf, wTup, wLst, wLstM, gwName, gwNil, gwCons, gwTup, gwSub, oInt1, oAbsI, oLen, oGcd, oDivmod, oMax2, oMin2, oIsi, tyOf, clOf, oStrI, if_t1, if_f1, Bool.not_true, Bool.not_false, startD, List.map_cons, List.map_nil, List.length_cons, List.length_nil, List.cons_append, List.nil_append, List.getElem?_cons_zero, List.getElem?_cons_succ, List.set_cons_zero, List.set_cons_succ, List.replicate, Nat.reduceAdd, Nat.reduceSub, Nat.zero_add, Nat.sub_self, Nat.add_sub_cancel, sForI, forStep, listD, seqD, wFz, wTruth, wiL, wiT, wiR, wiR2, wiET, wLcI, wDcI, wYes, wSortKI, wMakeI, sSetF, putFD, wMerge2, oEqDT, oBoolD, wListRg, wSMeth, oOwn2, wCutE, oRepL, wDIn, oLcm, wChain, kt_ii, kt_ib, kt_rr, wFld_e, wProp_e, ixr_lst, ixr_tup, ixr_tpk, w_is_int, w_within, w_asc, fld_flags, fld_odd, ins_rd, w_initT, w_initL, w_told, w_within, sWhile, w_modulus, w_chosen, w_contains, oOwnIn, w_index, w_nextf, oNotI, w_next, w_first, w_or, w_xor, iMulS, at0, at1, at2, oPow, wCut, wCutTo, oAbsI, stayD, gwLst, w_purse, w_take, sWhile, lcStep, wipeD, oCatL, itemsD, w_set, md0, md1, md2, List.take_succ_cons, List.take_zero, List.take_nil, List.drop_zero, List.drop_succ_cons, List.drop_nil, Nat.le_refl, w_holds]
  refine ⟨line5 (by decide), y.m, [], rfl, by omega, by omega, trivial, by decide, line5 (by decide), [], rfl, trivial, by decide, ?_⟩
  have i1 := rr_ok (ns := []) m0 wm.m24
  have i2 := rr_len (ns := []) m0
  have i3 := rr_mem (ns := []) m0
  have j1 := tl_ok (ns := []) .nil fun n hn => by cases hn
  have j3 := tl_mem (ns := [])
  show R _ [some (md y), some (rd (rr y.m [])), some (rd ([false], [])), none, none] S
  generalize rr y.m [] = r0 at i1 i2 i3 ⊢
  have j2 : (([false], []) : Rnd).1.length = 1 := rfl
  generalize (([false], []) : Rnd) = q0 at j1 j2 j3 ⊢
  subst hR
  refine seqG fun R hR => ?_
  simp only [true_and, and_true, oU2, oUn1, oL1, oS1, oR1, oJust, iAdd, iSub, iMul, iFdiv, iMod, iEq, iNe, iLt, iLe, iGt, iGe, iNeg, iAbs, DL.iStr, wFmt, wJs, wJoined, sNext, sSeq, sDrop, sRet, sRetN, sIf, sAsg, sPar, wOp, wVar, wC, wUn, wCons, wNil, wCB, wCall, wMake, wMakeSw, wCallSw, oI, oI0, oU, wTest, wAnd, wOr, DL.wNot, wAndV, wOrV, wNotV, wIf, wTup, wLst, wLstM, gwName, gwNil, gwCons, gwTup, gwSub, oInt1, oAbsI, oLen, oGcd, oDivmod, oMax2, oMin2, oIsi, tyOf, clOf, oStrI, if_t1, if_f1, Bool.not_true, Bool.not_false, startD, List.map_cons, List.map_nil, List.length_cons, List.length_nil, List.cons_append, List.nil_append, List.getElem?_cons_zero, List.getElem?_cons_succ, List.set_cons_zero, List.set_cons_succ, List.replicate, Nat.reduceAdd, Nat.reduceSub, Nat.zero_add, Nat.sub_self, Nat.add_sub_cancel, sForI, forStep, listD, seqD, wFz, wTruth, wiL, wiT, wiR, wiR2, wiET, wLcI, wDcI, wYes, wSortKI, wMakeI, sSetF, putFD, wMerge2, oEqDT, oBoolD, wListRg, wSMeth, oOwn2, wCutE, oRepL, wDIn, oLcm, wChain, kt_ii, kt_ib, kt_rr, wFld_e, wProp_e, ixr_lst, ixr_tup, ixr_tpk, w_is_int, w_within, w_asc, fld_flags, fld_odd, ins_rd, w_initT, w_initL, w_told, w_within, sWhile, w_modulus, w_chosen, w_contains, oOwnIn, w_index, w_nextf, oNotI, w_next, w_first, w_or, w_xor, iMulS, at0, at1, at2, oPow, wCut, wCutTo, oAbsI, stayD, gwLst, w_purse, w_take, sWhile, lcStep, wipeD, oCatL, itemsD, w_set, md0, md1, md2, List.take_succ_cons, List.take_zero, List.take_nil, List.drop_zero, List.drop_succ_cons, List.drop_nil, Nat.le_refl, w_holds]
  generalize hst : forStep _ _ _ = st
  have hs1 : ∀ (x : Int) (r : Rnd) (o : Option D) (nx : DEnv → MS → Prop), 0 ≤ x → x < y.m → Ok r → (r.1.length : Int) = y.m → (∀ r', Ok r' → (r'.1.length : Int) = y.m → (∀ n, mem r' n = (mem r n || decide (n % y.m = x))) → nx [some (md y), some (rd r'), some (rd q0), some (.int x), none] S) → st (.int x) [some (md y), some (rd r), some (rd q0), o, none] S nx := fun x r o nx x0 x1 ok hl hn => by
    subst hst
    simp only [true_and, and_true, oU2, oUn1, oL1, oS1, oR1, oJust, iAdd, iSub, iMul, iFdiv, iMod, iEq, iNe, iLt, iLe, iGt, iGe, iNeg, iAbs, DL.iStr, wFmt, wJs, wJoined, sNext, sSeq, sDrop, sRet, sRetN, sIf, sAsg, sPar, wOp, wVar, wC, wUn, wCons, wNil, wCB, wCall, wMake, wMakeSw, wCallSw, oI, oI0, oU, wTest, wAnd, wOr, DL.wNot, wAndV, wOrV, wNotV, wIf, wTup, wLst, wLstM, gwName, gwNil, gwCons, gwTup, gwSub, oInt1, oAbsI, oLen, oGcd, oDivmod, oMax2, oMin2, oIsi, tyOf, clOf, oStrI, if_t1, if_f1, Bool.not_true, Bool.not_false, startD, List.map_cons, List.map_nil, List.length_cons, List.length_nil, List.cons_append, List.nil_append, List.getElem?_cons_zero, List.getElem?_cons_succ, List.set_cons_zero, List.set_cons_succ, List.replicate, Nat.reduceAdd, Nat.reduceSub, Nat.zero_add, Nat.sub_self, Nat.add_sub_cancel, sForI, forStep, listD, seqD, wFz, wTruth, wiL, wiT, wiR, wiR2, wiET, wLcI, wDcI, wYes, wSortKI, wMakeI, sSetF, putFD, wMerge2, oEqDT, oBoolD, wListRg, wSMeth, oOwn2, wCutE, oRepL, wDIn, oLcm, wChain, kt_ii, kt_ib, kt_rr, wFld_e, wProp_e, ixr_lst, ixr_tup, ixr_tpk, w_is_int, w_within, w_asc, fld_flags, fld_odd, ins_rd, w_initT, w_initL, w_told, w_within, sWhile, w_modulus, w_chosen, w_contains, oOwnIn, w_index, w_nextf, oNotI, w_next, w_first, w_or, w_xor, iMulS, at0, at1, at2, oPow, wCut, wCutTo, oAbsI, stayD, gwLst, w_purse, w_take, sWhile, lcStep, wipeD, oCatL, itemsD, w_set, md0, md1, md2, List.take_succ_cons, List.take_zero, List.take_nil, List.drop_zero, List.drop_succ_cons, List.drop_nil, Nat.le_refl, w_holds]
    refine ⟨by decide, line5 (by decide), y.m, [x], rfl, by omega, by omega, ⟨x0, by omega, trivial⟩, (show 1 ≤ 16000000 by decide), ⟨_, rfl⟩, ⟨_, rfl⟩, op_use (r2 := rr y.m [x]) ok (rr_ok m0 wm.m24) fun r' a b c => hn r' a ?_ fun n => ?_⟩
    · have e1 := rr_len (ns := [x]) m0
      have e2 : r.1.length = (rr y.m [x]).1.length := by omega
      rw [e2, Nat.lcm_self] at b
      rw [b]
      exact e1
    · rw [c, rr_mem m0, pick_or]
      simp
  clear hst
  have key : ∀ (todo done : List Int) (r : Rnd) (o : Option D), (∀ x ∈ todo, 0 ≤ x ∧ x < y.m) → Ok r → (r.1.length : Int) = y.m → (∀ n, mem r n = done.contains (n % y.m)) →
      (∀ r' o, Ok r' → (r'.1.length : Int) = y.m → (∀ n, mem r' n = (done ++ todo).contains (n % y.m)) → R ({ nx := fun _ S' => Q .non S', rt := Q } : DEnds) [some (md y), some (rd r'), some (rd q0), o, none] S) →
      forO (fun _ => True) (todo.map D.int) st (R { nx := fun _ S' => Q .non S', rt := Q }) [some (md y), some (rd r), some (rd q0), o, none] S := by
    intro todo
    induction todo with
    | nil => exact fun done r o _ ok hl hm hf => ⟨trivial, hf r o ok hl (by simpa using hm)⟩
    | cons x todo ih =>
      intro done r o hx ok hl hm hf
      obtain ⟨x0, x1⟩ := hx x List.mem_cons_self
      refine ⟨trivial, hs1 x r o _ x0 x1 ok hl fun r' ok' hl' hm' => ih (done ++ [x]) r' _ (fun z hz => hx z (List.mem_cons_of_mem _ hz)) ok' hl' (fun n => ?_) fun r2 o2 ok2 hl2 hm2 => hf r2 o2 ok2 hl2 fun n => ?_⟩
      · rw [hm', hm, List.contains_append]
        simp
      · rw [hm2]
        simp
  refine key y.rs [] r0 none wm.rr i1 i2 i3 fun r1 o1 ok1 hl1 hm1 => ?_
  clear key hs1
  rw [List.nil_append] at hm1
  subst hR
  refine seqG fun R hR => ?_
  simp only [true_and, and_true, oU2, oUn1, oL1, oS1, oR1, oJust, iAdd, iSub, iMul, iFdiv, iMod, iEq, iNe, iLt, iLe, iGt, iGe, iNeg, iAbs, DL.iStr, wFmt, wJs, wJoined, sNext, sSeq, sDrop, sRet, sRetN, sIf, sAsg, sPar, wOp, wVar, wC, wUn, wCons, wNil, wCB, wCall, wMake, wMakeSw, wCallSw, oI, oI0, oU, wTest, wAnd, wOr, DL.wNot, wAndV, wOrV, wNotV, wIf, wTup, wLst, wLstM, gwName, gwNil, gwCons, gwTup, gwSub, oInt1, oAbsI, oLen, oGcd, oDivmod, oMax2, oMin2, oIsi, tyOf, clOf, oStrI, if_t1, if_f1, Bool.not_true, Bool.not_false, startD, List.map_cons, List.map_nil, List.length_cons, List.length_nil, List.cons_append, List.nil_append, List.getElem?_cons_zero, List.getElem?_cons_succ, List.set_cons_zero, List.set_cons_succ, List.replicate, Nat.reduceAdd, Nat.reduceSub, Nat.zero_add, Nat.sub_self, Nat.add_sub_cancel, sForI, forStep, listD, seqD, wFz, wTruth, wiL, wiT, wiR, wiR2, wiET, wLcI, wDcI, wYes, wSortKI, wMakeI, sSetF, putFD, wMerge2, oEqDT, oBoolD, wListRg, wSMeth, oOwn2, wCutE, oRepL, wDIn, oLcm, wChain, kt_ii, kt_ib, kt_rr, wFld_e, wProp_e, ixr_lst, ixr_tup, ixr_tpk, w_is_int, w_within, w_asc, fld_flags, fld_odd, ins_rd, w_initT, w_initL, w_told, w_within, sWhile, w_modulus, w_chosen, w_contains, oOwnIn, w_index, w_nextf, oNotI, w_next, w_first, w_or, w_xor, iMulS, at0, at1, at2, oPow, wCut, wCutTo, oAbsI, stayD, gwLst, w_purse, w_take, sWhile, lcStep, wipeD, oCatL, itemsD, w_set, md0, md1, md2, List.take_succ_cons, List.take_zero, List.take_nil, List.drop_zero, List.drop_succ_cons, List.drop_nil, Nat.le_refl, w_holds]
  generalize hst : forStep _ _ _ = st
  have hs1 : ∀ (x : Int) (q : Rnd) (o : Option D) (nx : DEnv → MS → Prop), 0 ≤ x → x < 300 → Ok q → q.1.length = 1 → (∀ q', Ok q' → q'.1.length = 1 → (∀ n, mem q' n = (mem q n || decide (n = x))) → nx [some (md y), some (rd r1), some (rd q'), o1, some (.int x)] S) → st (.int x) [some (md y), some (rd r1), some (rd q), o1, o] S nx := fun x q o nx x0 x1 ok hl hn => by
    subst hst
    simp only [true_and, and_true, oU2, oUn1, oL1, oS1, oR1, oJust, iAdd, iSub, iMul, iFdiv, iMod, iEq, iNe, iLt, iLe, iGt, iGe, iNeg, iAbs, DL.iStr, wFmt, wJs, wJoined, sNext, sSeq, sDrop, sRet, sRetN, sIf, sAsg, sPar, wOp, wVar, wC, wUn, wCons, wNil, wCB, wCall, wMake, wMakeSw, wCallSw, oI, oI0, oU, wTest, wAnd, wOr, DL.wNot, wAndV, wOrV, wNotV, wIf, wTup, wLst, wLstM, gwName, gwNil, gwCons, gwTup, gwSub, oInt1, oAbsI, oLen, oGcd, oDivmod, oMax2, oMin2, oIsi, tyOf, clOf, oStrI, if_t1, if_f1, Bool.not_true, Bool.not_false, startD, List.map_cons, List.map_nil, List.length_cons, List.length_nil, List.cons_append, List.nil_append, List.getElem?_cons_zero, List.getElem?_cons_succ, List.set_cons_zero, List.set_cons_succ, List.replicate, Nat.reduceAdd, Nat.reduceSub, Nat.zero_add, Nat.sub_self, Nat.add_sub_cancel, sForI, forStep, listD, seqD, wFz, wTruth, wiL, wiT, wiR, wiR2, wiET, wLcI, wDcI, wYes, wSortKI, wMakeI, sSetF, putFD, wMerge2, oEqDT, oBoolD, wListRg, wSMeth, oOwn2, wCutE, oRepL, wDIn, oLcm, wChain, kt_ii, kt_ib, kt_rr, wFld_e, wProp_e, ixr_lst, ixr_tup, ixr_tpk, w_is_int, w_within, w_asc, fld_flags, fld_odd, ins_rd, w_initT, w_initL, w_told, w_within, sWhile, w_modulus, w_chosen, w_contains, oOwnIn, w_index, w_nextf, oNotI, w_next, w_first, w_or, w_xor, iMulS, at0, at1, at2, oPow, wCut, wCutTo, oAbsI, stayD, gwLst, w_purse, w_take, sWhile, lcStep, wipeD, oCatL, itemsD, w_set, md0, md1, md2, List.take_succ_cons, List.take_zero, List.take_nil, List.drop_zero, List.drop_succ_cons, List.drop_nil, Nat.le_refl, w_holds]
    refine ⟨by decide, line5 (by decide), [x], rfl, ⟨x0, by omega, trivial⟩, (show 1 ≤ 16000000 by decide), ⟨_, rfl⟩, ⟨_, rfl⟩, op_use (r2 := ([false], [x])) ok (tl_ok (List.pairwise_singleton _ _) fun n hn => ?_) fun r' a b c => hn r' a ?_ fun n => ?_⟩
    · rw [List.mem_singleton.mp hn]
      exact ⟨x0, x1⟩
    · rw [hl] at b
      exact b.trans (show Nat.lcm 1 1 = 1 by decide)
    · rw [c, tl_mem, pick_or]
      simp
  clear hst
  have key : ∀ (todo done : List Int) (q : Rnd) (o : Option D), (∀ x ∈ todo, 0 ≤ x ∧ x < 300) → Ok q → q.1.length = 1 → (∀ n, mem q n = done.contains n) →
      (∀ q' o, Ok q' → q'.1.length = 1 → (∀ n, mem q' n = (done ++ todo).contains n) → R ({ nx := fun _ S' => Q .non S', rt := Q } : DEnds) [some (md y), some (rd r1), some (rd q'), o1, o] S) →
      forO (fun _ => True) (todo.map D.int) st (R { nx := fun _ S' => Q .non S', rt := Q }) [some (md y), some (rd r1), some (rd q), o1, o] S := by
    intro todo
    induction todo with
    | nil => exact fun done r o _ ok hl hm hf => ⟨trivial, hf r o ok hl (by simpa using hm)⟩
    | cons x todo ih =>
      intro done r o hx ok hl hm hf
      obtain ⟨x0, x1⟩ := hx x List.mem_cons_self
      refine ⟨trivial, hs1 x r o _ x0 x1 ok hl fun r' ok' hl' hm' => ih (done ++ [x]) r' _ (fun z hz => hx z (List.mem_cons_of_mem _ hz)) ok' hl' (fun n => ?_) fun r2 o2 ok2 hl2 hm2 => hf r2 o2 ok2 hl2 fun n => ?_⟩
      · rw [hm', hm, List.contains_append]
        simp
      · rw [hm2]
        simp
  refine key y.ns [] q0 none wm.nn j1 j2 j3 fun q1 o2 ok2 hl2 hm2 => ?_
  rw [List.nil_append] at hm2
  subst hR
  simp only [true_and, and_true, oU2, oUn1, oL1, oS1, oR1, oJust, iAdd, iSub, iMul, iFdiv, iMod, iEq, iNe, iLt, iLe, iGt, iGe, iNeg, iAbs, DL.iStr, wFmt, wJs, wJoined, sNext, sSeq, sDrop, sRet, sRetN, sIf, sAsg, sPar, wOp, wVar, wC, wUn, wCons, wNil, wCB, wCall, wMake, wMakeSw, wCallSw, oI, oI0, oU, wTest, wAnd, wOr, DL.wNot, wAndV, wOrV, wNotV, wIf, wTup, wLst, wLstM, gwName, gwNil, gwCons, gwTup, gwSub, oInt1, oAbsI, oLen, oGcd, oDivmod, oMax2, oMin2, oIsi, tyOf, clOf, oStrI, if_t1, if_f1, Bool.not_true, Bool.not_false, startD, List.map_cons, List.map_nil, List.length_cons, List.length_nil, List.cons_append, List.nil_append, List.getElem?_cons_zero, List.getElem?_cons_succ, List.set_cons_zero, List.set_cons_succ, List.replicate, Nat.reduceAdd, Nat.reduceSub, Nat.zero_add, Nat.sub_self, Nat.add_sub_cancel, sForI, forStep, listD, seqD, wFz, wTruth, wiL, wiT, wiR, wiR2, wiET, wLcI, wDcI, wYes, wSortKI, wMakeI, sSetF, putFD, wMerge2, oEqDT, oBoolD, wListRg, wSMeth, oOwn2, wCutE, oRepL, wDIn, oLcm, wChain, kt_ii, kt_ib, kt_rr, wFld_e, wProp_e, ixr_lst, ixr_tup, ixr_tpk, w_is_int, w_within, w_asc, fld_flags, fld_odd, ins_rd, w_initT, w_initL, w_told, w_within, sWhile, w_modulus, w_chosen, w_contains, oOwnIn, w_index, w_nextf, oNotI, w_next, w_first, w_or, w_xor, iMulS, at0, at1, at2, oPow, wCut, wCutTo, oAbsI, stayD, gwLst, w_purse, w_take, sWhile, lcStep, wipeD, oCatL, itemsD, w_set, md0, md1, md2, List.take_succ_cons, List.take_zero, List.take_nil, List.drop_zero, List.drop_succ_cons, List.drop_nil, Nat.le_refl, w_holds]
  refine ⟨⟨_, rfl⟩, ⟨_, rfl⟩, op_use ok1 ok2 fun r' a b c => h r' a ?_ fun n => ?_⟩
  · rw [hl2, Nat.lcm_one_right] at b
    rw [b]
    exact hl1
  · rw [c, hm1, hm2, pick_xor]
    rfl
end
end K1
set_option Elab.async false
set_option linter.all false
set_option maxRecDepth 100000
set_option maxHeartbeats 0
namespace K1
open PySem PySem.Spec PyProof.Rows L2 DL
section
variable {P : Program} {w : World} {K : PySem.W.Frag} {mg : Str → Option Value} {base : Heap}
theorem up_ext : ∀ {a b : List Int}, Up a → Up b → (∀ n, n ∈ a ↔ n ∈ b) → a = b
  | [], [], _, _, _ => rfl
  | [], y :: b, _, _, h => by cases (h y).mpr List.mem_cons_self
  | x :: a, [], _, _, h => by cases (h x).mp List.mem_cons_self
  | x :: a, y :: b, ha, hb, h => by
    obtain ⟨a1, a2⟩ := List.pairwise_cons.mp ha
    obtain ⟨b1, b2⟩ := List.pairwise_cons.mp hb
    have e : x = y := by
      rcases List.mem_cons.mp ((h x).mp List.mem_cons_self) with z | z
      · exact z
      · rcases List.mem_cons.mp ((h y).mpr List.mem_cons_self) with z2 | z2
        · exact z2.symm
        · have := b1 _ z
          have := a1 _ z2
          omega
    subst e
    rw [up_ext a2 b2 fun n => ⟨fun z => ?_, fun z => ?_⟩]
    · rcases List.mem_cons.mp ((h n).mp (List.mem_cons_of_mem _ z)) with q | q
      · have := a1 _ z
        omega
      · exact q
    · rcases List.mem_cons.mp ((h n).mpr (List.mem_cons_of_mem _ z)) with q | q
      · have := b1 _ z
        omega
      · exact q
/-- rounds that are the model's -/
structure Fit (r : Rnd) (y : Mdl) : Prop where
  ok : Ok r
  ln : (r.1.length : Int) = y.m
  me : ∀ n : Int, mem r n = holds y n
  wf : WfM y
theorem Fit.fl {r : Rnd} {y : Mdl} (f : Fit r y) {k : Nat} (hk : k < r.1.length) : r.1.getD k false = y.rs.contains (k : Int) := by
  have h := f.me ((k + r.1.length * 300 : Nat) : Int)
  have hge : 300 ≤ k + r.1.length * 300 := by
    have := Nat.mul_le_mul_right 300 f.ok.pos
    omega
  unfold mem holds at h
  rw [← Int.natCast_emod, Int.toNat_natCast, Nat.add_mul_mod_self_left, Nat.mod_eq_of_lt hk] at h
  rw [decide_eq_false (show ((k + r.1.length * 300 : Nat) : Int) ∉ r.2 from fun z => by have := f.ok.ge _ z; omega), Bool.xor_false] at h
  have e2 : y.ns.contains ((k + r.1.length * 300 : Nat) : Int) = false := by
    rw [← Bool.not_eq_true, List.contains_iff_mem]
    intro z
    have := f.wf.nn _ z
    omega
  rw [e2, Bool.xor_false] at h
  have e3 : ((k + r.1.length * 300 : Nat) : Int) % y.m = (k : Int) := by
    rw [← f.ln, ← Int.natCast_emod, Nat.add_mul_mod_self_left, Nat.mod_eq_of_lt hk]
  rw [e3] at h
  exact h
theorem Fit.od {r : Rnd} {y : Mdl} (f : Fit r y) : r.2 = y.ns := by
  refine up_ext f.ok.up f.wf.nu fun n => ?_
  have h := f.me n
  unfold mem holds at h
  have m0 := f.wf.m0
  have h1 := Int.emod_nonneg n (show y.m ≠ 0 by omega)
  have h2 := Int.emod_lt_of_pos n m0
  rw [f.ln, f.fl (k := (n % y.m).toNat) (by have := f.ln; omega), Int.toNat_of_nonneg h1] at h
  have e : decide (n ∈ r.2) = y.ns.contains n := by
    revert h
    cases y.rs.contains (n % y.m) <;> cases decide (n ∈ r.2) <;> cases y.ns.contains n <;> simp
  rw [← List.contains_iff_mem, ← List.contains_iff_mem, List.contains_eq_mem, e]
/-- the model's own word -/
def wholeM (y : Mdl) : D := if (y.rs.length : Int) < y.m then .non else match y.ns.getLast? with
  | none => .int 0
  | some v => .int (v + 1)
theorem Fit.whole {r : Rnd} {y : Mdl} (f : Fit r y) : wholeD r = wholeM y := by
  unfold wholeD wholeM
  rw [f.od]
  have ln := f.ln
  have m0 := f.wf.m0
  by_cases h : (y.rs.length : Int) < y.m
  · rw [if_pos h, if_pos]
    rw [List.contains_iff_mem]
    refine Classical.byContradiction fun z => ?_
    have all : ∀ k, k < r.1.length → (k : Int) ∈ y.rs := fun k hk => by
      rw [← List.contains_iff_mem, ← f.fl hk, List.getD_eq_getElem?_getD, List.getElem?_eq_getElem hk]
      show r.1[k] = true
      cases hc : r.1[k] with
      | true => rfl
      | false => exact absurd (hc ▸ List.getElem_mem hk) z
    have q := nodup_sub_len (a := (List.range r.1.length).map fun k : Nat => (k : Int)) (b := y.rs) (List.Pairwise.map (fun k : Nat => (k : Int)) (fun a b h => by omega) List.nodup_range) fun n hn => by
      obtain ⟨k, hk, rfl⟩ := List.mem_map.mp hn
      exact all k (List.mem_range.mp hk)
    simp at q
    omega
  · have hz : ¬ r.1.contains false = true := by
      rw [List.contains_iff_mem]
      intro z
      obtain ⟨k, hk, e⟩ := List.getElem_of_mem z
      have hn : (k : Int) ∉ y.rs := fun q => by
        have w := f.fl hk
        rw [List.contains_iff_mem.mpr q, List.getD_eq_getElem?_getD, List.getElem?_eq_getElem hk, e] at w
        cases w
      have q := nodup_sub_len (a := (k : Int) :: y.rs) (b := (List.range r.1.length).map fun k : Nat => (k : Int)) (List.nodup_cons.mpr ⟨hn, up_nodup f.wf.ru⟩) fun n hn => by
        rcases List.mem_cons.mp hn with rfl | hn
        · exact List.mem_map.mpr ⟨k, List.mem_range.mpr hk, rfl⟩
        · have := f.wf.rr n hn
          exact List.mem_map.mpr ⟨n.toNat, List.mem_range.mpr (by omega), by omega⟩
      simp at q
      omega
    exact (if_neg hz).trans (if_neg h).symm
abbrev holdN (y : Mdl) : Nat → Bool := fun n => holds y (n : Int)
theorem Fit.fn {r : Rnd} {y : Mdl} (f : Fit r y) : memN r = holdN y := funext fun n => f.me n
/-! ### the members of a stretch -/
theorem nexts_none {p : Nat → Bool} {a : Nat} (h : ∀ n, a ≤ n → p n = false) : ∀ k, Nexts p a k []
  | 0 => rfl
  | _ + 1 => .inl ⟨h, rfl⟩
theorem nexts_len {p : Nat → Bool} : ∀ {k a : Nat} {L : List Nat}, Nexts p a k L → L.length ≤ k
  | 0, _, L, h => by
    have e : L = [] := h
    rw [e]
    exact Nat.le_refl _
  | k + 1, a, L, h => by
    rcases h with ⟨_, rfl⟩ | ⟨n, M, _, rfl, r⟩
    · exact Nat.zero_le _
    · have := nexts_len r
      rw [List.length_cons]
      omega
/-- the first k members of a stretch that has as many -/
theorem nexts_range {p : Nat → Bool} : ∀ (l a k : Nat), k ≤ ((List.range' a l).filter p).length → Nexts p a k (((List.range' a l).filter p).take k)
  | _, _, 0, _ => by rw [List.take_zero]; rfl
  | 0, a, k + 1, h => by simp at h
  | l + 1, a, k + 1, h => by
    rw [List.range'_succ, List.filter_cons] at h ⊢
    cases hp : p a with
    | true =>
      rw [hp, if_pos rfl, List.length_cons] at h
      rw [if_pos rfl, List.take_succ_cons]
      exact .inr ⟨a, _, ⟨Nat.le_refl _, hp, fun k h1 h2 => by omega⟩, rfl, nexts_range l (a + 1) k (by omega)⟩
    | false =>
      rw [hp, if_neg Bool.false_ne_true] at h
      rw [if_neg Bool.false_ne_true]
      have ih := nexts_range l (a + 1) (k + 1) h
      rcases ih with ⟨h1, h2⟩ | ⟨n, M, ⟨h1, h2, h3⟩, e, h4⟩
      · refine .inl ⟨fun n hn => ?_, h2⟩
        rcases Nat.lt_or_ge a n with z | z
        · exact h1 n z
        · rw [show n = a by omega]; exact hp
      · refine .inr ⟨n, M, ⟨by omega, h2, fun k k1 k2 => ?_⟩, e, h4⟩
        rcases Nat.lt_or_ge a k with z | z
        · exact h3 k z k2
        · rw [show k = a by omega]; exact hp
/-- the members of a list that ascends -/
theorem nexts_list {p : Nat → Bool} : ∀ (ns : List Nat) (a k : Nat), ns.Pairwise (· < ·) → (∀ n ∈ ns, a ≤ n) → (∀ n, a ≤ n → (p n = true ↔ n ∈ ns)) → Nexts p a k (ns.take k)
  | _, _, 0, _, _, _ => by rw [List.take_zero]; rfl
  | [], a, k + 1, _, _, h => .inl ⟨fun n hn => by rw [← Bool.not_eq_true, h n hn]; simp, by simp⟩
  | n :: ns, a, k + 1, up, hge, h => by
    obtain ⟨u1, u2⟩ := List.pairwise_cons.mp up
    rw [List.take_succ_cons]
    have an := hge n List.mem_cons_self
    refine .inr ⟨n, _, ⟨an, (h n an).mpr List.mem_cons_self, fun m m1 m2 => ?_⟩, rfl, nexts_list ns (n + 1) k u2 (fun m hm => u1 m hm) fun m hm => ?_⟩
    · rw [← Bool.not_eq_true, h m m1, List.mem_cons]
      rintro (rfl | z)
      · omega
      · have := u1 m z
        omega
    · rw [h m (by omega), List.mem_cons]
      exact ⟨fun z => z.elim (fun e => by omega) id, .inr⟩
/-- a period has a member, beyond the odd ones -/
theorem count_per {p : Nat → Bool} {m B : Nat} (h : ∀ b, B ≤ b → ∃ i, i < m ∧ p (b + i) = true) : ∀ (k a : Nat), B ≤ a → k ≤ ((List.range' a (m * k)).filter p).length
  | 0, _, _ => Nat.zero_le _
  | k + 1, a, ha => by
    have e : List.range' a (m * (k + 1)) = List.range' a (m * k) ++ List.range' (a + m * k) m := by
      rw [Nat.mul_succ, List.range'_append_1]
    rw [e, List.filter_append, List.length_append]
    have ih := count_per h k a ha
    obtain ⟨i, hi, hp⟩ := h (a + m * k) (by omega)
    have : 0 < ((List.range' (a + m * k) m).filter p).length := List.length_pos_of_mem (List.mem_filter.mpr ⟨List.mem_range'_1.mpr ⟨by omega, by omega⟩, hp⟩)
    omega
theorem hold_per {y : Mdl} (w : WfM y) (ne : y.rs ≠ []) {M : Nat} (hM : ∀ n ∈ y.ns, n ≤ (M : Int)) (b : Nat) (hb : M + 1 ≤ b) : ∃ i, i < y.m.toNat ∧ holdN y (b + i) = true := by
  obtain ⟨r0, hr⟩ := List.exists_mem_of_ne_nil _ ne
  have m0 := w.m0
  have r1 := w.rr r0 hr
  have h1 := Int.emod_nonneg (r0 - b) (show y.m ≠ 0 by omega)
  have h2 := Int.emod_lt_of_pos (r0 - b) m0
  refine ⟨((r0 - b) % y.m).toNat, by omega, ?_⟩
  show holds y ((b + ((r0 - b) % y.m).toNat : Nat) : Int) = true
  have e : ((b + ((r0 - b) % y.m).toNat : Nat) : Int) = (b : Int) + (r0 - b) % y.m := by omega
  unfold holds
  have e1 : ((b + ((r0 - b) % y.m).toNat : Nat) : Int) % y.m = r0 := by
    rw [e, Int.add_emod_emod, show (b : Int) + (r0 - b) = r0 by omega]
    exact Int.emod_eq_of_lt r1.1 r1.2
  have e2 : y.ns.contains ((b + ((r0 - b) % y.m).toNat : Nat) : Int) = false := by
    rw [← Bool.not_eq_true, List.contains_iff_mem]
    intro z
    have := hM _ z
    omega
  rw [e1, e2, List.contains_iff_mem.mpr hr]
  rfl
theorem count_hold {y : Mdl} (w : WfM y) (ne : y.rs ≠ []) {M : Nat} (hM : ∀ n ∈ y.ns, n ≤ (M : Int)) {a k l : Nat} (ha : a ≤ M) (hl : (l : Int) = M + y.m * (k + 1) + 1 - a) : k ≤ ((List.range' a l).filter (holdN y)).length := by
  have m0 := w.m0
  obtain ⟨m, hm⟩ := Int.eq_ofNat_of_zero_le (Int.le_of_lt m0)
  have c := count_per (p := holdN y) (m := m) (B := M + 1) (fun b hb => by
    obtain ⟨i, hi, hp⟩ := hold_per w ne hM b hb
    exact ⟨i, by omega, hp⟩) k (M + 1) (Nat.le_refl _)
  have e : l = (M + 1 - a) + m * k + m := by
    rw [hm, Int.mul_add, ← Int.natCast_mul] at hl
    omega
  have e2 : List.range' a l = List.range' a (M + 1 - a) ++ (List.range' (M + 1) (m * k) ++ List.range' (M + 1 + m * k) m) := by
    rw [List.range'_append_1]
    have q := List.range'_append_1 (s := a) (m := M + 1 - a) (n := m * k + m)
    rw [show a + (M + 1 - a) = M + 1 by omega] at q
    rw [q, e, Nat.add_assoc]
  rw [e2, List.filter_append, List.filter_append, List.length_append, List.length_append]
  omega

end
end K1
set_option Elab.async false
set_option linter.all false
set_option maxRecDepth 100000
set_option maxHeartbeats 0
namespace K1
open PySem PySem.Spec PyProof.Rows L2 DL
section
variable {P : Program} {w : World} {K : PySem.W.Frag} {mg : Str → Option Value} {base : Heap}
theorem eqv_ints : ∀ a b : List Int, PyData.eqvAll (a.map PyData.int) (b.map PyData.int) = decide (a = b)
  | [], [] => rfl
  | [], _ :: _ => rfl
  | _ :: _, [] => rfl
  | x :: a, y :: b => by
    show (PyData.eqv (.int x) (.int y) && PyData.eqvAll (a.map PyData.int) (b.map PyData.int)) = _
    rw [eqv_ints a b, eqv_int]
    by_cases e : x = y <;> by_cases f : a = b <;> simp [e, f]
theorem datM_ints (S : MS) (a : List Int) : datM S (.lst (a.map D.int)) = some (.list (a.map PyData.int)) := by
  show (datL S (a.map D.int)).map PyData.list = _
  rw [datL_ints]
  rfl
theorem shaped_ints (a : List Int) : SeqAt.shaped (.list (a.map PyData.int)) = true := by
  unfold SeqAt.shaped
  have c : PyData.canLay0 (.list (a.map PyData.int)) = true := lay_ints a
  have d : PyData.depth (.list (a.map PyData.int)) ≤ 64 := by
    show PyData.depthAll (a.map PyData.int) + 1 ≤ 64
    rw [dep_ints]
    decide
  rw [c, decide_eq_true d]
  rfl
theorem eqv_lists (a b : List Int) : PyData.eqv (.list (a.map PyData.int)) (.list (b.map PyData.int)) = decide (a = b) := eqv_ints a b
theorem ne_ints' {a b : List Int} {S : MS} {Q : D → MS → Prop} (q : Q (.bl (!decide (a = b))) S) : oNeD (.lst (a.map D.int)) (.lst (b.map D.int)) S Q :=
  ⟨_, _, datM_ints S a, datM_ints S b, shaped_ints a, shaped_ints b, by rw [eqv_lists]; exact q⟩
theorem eq_ints' {a b : List Int} {S : MS} {Q : D → MS → Prop} (q : Q (.bl (decide (a = b))) S) : oEqD (.lst (a.map D.int)) (.lst (b.map D.int)) S Q :=
  ⟨_, _, datM_ints S a, datM_ints S b, shaped_ints a, shaped_ints b, by rw [eqv_lists]; exact q⟩
theorem ne_ints {a : List Int} {S : MS} {Q : D → MS → Prop} (q : Q (.bl (!decide (a = []))) S) : oNeD (.lst (a.map D.int)) (.lst []) S Q := ne_ints' (b := []) q
theorem eq_ints {a : List Int} {S : MS} {Q : D → MS → Prop} (q : Q (.bl (decide (a = []))) S) : oEqD (.lst (a.map D.int)) (.lst []) S Q := eq_ints' (b := []) q
theorem WfM.nl {y : Mdl} (h : WfM y) : y.ns.length ≤ 300 := by
  have := nodup_sub_len (b := (List.range 300).map fun i : Nat => (i : Int)) (up_nodup h.nu) fun n hn => by
    have := h.nn n hn
    exact List.mem_map.mpr ⟨n.toNat, List.mem_range.mpr (by omega), by omega⟩
  simpa using this
theorem cm30 {a b : Int} (ha : a.natAbs < 2 ^ 62) (hb : b.natAbs < 2 ^ 62) : CMulW a b := wide_mul ha hb (by decide) (by decide) (by decide)

def w_lwhole : WF := fun ds S Q => ∃ y, ds = [md y] ∧ WfM y ∧ Q (wholeM y) S
theorem sc__law_whole : FnScope ["model"] ["model"] (defScope s__law_whole) := ⟨rfl, rfl, rfl, by decide +kernel, rfl, by decide +kernel, by decide +kernel⟩
theorem ok__law_whole (T : Tx K mg) : FnOk P w K mg base CX0 2 T.f__law_whole T.fd__law_whole ["model"] (spW ⟨K, mg⟩ 1 w_lwhole) := by
  refine fnD (k := 1) T.F__law_whole sc__law_whole (fun cdv A outer s H E hr => ⟨_, (dss_cons (ds_if (dt_cmp op_lt snd_iLt (d_callB call_len_seq snd_len T.z_len (da_cons (d_ix (dv 0) d_int) da_nil) (hv := bt_len)) (d_ix (dv 0) d_int) (nomark _)) (dss_one (ds_ret d_non)) dss_nil)
  (dss_one (ds_ret (d_if (dt_cmp (op_neD hr.units) snd_neD (d_ix (dv 0) d_int) (d_lst da_nil) (nomark _)) (d_op op_add snd_iAdd (d_ix (d_ix (dv 0) d_int) (d_un un_neg (snd_rU fun _ _ _ => .int _) d_int)) d_int) d_int))))⟩) (fun ds S Q hl h => ?_)
  obtain ⟨y, rfl, wy, h⟩ := h
  simp only [true_and, and_true, oU2, oUn1, oL1, oS1, oR1, oJust, iAdd, iSub, iMul, iFdiv, iMod, iEq, iNe, iLt, iLe, iGt, iGe, iNeg, iAbs, DL.iStr, wFmt, wJs, wJoined, sNext, sSeq, sDrop, sRet, sRetN, sIf, sAsg, sPar, wOp, wVar, wC, wUn, wCons, wNil, wCB, wCall, wMake, wMakeSw, wCallSw, oI, oI0, oU, wTest, wAnd, wOr, DL.wNot, wAndV, wOrV, wNotV, wIf, wTup, wLst, wLstM, gwName, gwNil, gwCons, gwTup, gwSub, oInt1, oAbsI, oLen, oGcd, oDivmod, oMax2, oMin2, oIsi, tyOf, clOf, oStrI, if_t1, if_f1, Bool.not_true, Bool.not_false, startD, List.map_cons, List.map_nil, List.length_cons, List.length_nil, List.cons_append, List.nil_append, List.getElem?_cons_zero, List.getElem?_cons_succ, List.set_cons_zero, List.set_cons_succ, List.replicate, Nat.reduceAdd, Nat.reduceSub, Nat.zero_add, Nat.sub_self, Nat.add_sub_cancel, sForI, forStep, listD, seqD, wFz, wTruth, wiL, wiT, wiR, wiR2, wiET, wLcI, wDcI, wYes, wSortKI, wMakeI, sSetF, putFD, wMerge2, oEqDT, oBoolD, wListRg, wSMeth, oOwn2, wCutE, oRepL, wDIn, oLcm, wChain, kt_ii, kt_ib, kt_rr, wFld_e, wProp_e, ixr_lst, ixr_tup, ixr_tpk, w_is_int, w_within, w_asc, fld_flags, fld_odd, ins_rd, w_initT, w_initL, w_told, w_within, sWhile, w_modulus, w_chosen, w_contains, oOwnIn, w_index, w_nextf, oNotI, w_next, w_first, w_or, w_xor, iMulS, at0, at1, at2, oPow, wCut, wCutTo, oAbsI, stayD, gwLst, w_purse, w_take, sWhile, lcStep, wipeD, oCatL, itemsD, w_set, md0, md1, md2, List.take_succ_cons, List.take_zero, List.take_nil, List.drop_zero, List.drop_succ_cons, List.drop_nil, Nat.le_refl, w_holds, w_holds, oMaxL, oCatL, wAppend]
  unfold wholeM at h
  rw [List.length_map]
  by_cases c : (y.rs.length : Int) < y.m
  · rw [if_pos c] at h
    exact ifT c h
  · rw [if_neg c] at h
    refine ifF c ⟨Nat.zero_le _, ne_ints ?_⟩
    dsimp only
    cases hr : y.ns.getLast? with
    | none =>
      rw [hr] at h
      rw [List.getLast?_eq_none_iff.mp hr]
      exact h
    | some v =>
      rw [hr] at h
      have ne : (!decide (y.ns = [])) = true := by
        cases hx : y.ns with
        | nil => rw [hx] at hr; cases hr
        | cons _ _ => rfl
      rw [if_pos ne]
      exact atOf (at_last (by rw [List.getLast?_map, hr]; rfl)) h
def w_lmem : WF := fun ds S Q => ∃ (y : Mdl) (a k : Nat), ds = [md y, .int a, .int k] ∧ WfM y ∧ a ≤ 1000000000 ∧ k ≤ 9 ∧ ∀ L, Nexts (holdN y) a k L → Q (.lst (L.map fun n : Nat => D.int n)) S
theorem sc__law_members : FnScope ["model", "first", "many", "found", "last", "k", "number"] ["model", "first", "many"] (defScope s__law_members) := ⟨rfl, rfl, rfl, by decide +kernel, rfl, by decide +kernel, by decide +kernel⟩
theorem ok__law_members (T : Tx K mg) : FnOk P w K mg base CX0 3 T.f__law_members T.fd__law_members ["model", "first", "many"] (spW ⟨K, mg⟩ 3 w_lmem) := by
  refine fnDF (k := 2) T.F__law_members sc__law_members (fun cdv A outer s H E hr => ⟨_, (dss_cons (ds_par (i := 3) (j := 4) rfl sc__law_members.nd (da_cons (d_lstM da_nil) (da_cons (d_op op_add snd_iAdd (d_callB (cr_max rfl) (snd_maxL rfl) T.z_max (da_cons (d_fz (d_lcI (own := [("k", 5)]) rfl sc__law_members.nd (ii_list (d_op op_cat snd_catL (d_lst (da_cons (dv 1) da_nil)) (d_ix (dv 0) d_int))) (blkOk_by (own := [("k", 5)]) (N := ["model", "first", "many", "found", "last", "k", "number"]) (sc := defScope s__law_members) (by decide +kernel)) (gown_name (by decide)) (fun _ _ _ _ _ => (dg_name (i := 5) sc__law_members.nd)) (fun _ _ _ _ _ => dts_nil) (fun _ _ _ _ _ => (d_callTy call_int1 snd_int1 T.z_int (da_cons (dv 5) da_nil) (hv := bt_int))))) da_nil) (hv := bt_max)) (d_op op_mulW snd_iMul (d_ix (dv 0) d_int) (d_op op_add snd_iAdd (dv 2) d_int))) da_nil)))
  (dss_cons (ds_if (dt_cmp (op_eqD hr.units) snd_eqD (d_ix (dv 0) d_int) (d_lst da_nil) (nomark _)) (dss_one (ds_ret (d_cutToE (d_fz (d_lcI (own := [("number", 6)]) rfl sc__law_members.nd (ii_list (d_ix (dv 0) d_int)) (blkOk_by (own := [("number", 6)]) (N := ["model", "first", "many", "found", "last", "k", "number"]) (sc := defScope s__law_members) (by decide +kernel)) (gown_name (by decide)) (fun _ _ _ _ _ => (dg_name (i := 6) sc__law_members.nd)) (fun _ _ _ _ _ => (dts_one (dt_cmp op_ge snd_iGe (dv 6) (dv 1) (nomark _)))) (fun _ _ _ _ _ => (dv 6)))) (dv 2)))) dss_nil)
  (dss_cons (ds_for PassesOwn.never rfl (ii_range2 T.z_range (da_cons (dv 1) (da_cons (d_op op_add snd_iAdd (dv 4) d_int) da_nil))) (dg_name (i := 6) sc__law_members.nd) (dss_one (ds_if (PDW.pt (dw_and (dt_cmp op_lt snd_iLt (d_callB call_len_seq snd_len T.z_len (da_cons (dv 3) da_nil) (hv := bt_len)) (dv 2) (nomark _)) (dw_and1 (dt_val (d_call (ok__law_holds T) (hr.mono (by decide)) T.m__law_holds T.F__law_holds.kp T.b__law_holds (da_cons (dv 0) (da_cons (dv 6) da_nil))))))) (dss_one (ds_expr (d_append (dv 3) (da_cons (dv 6) da_nil)))) dss_nil)))
  (dss_one (ds_ret (dv 3))))))⟩) (fun ds S Q hl lo h => ?_)
  obtain ⟨y, a, k, rfl, wy, a1, k1, h⟩ := h
  refine seqG fun R hR => ?_
  simp only [true_and, and_true, oU2, oUn1, oL1, oS1, oR1, oJust, iAdd, iSub, iMul, iFdiv, iMod, iEq, iNe, iLt, iLe, iGt, iGe, iNeg, iAbs, DL.iStr, wFmt, wJs, wJoined, sNext, sSeq, sDrop, sRet, sRetN, sIf, sAsg, sPar, wOp, wVar, wC, wUn, wCons, wNil, wCB, wCall, wMake, wMakeSw, wCallSw, oI, oI0, oU, wTest, wAnd, wOr, DL.wNot, wAndV, wOrV, wNotV, wIf, wTup, wLst, wLstM, gwName, gwNil, gwCons, gwTup, gwSub, oInt1, oAbsI, oLen, oGcd, oDivmod, oMax2, oMin2, oIsi, tyOf, clOf, oStrI, if_t1, if_f1, Bool.not_true, Bool.not_false, startD, List.map_cons, List.map_nil, List.length_cons, List.length_nil, List.cons_append, List.nil_append, List.getElem?_cons_zero, List.getElem?_cons_succ, List.set_cons_zero, List.set_cons_succ, List.replicate, Nat.reduceAdd, Nat.reduceSub, Nat.zero_add, Nat.sub_self, Nat.add_sub_cancel, sForI, forStep, listD, seqD, wFz, wTruth, wiL, wiT, wiR, wiR2, wiET, wLcI, wDcI, wYes, wSortKI, wMakeI, sSetF, putFD, wMerge2, oEqDT, oBoolD, wListRg, wSMeth, oOwn2, wCutE, oRepL, wDIn, oLcm, wChain, kt_ii, kt_ib, kt_rr, wFld_e, wProp_e, ixr_lst, ixr_tup, ixr_tpk, w_is_int, w_within, w_asc, fld_flags, fld_odd, ins_rd, w_initT, w_initL, w_told, w_within, sWhile, w_modulus, w_chosen, w_contains, oOwnIn, w_index, w_nextf, oNotI, w_next, w_first, w_or, w_xor, iMulS, at0, at1, at2, oPow, wCut, wCutTo, oAbsI, stayD, gwLst, w_purse, w_take, sWhile, lcStep, wipeD, oCatL, itemsD, w_set, md0, md1, md2, List.take_succ_cons, List.take_zero, List.take_nil, List.drop_zero, List.drop_succ_cons, List.drop_nil, Nat.le_refl, w_holds, w_holds, oMaxL, oCatL, wAppend]
  have nl := wy.nl
  have m0 := wy.m0
  have ml := wy.ml
  refine ⟨Nat.zero_le _, line5 (by decide), _, _, rfl, rfl, line5 (by simp; omega), ?_⟩
  rw [show [D.int (a : Int)] ++ y.ns.map D.int = ((a : Int) :: y.ns).map D.int from rfl]
  refine lcO_all D.int D.int _ (fun _ => trivial) (line5 (by simp; omega)) (loL_int (f := fun i => i)) (fun n hn acc kk hl2 hkk => ?_) ?_
  · simp only [lcStep, wipeD, gwName, wYes, wCB, wCons, wNil, wVar, oInt1, if_t1, List.set_cons_zero, List.set_cons_succ, List.getElem?_cons_zero, List.getElem?_cons_succ]
    rw [if_pos trivial]
    exact acc_end hl2 hkk
  refine ⟨_, _, rfl, rfl, Nat.succ_pos _, fun m hm hmax => ⟨cm30 (by omega) (by omega), ?_⟩⟩
  have am : (a : Int) ≤ m := hmax _ List.mem_cons_self
  have mlt : m ≤ 1000000000 := by
    rcases List.mem_cons.mp hm with z | z
    · omega
    · have := wy.nn m z
      omega
  have omx : ∀ n ∈ y.ns, n ≤ m := fun n hn => hmax n (List.mem_cons_of_mem _ hn)
  obtain ⟨M, rfl⟩ := Int.eq_ofNat_of_zero_le (show 0 ≤ m by omega)
  clear hmax hm
  subst hR
  refine seqG fun R hR => ?_
  simp only [true_and, and_true, oU2, oUn1, oL1, oS1, oR1, oJust, iAdd, iSub, iMul, iFdiv, iMod, iEq, iNe, iLt, iLe, iGt, iGe, iNeg, iAbs, DL.iStr, wFmt, wJs, wJoined, sNext, sSeq, sDrop, sRet, sRetN, sIf, sAsg, sPar, wOp, wVar, wC, wUn, wCons, wNil, wCB, wCall, wMake, wMakeSw, wCallSw, oI, oI0, oU, wTest, wAnd, wOr, DL.wNot, wAndV, wOrV, wNotV, wIf, wTup, wLst, wLstM, gwName, gwNil, gwCons, gwTup, gwSub, oInt1, oAbsI, oLen, oGcd, oDivmod, oMax2, oMin2, oIsi, tyOf, clOf, oStrI, if_t1, if_f1, Bool.not_true, Bool.not_false, startD, List.map_cons, List.map_nil, List.length_cons, List.length_nil, List.cons_append, List.nil_append, List.getElem?_cons_zero, List.getElem?_cons_succ, List.set_cons_zero, List.set_cons_succ, List.replicate, Nat.reduceAdd, Nat.reduceSub, Nat.zero_add, Nat.sub_self, Nat.add_sub_cancel, sForI, forStep, listD, seqD, wFz, wTruth, wiL, wiT, wiR, wiR2, wiET, wLcI, wDcI, wYes, wSortKI, wMakeI, sSetF, putFD, wMerge2, oEqDT, oBoolD, wListRg, wSMeth, oOwn2, wCutE, oRepL, wDIn, oLcm, wChain, kt_ii, kt_ib, kt_rr, wFld_e, wProp_e, ixr_lst, ixr_tup, ixr_tpk, w_is_int, w_within, w_asc, fld_flags, fld_odd, ins_rd, w_initT, w_initL, w_told, w_within, sWhile, w_modulus, w_chosen, w_contains, oOwnIn, w_index, w_nextf, oNotI, w_next, w_first, w_or, w_xor, iMulS, at0, at1, at2, oPow, wCut, wCutTo, oAbsI, stayD, gwLst, w_purse, w_take, sWhile, lcStep, wipeD, oCatL, itemsD, w_set, md0, md1, md2, List.take_succ_cons, List.take_zero, List.take_nil, List.drop_zero, List.drop_succ_cons, List.drop_nil, Nat.le_refl, w_holds, w_holds, oMaxL, oCatL, wAppend]
  refine ⟨Nat.zero_le _, eq_ints ?_⟩
  dsimp only
  by_cases c : y.rs = []
  · rw [decide_eq_true c, if_pos rfl]
    refine lcO_some D.int (fun n : Int => if decide ((a : Int) ≤ n) then some (D.int n) else none) y.ns (fun _ => trivial) (line5 (by omega)) (loL_keep y.ns) (fun n hn acc kk hl2 hkk => ?_) ?_
    · simp only [lcStep, wipeD, gwName, wTest, wOp, oJust, iGe, wVar, if_t1, List.set_cons_zero, List.set_cons_succ, List.getElem?_cons_zero, List.getElem?_cons_succ]
      cases hc : decide ((a : Int) ≤ n) with
      | true =>
        rw [hc] at hkk
        rw [if_pos rfl]
        exact acc_end hl2 hkk
      | false =>
        rw [hc] at hkk
        rw [if_neg Bool.false_ne_true]
        have hkk' : kk (S ++ [MO.l []] ++ [MO.l (acc ++ [])]) := hkk
        rw [List.append_nil] at hkk'
        exact hkk'
    · rw [keep_map]
      refine ⟨_, rfl, ?_⟩
      rw [cut_upto, ← List.map_take]
      have hz : ∀ n ∈ y.ns.filter (fun n : Int => decide ((a : Int) ≤ n)), 0 ≤ n := fun n hn => (wy.nn n (List.mem_filter.mp hn).1).1
      have hup : Up (y.ns.filter (fun n : Int => decide ((a : Int) ≤ n))) := wy.nu.filter _
      have hme : ∀ n : Int, n ∈ y.ns.filter (fun n : Int => decide ((a : Int) ≤ n)) ↔ n ∈ y.ns ∧ (a : Int) ≤ n := fun n => by rw [List.mem_filter, decide_eq_true_iff]
      generalize y.ns.filter (fun n : Int => decide ((a : Int) ≤ n)) = F at hz hup hme ⊢
      have e : List.map D.int (List.take k F) = ((F.map Int.toNat).take k).map fun n : Nat => D.int n := by
        rw [← List.map_take, List.map_map]
        refine List.map_congr_left fun n hn => ?_
        show D.int n = D.int (n.toNat : Int)
        rw [Int.toNat_of_nonneg (hz n (List.mem_of_mem_take hn))]
      rw [e]
      refine Fz.keep (.lst (loL_int (f := fun n : Nat => (n : Int)))) (h _ (nexts_list _ a k ?_ ?_ ?_))
      · rw [List.pairwise_map]
        exact List.Pairwise.imp_of_mem (fun {u v} hu hv hlt => by have := hz u hu; have := hz v hv; omega) hup
      · intro n hn
        obtain ⟨u, hu, rfl⟩ := List.mem_map.mp hn
        have := ((hme u).mp hu).2
        omega
      · intro n hn
        show holds y (n : Int) = true ↔ _
        unfold holds
        rw [c]
        show (false ^^ y.ns.contains (n : Int)) = true ↔ _
        rw [Bool.false_xor, List.contains_iff_mem, List.mem_map]
        constructor
        · intro z
          exact ⟨(n : Int), (hme _).mpr ⟨z, by omega⟩, by omega⟩
        · rintro ⟨u, hu, rfl⟩
          rw [Int.toNat_of_nonneg (hz u hu)]
          exact ((hme u).mp hu).1
  · rw [decide_eq_false c, if_neg Bool.false_ne_true]
    subst hR
    refine seqG fun R hR => ?_
    simp only [true_and, and_true, oU2, oUn1, oL1, oS1, oR1, oJust, iAdd, iSub, iMul, iFdiv, iMod, iEq, iNe, iLt, iLe, iGt, iGe, iNeg, iAbs, DL.iStr, wFmt, wJs, wJoined, sNext, sSeq, sDrop, sRet, sRetN, sIf, sAsg, sPar, wOp, wVar, wC, wUn, wCons, wNil, wCB, wCall, wMake, wMakeSw, wCallSw, oI, oI0, oU, wTest, wAnd, wOr, DL.wNot, wAndV, wOrV, wNotV, wIf, wTup, wLst, wLstM, gwName, gwNil, gwCons, gwTup, gwSub, oInt1, oAbsI, oLen, oGcd, oDivmod, oMax2, oMin2, oIsi, tyOf, clOf, oStrI, if_t1, if_f1, Bool.not_true, Bool.not_false, startD, List.map_cons, List.map_nil, List.length_cons, List.length_nil, List.cons_append, List.nil_append, List.getElem?_cons_zero, List.getElem?_cons_succ, List.set_cons_zero, List.set_cons_succ, List.replicate, Nat.reduceAdd, Nat.reduceSub, Nat.zero_add, Nat.sub_self, Nat.add_sub_cancel, sForI, forStep, listD, seqD, wFz, wTruth, wiL, wiT, wiR, wiR2, wiET, wLcI, wDcI, wYes, wSortKI, wMakeI, sSetF, putFD, wMerge2, oEqDT, oBoolD, wListRg, wSMeth, oOwn2, wCutE, oRepL, wDIn, oLcm, wChain, kt_ii, kt_ib, kt_rr, wFld_e, wProp_e, ixr_lst, ixr_tup, ixr_tpk, w_is_int, w_within, w_asc, fld_flags, fld_odd, ins_rd, w_initT, w_initL, w_told, w_within, sWhile, w_modulus, w_chosen, w_contains, oOwnIn, w_index, w_nextf, oNotI, w_next, w_first, w_or, w_xor, iMulS, at0, at1, at2, oPow, wCut, wCutTo, oAbsI, stayD, gwLst, w_purse, w_take, sWhile, lcStep, wipeD, oCatL, itemsD, w_set, md0, md1, md2, List.take_succ_cons, List.take_zero, List.take_nil, List.drop_zero, List.drop_succ_cons, List.drop_nil, Nat.le_refl, w_holds, w_holds, oMaxL, oCatL, wAppend]
    have mk : y.m * ((k : Int) + 1) ≤ 200 := Int.le_trans (Int.mul_le_mul ml (show (k : Int) + 1 ≤ 10 by omega) (by omega) (by decide)) (by decide)
    have mk0 : 0 ≤ y.m * ((k : Int) + 1) := Int.mul_nonneg (by omega) (by omega)
    have cn := fun l : Nat => count_hold wy c omx (a := a) (k := k) (l := l) (by omega)
    refine ⟨by omega, ?_⟩
    generalize hl0 : ((M : Int) + y.m * (k + 1) + 1 - a).toNat = l
    have cnt := cn l (by omega)
    clear cn hl0
    have er : rangeD (a : Int) l = (List.range' a l).map fun n : Nat => D.int n := by
      unfold rangeD
      rw [List.range'_eq_map_range, List.map_map]
      rfl
    rw [er]
    generalize (M : Int) + y.m * (k + 1) = last
    generalize hst : forStep _ _ _ = st
    have hs1 : ∀ (p : Nat) (F : List Nat) (o6 : Option D) (nx : DEnv → MS → Prop), F.length ≤ k →
        (∀ (ok : Bool), (ok = true ↔ F.length < k ∧ holdN y p = true) → nx [some (md y), some (.int a), some (.int k), some (.mut S.length), some (.int last), none, some (.int p)] (S ++ [.l ((F ++ if ok then [p] else []).map fun n : Nat => D.int n)])) →
        st (.int p) [some (md y), some (.int a), some (.int k), some (.mut S.length), some (.int last), none, o6] (S ++ [.l (F.map fun n : Nat => D.int n)]) nx := fun p F o6 nx hF hn => by
      subst hst
      simp only [true_and, and_true, oU2, oUn1, oL1, oS1, oR1, oJust, iAdd, iSub, iMul, iFdiv, iMod, iEq, iNe, iLt, iLe, iGt, iGe, iNeg, iAbs, DL.iStr, wFmt, wJs, wJoined, sNext, sSeq, sDrop, sRet, sRetN, sIf, sAsg, sPar, wOp, wVar, wC, wUn, wCons, wNil, wCB, wCall, wMake, wMakeSw, wCallSw, oI, oI0, oU, wTest, wAnd, wOr, DL.wNot, wAndV, wOrV, wNotV, wIf, wTup, wLst, wLstM, gwName, gwNil, gwCons, gwTup, gwSub, oInt1, oAbsI, oLen, oGcd, oDivmod, oMax2, oMin2, oIsi, tyOf, clOf, oStrI, if_t1, if_f1, Bool.not_true, Bool.not_false, startD, List.map_cons, List.map_nil, List.length_cons, List.length_nil, List.cons_append, List.nil_append, List.getElem?_cons_zero, List.getElem?_cons_succ, List.set_cons_zero, List.set_cons_succ, List.replicate, Nat.reduceAdd, Nat.reduceSub, Nat.zero_add, Nat.sub_self, Nat.add_sub_cancel, sForI, forStep, listD, seqD, wFz, wTruth, wiL, wiT, wiR, wiR2, wiET, wLcI, wDcI, wYes, wSortKI, wMakeI, sSetF, putFD, wMerge2, oEqDT, oBoolD, wListRg, wSMeth, oOwn2, wCutE, oRepL, wDIn, oLcm, wChain, kt_ii, kt_ib, kt_rr, wFld_e, wProp_e, ixr_lst, ixr_tup, ixr_tpk, w_is_int, w_within, w_asc, fld_flags, fld_odd, ins_rd, w_initT, w_initL, w_told, w_within, sWhile, w_modulus, w_chosen, w_contains, oOwnIn, w_index, w_nextf, oNotI, w_next, w_first, w_or, w_xor, iMulS, at0, at1, at2, oPow, wCut, wCutTo, oAbsI, stayD, gwLst, w_purse, w_take, sWhile, lcStep, wipeD, oCatL, itemsD, w_set, md0, md1, md2, List.take_succ_cons, List.take_zero, List.take_nil, List.drop_zero, List.drop_succ_cons, List.drop_nil, Nat.le_refl, w_holds, w_holds, oMaxL, oCatL, wAppend]
      refine ⟨_, at_acc, ?_⟩
      rw [List.length_map]
      by_cases c1 : (F.length : Int) < k
      · refine ifT c1 ⟨y, _, rfl, wy, by omega, ?_⟩
        cases hh : holds y p with
        | true =>
          rw [if_pos rfl]
          refine ⟨⟨_, at_acc⟩, _, at_acc, line5 (by rw [List.length_map]; omega), ?_⟩
          rw [set_acc]
          have z := hn true ⟨fun _ => ⟨by omega, hh⟩, fun _ => rfl⟩
          rw [if_pos rfl, List.map_append] at z
          exact z
        | false =>
          rw [if_neg Bool.false_ne_true]
          have z := hn false ⟨fun e => (by cases e), fun e => (by rw [show holdN y p = holds y p from rfl, hh] at e; cases e.2)⟩
          rw [if_neg Bool.false_ne_true, List.append_nil] at z
          exact z
      · refine ifF c1 ?_
        have z := hn false ⟨fun e => (by cases e), fun e => (by omega)⟩
        rw [if_neg Bool.false_ne_true, List.append_nil] at z
        exact z
    clear hst
    have gen : ∀ (t p : Nat) (F : List Nat) (o6 : Option D), F.length ≤ k → (∀ o6, R { nx := fun x S' => Fz S Q D.non S', rt := Fz S Q } [some (md y), some (.int a), some (.int k), some (.mut S.length), some (.int last), none, o6] (S ++ [.l (((F ++ (List.range' p t).filter (holdN y)).take k).map fun n : Nat => D.int n)])) →
        forO (fun _ => True) ((List.range' p t).map fun n : Nat => D.int n) st (R { nx := fun x S' => Fz S Q D.non S', rt := Fz S Q }) [some (md y), some (.int a), some (.int k), some (.mut S.length), some (.int last), none, o6] (S ++ [.l (F.map fun n : Nat => D.int n)]) := by
      intro t
      induction t with
      | zero =>
        intro p F o6 hF hf
        have e := hf o6
        rw [show List.range' p 0 = [] from rfl, List.filter_nil, List.append_nil, List.take_of_length_le hF] at e
        exact ⟨trivial, e⟩
      | succ t ih =>
        intro p F o6 hF hf
        rw [List.range'_succ, List.map_cons]
        refine ⟨trivial, hs1 p F o6 _ hF fun ok hok => ?_⟩
        cases ok with
        | true =>
          obtain ⟨q1, q2⟩ := hok.mp rfl
          rw [if_pos rfl]
          refine ih (p + 1) (F ++ [p]) _ (by simp; omega) fun o6 => ?_
          have e := hf o6
          rw [List.range'_succ, List.filter_cons, q2, if_pos rfl] at e
          rw [List.append_assoc]
          exact e
        | false =>
          rw [if_neg Bool.false_ne_true, List.append_nil]
          refine ih (p + 1) F _ hF fun o6 => ?_
          have e := hf o6
          rw [List.range'_succ, List.filter_cons] at e
          cases hp : holdN y p with
          | false =>
            rw [hp, if_neg Bool.false_ne_true] at e
            exact e
          | true =>
            have ek : F.length = k := by
              refine Classical.byContradiction fun z => ?_
              cases hok.mpr ⟨by omega, hp⟩
            rw [hp, if_pos rfl] at e
            subst ek
            rw [List.take_left] at e ⊢
            exact e
    refine gen l a [] none (Nat.zero_le _) fun o6 => ?_
    rw [List.nil_append]
    subst hR
    simp only [true_and, and_true, oU2, oUn1, oL1, oS1, oR1, oJust, iAdd, iSub, iMul, iFdiv, iMod, iEq, iNe, iLt, iLe, iGt, iGe, iNeg, iAbs, DL.iStr, wFmt, wJs, wJoined, sNext, sSeq, sDrop, sRet, sRetN, sIf, sAsg, sPar, wOp, wVar, wC, wUn, wCons, wNil, wCB, wCall, wMake, wMakeSw, wCallSw, oI, oI0, oU, wTest, wAnd, wOr, DL.wNot, wAndV, wOrV, wNotV, wIf, wTup, wLst, wLstM, gwName, gwNil, gwCons, gwTup, gwSub, oInt1, oAbsI, oLen, oGcd, oDivmod, oMax2, oMin2, oIsi, tyOf, clOf, oStrI, if_t1, if_f1, Bool.not_true, Bool.not_false, startD, List.map_cons, List.map_nil, List.length_cons, List.length_nil, List.cons_append, List.nil_append, List.getElem?_cons_zero, List.getElem?_cons_succ, List.set_cons_zero, List.set_cons_succ, List.replicate, Nat.reduceAdd, Nat.reduceSub, Nat.zero_add, Nat.sub_self, Nat.add_sub_cancel, sForI, forStep, listD, seqD, wFz, wTruth, wiL, wiT, wiR, wiR2, wiET, wLcI, wDcI, wYes, wSortKI, wMakeI, sSetF, putFD, wMerge2, oEqDT, oBoolD, wListRg, wSMeth, oOwn2, wCutE, oRepL, wDIn, oLcm, wChain, kt_ii, kt_ib, kt_rr, wFld_e, wProp_e, ixr_lst, ixr_tup, ixr_tpk, w_is_int, w_within, w_asc, fld_flags, fld_odd, ins_rd, w_initT, w_initL, w_told, w_within, sWhile, w_modulus, w_chosen, w_contains, oOwnIn, w_index, w_nextf, oNotI, w_next, w_first, w_or, w_xor, iMulS, at0, at1, at2, oPow, wCut, wCutTo, oAbsI, stayD, gwLst, w_purse, w_take, sWhile, lcStep, wipeD, oCatL, itemsD, w_set, md0, md1, md2, List.take_succ_cons, List.take_zero, List.take_nil, List.drop_zero, List.drop_succ_cons, List.drop_nil, Nat.le_refl, w_holds, w_holds, oMaxL, oCatL, wAppend]
    exact Fz.list (loL_int (f := fun n : Nat => (n : Int))) (h _ (nexts_range l a k cnt))
end
end K1
set_option Elab.async false
set_option linter.all false
set_option maxRecDepth 100000
set_option maxHeartbeats 0
namespace K1
open PySem PySem.Spec PyProof.Rows L2 DL
section
variable {P : Program} {w : World} {K : PySem.W.Frag} {mg : Str → Option Value} {base : Heap}
def oNeS : OD := fun x y S Q => match x, y with
  | .str a, .str b => Q (.bl (!decide (a = b))) S
  | _, _ => False
theorem snd_sNe {mg : MG} : SndR mg rNe oNeS := by
  intro A S H x y dx dy Q Q' R hx hy q k
  cases dx <;> cases dy <;> first | exact q.elim | skip
  cases hx; cases hy
  refine ⟨rfl, ?_⟩
  rename_i i j
  have e : decide (V.str i = V.str j) = decide (i = j) := by simp
  rw [e]
  exact k _ S A _ H .refl R (.bl _) q
def oEqS : OD := fun x y S Q => match x, y with
  | .str a, .str b => Q (.bl (decide (a = b))) S
  | _, _ => False
theorem snd_sEq {mg : MG} : SndR mg rEq oEqS := by
  intro A S H x y dx dy Q Q' R hx hy q k
  cases dx <;> cases dy <;> first | exact q.elim | skip
  cases hx; cases hy
  refine ⟨rfl, ?_⟩
  rename_i i j
  have e : decide (V.str i = V.str j) = decide (i = j) := by simp
  rw [e]
  exact k _ S A _ H .refl R (.bl _) q

theorem bt_any : bootBuiltins "any" = some (.builtin "any") := by decide +kernel
theorem bls_map : ∀ a : List Bool, bls (a.map D.bl) = some a
  | [] => rfl
  | x :: a => by
    rw [List.map_cons]
    unfold bls
    rw [bls_map a]
    rfl
theorem any_bls {a : List Bool} {S : MS} {Q : D → MS → Prop} (q : Q (.bl (a.any id)) S) : oAny [.lst (a.map D.bl)] S Q := ⟨_, a, rfl, bls_map a, q⟩

theorem str_len {a : Int} (h : a.natAbs.log2 < 1920) : (Str.ofString (toString a)).length ≤ 5000 := by
  have e := int_text_length_le (k := 1920) (by decide) h
  rw [PySem.ofString_length]
  omega
/-- what repr tells of what is told -/
def Rpd (d : D) : Prop := ∃ z : Str, ∀ (S : MS) (Q : D → MS → Prop), Q (.str z) S → oReprD [d] S Q
theorem rpd_non : Rpd .non := ⟨_, fun S Q q => ⟨_, rfl, ⟨rfl, rfl, by decide, line5 (by decide +kernel)⟩, q⟩⟩
theorem rpd_int {i : Int} (h : i.natAbs ≤ 2000000000) : Rpd (.int i) := by
  have hl : i.natAbs.log2 < 1920 := lt_log2 (by decide) (Nat.lt_of_le_of_lt h (Nat.lt_of_lt_of_le (show 2000000000 < 2 ^ 31 by decide) (Nat.pow_le_pow_right (by decide) (by decide))))
  exact ⟨_, fun S Q q => ⟨_, rfl, ⟨decide_eq_true hl, rfl, (by show (0 : Nat) ≤ 100; decide), line5 (by have := str_len hl; exact Nat.le_trans this (by decide))⟩, q⟩⟩
theorem rpd_optD {o : Option Nat} (h : ∀ n, o = some n → n ≤ 2000000000) : Rpd (optD o) := by
  cases o with
  | none => exact rpd_non
  | some n => exact rpd_int (by have := h n rfl; omega)
theorem rpd_whole {y : Mdl} (w : WfM y) : Rpd (wholeM y) := by
  unfold wholeM
  split
  · exact rpd_non
  · split
    · exact rpd_int (by decide)
    · rename_i v e
      have := w.nn v (List.mem_of_getLast? e)
      exact rpd_int (by omega)
theorem Fit.any {r : Rnd} {y : Mdl} (f : Fit r y) : (r.1.contains true || !r.2.isEmpty) = (!decide (y.rs = []) || !decide (y.ns = [])) := by
  rw [f.od]
  have e1 : r.1.contains true = !decide (y.rs = []) := by
    rw [Bool.eq_iff_iff, List.contains_iff_mem, Bool.not_eq_true', decide_eq_false_iff_not]
    constructor
    · intro h e
      obtain ⟨k, hk, z⟩ := List.getElem_of_mem h
      have q := f.fl hk
      rw [e, List.getD_eq_getElem?_getD, List.getElem?_eq_getElem hk, z] at q
      cases q
    · intro h
      obtain ⟨r0, hr⟩ := List.exists_mem_of_ne_nil _ h
      have b := f.wf.rr r0 hr
      have ln := f.ln
      have hk : r0.toNat < r.1.length := by omega
      have q := f.fl hk
      rw [Int.toNat_of_nonneg b.1, List.contains_iff_mem.mpr hr, List.getD_eq_getElem?_getD, List.getElem?_eq_getElem hk] at q
      have q' : r.1[r0.toNat] = true := q
      exact q' ▸ List.getElem_mem hk
  rw [e1]
  congr 2
  cases y.ns <;> rfl
theorem boolO_rd {r : Rnd} {S : MS} {Q : D → MS → Prop} (l : r.1.length ≤ 5040) (q : Q (.bl (r.1.contains true || !r.2.isEmpty)) S) : oBoolO "Rounds" w_bool [rd r] S Q := ⟨rfl, r, rfl, l, q⟩
theorem lk_rd {m : Str} {a b : D} (h1 : (m == ("_flags" : Str)) = false) (h2 : (m == ("_odd" : Str)) = false) : List.lookup m [(("_flags" : Str), a), ("_odd", b)] = none := by simp [List.lookup, h1, h2]
def w_right : WF := fun ds S Q => ∃ (d : Nat) (x0 : MO) (c : Int), ds = [.mut d] ∧ S[d]? = some x0 ∧ Pd x0 c ∧ 0 ≤ c ∧ c ≤ 10 ∧ ∀ (x : MO) (c' : Int), Pd x c' → c ≤ c' → c' ≤ c + 100 → Q (.bl true) (S.set d x)
theorem sc__law_right : FnScope ["draws", "model", "mine", "odd", "number", "value", "first", "due", "many"] ["draws"] (defScope s__law_right) := ⟨rfl, rfl, rfl, by decide +kernel, rfl, by decide +kernel, by decide +kernel⟩
theorem ok__law_right (T : Tx K mg) : FnG P w K mg base 10 T.f__law_right T.fd__law_right ["draws"] (spW ⟨K, mg⟩ 1 w_right) := by
  refine fnDG (k := 9) T.F__law_right sc__law_right (fun cdv A outer s H hr hg => ⟨_, (dss_cons (ds_set (i := 1) sc__law_right.nd (d_call (ok__law_set T) (hr.mono (by decide)) T.m__law_set T.F__law_set.kp T.b__law_set (da_cons (dv 0) (da_cons (d_lst (da_cons d_int (da_cons d_int (da_cons d_int (da_cons d_int (da_cons d_int (da_cons d_int (da_cons d_int (da_cons d_int da_nil))))))))) da_nil))))
  (dss_cons (ds_set (i := 2) sc__law_right.nd (d_call (ok__law_formed T) (hr.mono (by decide)) T.m__law_formed T.F__law_formed.kp T.b__law_formed (da_cons (dv 1) da_nil)))
  (dss_cons (ds_if (PDW.pt (dw_or (dt_cmp op_ne snd_iNe (d_prop (dv 2) T.g_Rounds T.cl T.p_modulus (ok_modulus T) (hr.mono (by decide)) T.b_modulus) (d_ix (dv 1) d_int) (nomark _)) (dw_or1 (dt_cmp op_ne snd_sNe (d_callB (call_reprD hr hg) snd_reprD T.z_repr (da_cons (d_prop (dv 2) T.g_Rounds T.cl T.p_whole_from (ok_whole_from T) (hr.mono (by decide)) T.b_whole_from) da_nil) (hv := bt_repr)) (d_callB (call_reprD hr hg) snd_reprD T.z_repr (da_cons (d_call (ok__law_whole T) (hr.mono (by decide)) T.m__law_whole T.F__law_whole.kp T.b__law_whole (da_cons (dv 1) da_nil)) da_nil) (hv := bt_repr)) (nomark _))))) (dss_one (ds_ret d_bl)) dss_nil)
  (dss_cons (ds_if (dt_cmp (op_neD hr.units) snd_neD (d_callTy (call_boolOwn T.M_bool (ok_bool T) (hr.mono (by decide)) T.b_bool) (snd_boolO T.g_Rounds) T.z_bool (da_cons (dv 2) da_nil) (hv := bt_bool)) (d_or (d_cmp (op_neD hr.units) snd_neD (d_ix (dv 1) d_int) (d_lst da_nil) (nomark _)) (d_one (d_cmp (op_neD hr.units) snd_neD (d_ix (dv 1) d_int) (d_lst da_nil) (nomark _)))) (nomark _)) (dss_one (ds_ret d_bl)) dss_nil)
  (dss_cons (ds_set (i := 3) sc__law_right.nd (d_lst (da_cons d_bl (da_cons d_bl (da_cons (d_un un_neg (snd_rU fun _ _ _ => .int _) d_int) (da_cons (d_un un_neg (snd_rU fun _ _ _ => .int _) d_int) (da_cons d_non (da_cons d_str (da_cons (d_fz (d_makeD T.mkkR (ok_R_init T) (hr.mono (by decide)) T.g_Ratio T.b_R_init1 T.v_R_init1 (fun _ _ => .cons (.int 1) .nil) (da_cons d_int da_nil))) (da_cons (d_tup (da_cons d_int da_nil)) (da_cons (d_lst da_nil) (da_cons (d_op op_sub snd_iSub d_int (d_op op_pow (snd_rI fun _ _ _ _ => .int _) d_int d_int)) da_nil))))))))))))
  (dss_cons (ds_if (dt_cmp (op_neD hr.units) snd_neD (d_fz (d_lcI (own := [("number", 4)]) rfl sc__law_right.nd (ii_range T.z_range (da_cons d_int da_nil)) (blkOk_by (own := [("number", 4)]) (N := ["draws", "model", "mine", "odd", "number", "value", "first", "due", "many"]) (sc := defScope s__law_right) (by decide +kernel)) (gown_name (by decide)) (fun _ _ _ _ _ => (dg_name (i := 4) sc__law_right.nd)) (fun _ _ _ _ _ => dts_nil) (fun _ _ _ _ _ => (d_cmp (op_ownIn T.M_contains (ok_contains T) (hr.mono (by decide)) T.b_contains) (snd_ownIn T.g_Rounds) (dv 4) (dv 2) (by first | exact nobehind _ (by decide) (by decide) | rfl | with_unfolding_all rfl))))) (d_fz (d_lcI (own := [("number", 4)]) rfl sc__law_right.nd (ii_range T.z_range (da_cons d_int da_nil)) (blkOk_by (own := [("number", 4)]) (N := ["draws", "model", "mine", "odd", "number", "value", "first", "due", "many"]) (sc := defScope s__law_right) (by decide +kernel)) (gown_name (by decide)) (fun _ _ _ _ _ => (dg_name (i := 4) sc__law_right.nd)) (fun _ _ _ _ _ => dts_nil) (fun _ _ _ _ _ => (d_callC (ok__law_holds T) (hr.mono (by decide)) T.m__law_holds T.F__law_holds.kp T.b__law_holds (da_cons (dv 1) (da_cons (dv 4) da_nil)))))) (nomark _)) (dss_one (ds_ret d_bl)) dss_nil)
  (dss_cons (ds_if (dt_val (d_callB (cr_any rfl) (snd_any rfl) T.z_any (da_cons (d_fz (d_lcI (own := [("value", 5)]) rfl sc__law_right.nd (ii_list (dv 3)) (blkOk_by (own := [("value", 5)]) (N := ["draws", "model", "mine", "odd", "number", "value", "first", "due", "many"]) (sc := defScope s__law_right) (by decide +kernel)) (gown_name (by decide)) (fun _ _ _ _ _ => (dg_name (i := 5) sc__law_right.nd)) (fun _ _ _ _ _ => dts_nil) (fun _ _ _ _ _ => (d_cmp (op_ownIn T.M_contains (ok_contains T) (hr.mono (by decide)) T.b_contains) (snd_ownIn T.g_Rounds) (dv 5) (dv 2) (by first | exact nobehind _ (by decide) (by decide) | rfl | with_unfolding_all rfl))))) da_nil) (hv := bt_any))) (dss_one (ds_ret d_bl)) dss_nil)
  (dss_cons (ds_for PassesOwn.never rfl (ii_list (d_lst (da_cons d_int (da_cons (d_call (ok__law_take T) (hr.mono (by decide)) T.m__law_take T.F__law_take.kp T.b__law_take (da_cons (dv 0) (da_cons d_int da_nil))) (da_cons (d_call (ok__law_take T) (hr.mono (by decide)) T.m__law_take T.F__law_take.kp T.b__law_take (da_cons (dv 0) (da_cons d_int da_nil))) (da_cons (d_op op_sub snd_iSub (d_op op_pow (snd_rI fun _ _ _ _ => .int _) d_int d_int) (d_call (ok__law_take T) (hr.mono (by decide)) T.m__law_take T.F__law_take.kp T.b__law_take (da_cons (dv 0) (da_cons d_int da_nil)))) da_nil)))))) (dg_name (i := 6) sc__law_right.nd) (dss_cons (ds_set (i := 7) sc__law_right.nd (d_call (ok__law_members T) (hr.mono (by decide)) T.m__law_members T.F__law_members.kp T.b__law_members (da_cons (dv 1) (da_cons (dv 6) (da_cons d_int da_nil)))))
  (dss_one (ds_if (PDW.pt (dw_or (dt_cmp op_ne snd_sNe (d_callB (call_reprD hr hg) snd_reprD T.z_repr (da_cons (d_meth (dv 2) T.g_Rounds T.cl T.M_after (ok_after T) (hr.mono (by decide)) T.b_after (da_cons (dv 6) da_nil)) da_nil) (hv := bt_repr)) (d_callB (call_reprD hr hg) snd_reprD T.z_repr (da_cons (d_ix (d_op op_cat snd_catL (dv 7) (d_lst (da_cons d_non da_nil))) d_int) da_nil) (hv := bt_repr)) (nomark _)) (dw_or1 (dt_cmp (op_neD hr.units) snd_neD (d_listMeth (dv 2) T.g_Rounds T.cl T.M_members (ok_members T) (hr.mono (by decide)) T.b_members (da_cons (dv 6) (da_cons d_int da_nil)) T.z_list) (dv 7) (nomark _))))) (dss_one (ds_ret d_bl)) dss_nil))))
  (dss_cons (ds_set (i := 8) sc__law_right.nd (d_call (ok__law_take T) (hr.mono (by decide)) T.m__law_take T.F__law_take.kp T.b__law_take (da_cons (dv 0) (da_cons d_int da_nil))))
  (dss_one (ds_ret (d_and (d_cmp (op_eqD hr.units) snd_eqD (d_listMeth (dv 2) T.g_Rounds T.cl T.M_members (ok_members T) (hr.mono (by decide)) T.b_members (da_cons d_int (da_cons (dv 8) da_nil)) T.z_list) (d_call (ok__law_members T) (hr.mono (by decide)) T.m__law_members T.F__law_members.kp T.b__law_members (da_cons (dv 1) (da_cons d_int (da_cons (dv 8) da_nil)))) (nomark _)) (d_one (d_cmp (op_eqD hr.units) snd_eqD (d_listMeth (dv 2) T.g_Rounds T.cl T.M_members (ok_members T) (hr.mono (by decide)) T.b_members (da_cons d_int (da_cons d_int da_nil)) T.z_list) (d_lst da_nil) (nomark _)))))))))))))))⟩) (fun ds S Q hl h => ?_)
  obtain ⟨d, x0, c, rfl, hS, p0, c0, c1, h⟩ := h
  have dl : d < S.length := (List.getElem?_eq_some_iff.mp hS).1
  refine seqG fun R hR => ?_
  simp only [true_and, and_true, oU2, oUn1, oL1, oS1, oR1, oJust, iAdd, iSub, iMul, iFdiv, iMod, iEq, iNe, iLt, iLe, iGt, iGe, iNeg, iAbs, DL.iStr, wFmt, wJs, wJoined, sNext, sSeq, sDrop, sRet, sRetN, sIf, sAsg, sPar, wOp, wVar, wC, wUn, wCons, wNil, wCB, wCall, wMake, wMakeSw, wCallSw, oI, oI0, oU, wTest, wAnd, wOr, DL.wNot, wAndV, wOrV, wNotV, wIf, wTup, wLst, wLstM, gwName, gwNil, gwCons, gwTup, gwSub, oInt1, oAbsI, oLen, oGcd, oDivmod, oMax2, oMin2, oStrI, if_t1, if_f1, Bool.not_true, Bool.not_false, startD, List.map_cons, List.map_nil, List.length_cons, List.length_nil, List.cons_append, List.nil_append, List.getElem?_cons_zero, List.getElem?_cons_succ, List.set_cons_zero, List.set_cons_succ, List.replicate, Nat.reduceAdd, Nat.reduceSub, Nat.zero_add, Nat.sub_self, Nat.add_sub_cancel, sForI, forStep, listD, seqD, wFz, wTruth, wiL, wiT, wiR, wiR2, wiET, wLcI, wDcI, wYes, wSortKI, wMakeI, sSetF, putFD, wMerge2, oEqDT, oBoolD, wListRg, wSMeth, oOwn2, wCutE, oRepL, wDIn, oLcm, wChain, kt_ii, kt_ib, kt_rr, wFld_e, wProp_e, ixr_lst, ixr_tup, ixr_tpk, w_is_int, w_within, w_asc, fld_flags, fld_odd, ins_rd, w_initT, w_initL, w_told, w_within, sWhile, w_modulus, w_chosen, oOwnIn, w_index, w_nextf, oNotI, w_next, w_first, w_or, w_xor, iMulS, at0, at1, at2, oPow, wCut, wCutTo, oAbsI, stayD, gwLst, w_purse, sWhile, wipeD, oCatL, itemsD, md0, md1, md2, List.take_succ_cons, List.take_zero, List.take_nil, List.drop_zero, List.drop_succ_cons, List.drop_nil, Nat.le_refl, oMaxL, oCatL, wAppend, oNeS, wMakeD, wMeth, wListMeth, wProp_e, isi_rr, w_modulus]
  refine ⟨line5 (by decide), d, [1, 2, 3, 4, 5, 6, 7, 12], x0, c, rfl, hS, p0, c0, by omega, fun m hm => ?_, by decide, by decide, fun x1 c' y p1 g1 g2 wy => ?_⟩
  · simp only [List.mem_cons, List.not_mem_nil, or_false] at hm
    rcases hm with rfl | rfl | rfl | rfl | rfl | rfl | rfl | rfl <;> decide
  have hS1 : (S.set d x1)[d]? = some x1 := set_at hS
  have dl1 : d < (S.set d x1).length := by rw [List.length_set]; exact dl
  have h1 : ∀ (x2 : MO) (c2 : Int), Pd x2 c2 → c ≤ c2 → c2 ≤ c + 100 → Q (.bl true) ((S.set d x1).set d x2) := fun x2 c2 a1 a2 a3 => by
    rw [List.set_set]
    exact h x2 c2 a1 a2 a3
  generalize S.set d x1 = S1 at hS1 dl1 h1 ⊢
  clear h hS dl p0
  subst hR
  refine seqG fun R hR => ?_
  simp only [true_and, and_true, oU2, oUn1, oL1, oS1, oR1, oJust, iAdd, iSub, iMul, iFdiv, iMod, iEq, iNe, iLt, iLe, iGt, iGe, iNeg, iAbs, DL.iStr, wFmt, wJs, wJoined, sNext, sSeq, sDrop, sRet, sRetN, sIf, sAsg, sPar, wOp, wVar, wC, wUn, wCons, wNil, wCB, wCall, wMake, wMakeSw, wCallSw, oI, oI0, oU, wTest, wAnd, wOr, DL.wNot, wAndV, wOrV, wNotV, wIf, wTup, wLst, wLstM, gwName, gwNil, gwCons, gwTup, gwSub, oInt1, oAbsI, oLen, oGcd, oDivmod, oMax2, oMin2, oStrI, if_t1, if_f1, Bool.not_true, Bool.not_false, startD, List.map_cons, List.map_nil, List.length_cons, List.length_nil, List.cons_append, List.nil_append, List.getElem?_cons_zero, List.getElem?_cons_succ, List.set_cons_zero, List.set_cons_succ, List.replicate, Nat.reduceAdd, Nat.reduceSub, Nat.zero_add, Nat.sub_self, Nat.add_sub_cancel, sForI, forStep, listD, seqD, wFz, wTruth, wiL, wiT, wiR, wiR2, wiET, wLcI, wDcI, wYes, wSortKI, wMakeI, sSetF, putFD, wMerge2, oEqDT, oBoolD, wListRg, wSMeth, oOwn2, wCutE, oRepL, wDIn, oLcm, wChain, kt_ii, kt_ib, kt_rr, wFld_e, wProp_e, ixr_lst, ixr_tup, ixr_tpk, w_is_int, w_within, w_asc, fld_flags, fld_odd, ins_rd, w_initT, w_initL, w_told, w_within, sWhile, w_modulus, w_chosen, oOwnIn, w_index, w_nextf, oNotI, w_next, w_first, w_or, w_xor, iMulS, at0, at1, at2, oPow, wCut, wCutTo, oAbsI, stayD, gwLst, w_purse, sWhile, wipeD, oCatL, itemsD, md0, md1, md2, List.take_succ_cons, List.take_zero, List.take_nil, List.drop_zero, List.drop_succ_cons, List.drop_nil, Nat.le_refl, oMaxL, oCatL, wAppend, oNeS, wMakeD, wMeth, wListMeth, wProp_e, isi_rr, w_modulus]
  refine ⟨y, rfl, wy, fun r ok ln me => ?_⟩
  have f : Fit r y := ⟨ok, ln, me, wy⟩
  subst hR
  refine seqG fun R hR => ?_
  simp only [true_and, and_true, oU2, oUn1, oL1, oS1, oR1, oJust, iAdd, iSub, iMul, iFdiv, iMod, iEq, iNe, iLt, iLe, iGt, iGe, iNeg, iAbs, DL.iStr, wFmt, wJs, wJoined, sNext, sSeq, sDrop, sRet, sRetN, sIf, sAsg, sPar, wOp, wVar, wC, wUn, wCons, wNil, wCB, wCall, wMake, wMakeSw, wCallSw, oI, oI0, oU, wTest, wAnd, wOr, DL.wNot, wAndV, wOrV, wNotV, wIf, wTup, wLst, wLstM, gwName, gwNil, gwCons, gwTup, gwSub, oInt1, oAbsI, oLen, oGcd, oDivmod, oMax2, oMin2, oStrI, if_t1, if_f1, Bool.not_true, Bool.not_false, startD, List.map_cons, List.map_nil, List.length_cons, List.length_nil, List.cons_append, List.nil_append, List.getElem?_cons_zero, List.getElem?_cons_succ, List.set_cons_zero, List.set_cons_succ, List.replicate, Nat.reduceAdd, Nat.reduceSub, Nat.zero_add, Nat.sub_self, Nat.add_sub_cancel, sForI, forStep, listD, seqD, wFz, wTruth, wiL, wiT, wiR, wiR2, wiET, wLcI, wDcI, wYes, wSortKI, wMakeI, sSetF, putFD, wMerge2, oEqDT, oBoolD, wListRg, wSMeth, oOwn2, wCutE, oRepL, wDIn, oLcm, wChain, kt_ii, kt_ib, kt_rr, wFld_e, wProp_e, ixr_lst, ixr_tup, ixr_tpk, w_is_int, w_within, w_asc, fld_flags, fld_odd, ins_rd, w_initT, w_initL, w_told, w_within, sWhile, w_modulus, w_chosen, oOwnIn, w_index, w_nextf, oNotI, w_next, w_first, w_or, w_xor, iMulS, at0, at1, at2, oPow, wCut, wCutTo, oAbsI, stayD, gwLst, w_purse, sWhile, wipeD, oCatL, itemsD, md0, md1, md2, List.take_succ_cons, List.take_zero, List.take_nil, List.drop_zero, List.drop_succ_cons, List.drop_nil, Nat.le_refl, oMaxL, oCatL, wAppend, oNeS, wMakeD, wMeth, wListMeth, wProp_e, isi_rr, w_modulus]
  refine ⟨r, rfl, ?_⟩
  rw [f.ln, decide_eq_true rfl, if_neg (by decide)]
  refine ⟨r, rfl, ok.wf, ?_⟩
  rw [f.whole]
  obtain ⟨z, hz⟩ := rpd_whole wy
  refine hz _ _ ⟨y, rfl, wy, hz _ _ ?_⟩
  dsimp only
  rw [decide_eq_true rfl, if_neg (by decide)]
  clear hz
  subst hR
  refine seqG fun R hR => ?_
  simp only [true_and, and_true, oU2, oUn1, oL1, oS1, oR1, oJust, iAdd, iSub, iMul, iFdiv, iMod, iEq, iNe, iLt, iLe, iGt, iGe, iNeg, iAbs, DL.iStr, wFmt, wJs, wJoined, sNext, sSeq, sDrop, sRet, sRetN, sIf, sAsg, sPar, wOp, wVar, wC, wUn, wCons, wNil, wCB, wCall, wMake, wMakeSw, wCallSw, oI, oI0, oU, wTest, wAnd, wOr, DL.wNot, wAndV, wOrV, wNotV, wIf, wTup, wLst, wLstM, gwName, gwNil, gwCons, gwTup, gwSub, oInt1, oAbsI, oLen, oGcd, oDivmod, oMax2, oMin2, oStrI, if_t1, if_f1, Bool.not_true, Bool.not_false, startD, List.map_cons, List.map_nil, List.length_cons, List.length_nil, List.cons_append, List.nil_append, List.getElem?_cons_zero, List.getElem?_cons_succ, List.set_cons_zero, List.set_cons_succ, List.replicate, Nat.reduceAdd, Nat.reduceSub, Nat.zero_add, Nat.sub_self, Nat.add_sub_cancel, sForI, forStep, listD, seqD, wFz, wTruth, wiL, wiT, wiR, wiR2, wiET, wLcI, wDcI, wYes, wSortKI, wMakeI, sSetF, putFD, wMerge2, oEqDT, oBoolD, wListRg, wSMeth, oOwn2, wCutE, oRepL, wDIn, oLcm, wChain, kt_ii, kt_ib, kt_rr, wFld_e, wProp_e, ixr_lst, ixr_tup, ixr_tpk, w_is_int, w_within, w_asc, fld_flags, fld_odd, ins_rd, w_initT, w_initL, w_told, w_within, sWhile, w_modulus, w_chosen, oOwnIn, w_index, w_nextf, oNotI, w_next, w_first, w_or, w_xor, iMulS, at0, at1, at2, oPow, wCut, wCutTo, oAbsI, stayD, gwLst, w_purse, sWhile, wipeD, oCatL, itemsD, md0, md1, md2, List.take_succ_cons, List.take_zero, List.take_nil, List.drop_zero, List.drop_succ_cons, List.drop_nil, Nat.le_refl, oMaxL, oCatL, wAppend, oNeS, wMakeD, wMeth, wListMeth, wProp_e, isi_rr, w_modulus]
  refine boolO_rd (by have := ok.le; omega) ?_
  rw [f.any]
  have next : R { nx := fun x S' => Q D.non S', rt := Q } [some (.mut d), some (md y), some (rd r), none, none, none, none, none, none] S1 := by
    subst hR
    refine seqG fun R hR => ?_
    simp only [true_and, and_true, oU2, oUn1, oL1, oS1, oR1, oJust, iAdd, iSub, iMul, iFdiv, iMod, iEq, iNe, iLt, iLe, iGt, iGe, iNeg, iAbs, DL.iStr, wFmt, wJs, wJoined, sNext, sSeq, sDrop, sRet, sRetN, sIf, sAsg, sPar, wOp, wVar, wC, wUn, wCons, wNil, wCB, wCall, wMake, wMakeSw, wCallSw, oI, oI0, oU, wTest, wAnd, wOr, DL.wNot, wAndV, wOrV, wNotV, wIf, wTup, wLst, wLstM, gwName, gwNil, gwCons, gwTup, gwSub, oInt1, oAbsI, oLen, oGcd, oDivmod, oMax2, oMin2, oStrI, if_t1, if_f1, Bool.not_true, Bool.not_false, startD, List.map_cons, List.map_nil, List.length_cons, List.length_nil, List.cons_append, List.nil_append, List.getElem?_cons_zero, List.getElem?_cons_succ, List.set_cons_zero, List.set_cons_succ, List.replicate, Nat.reduceAdd, Nat.reduceSub, Nat.zero_add, Nat.sub_self, Nat.add_sub_cancel, sForI, forStep, listD, seqD, wFz, wTruth, wiL, wiT, wiR, wiR2, wiET, wLcI, wDcI, wYes, wSortKI, wMakeI, sSetF, putFD, wMerge2, oEqDT, oBoolD, wListRg, wSMeth, oOwn2, wCutE, oRepL, wDIn, oLcm, wChain, kt_ii, kt_ib, kt_rr, wFld_e, wProp_e, ixr_lst, ixr_tup, ixr_tpk, w_is_int, w_within, w_asc, fld_flags, fld_odd, ins_rd, w_initT, w_initL, w_told, w_within, sWhile, w_modulus, w_chosen, oOwnIn, w_index, w_nextf, oNotI, w_next, w_first, w_or, w_xor, iMulS, at0, at1, at2, oPow, wCut, wCutTo, oAbsI, stayD, gwLst, w_purse, sWhile, wipeD, oCatL, itemsD, md0, md1, md2, List.take_succ_cons, List.take_zero, List.take_nil, List.drop_zero, List.drop_succ_cons, List.drop_nil, Nat.le_refl, oMaxL, oCatL, wAppend, oNeS, wMakeD, wMeth, wListMeth, wProp_e, isi_rr, w_modulus]
    refine ⟨S1.length, rfl, at_acc, rfl, ?_⟩
    rw [set_acc]
    refine Fz.inst (.cons (.int _) (.cons (.int _) .nil)) ⟨line5 (by decide), line5 (by decide), ⟨by decide, by decide, by decide⟩, line5 (by decide), ?_⟩
    rw [show (1 : Int) - 10 ^ Int.toNat 20 = -99999999999999999999 by decide +kernel]
    have hod : ∀ x ∈ [D.bl true, .bl false, .int (-1), .int (-7), .non, .str "3", .ins "Ratio" [(("_top" : Str), D.int 3), ("_bottom", .int 1)], .tup [.int 1], .lst [], .int (-99999999999999999999)], Oth x ∨ ∃ n : Int, n < 0 ∧ x = .int n := by
      intro x hx
      simp only [List.mem_cons, List.not_mem_nil, or_false] at hx
      rcases hx with rfl | rfl | rfl | rfl | rfl | rfl | rfl | rfl | rfl | rfl
      all_goals first | exact .inl trivial | exact .inl rfl | exact .inr ⟨_, by decide, rfl⟩
    have hln : [D.bl true, .bl false, .int (-1), .int (-7), .non, .str "3", .ins "Ratio" [(("_top" : Str), D.int 3), ("_bottom", .int 1)], .tup [.int 1], .lst [], .int (-99999999999999999999)].length ≤ 100 := by show 10 ≤ 100; decide
    generalize [D.bl true, .bl false, .int (-1), .int (-7), .non, .str "3", .ins "Ratio" [(("_top" : Str), D.int 3), ("_bottom", .int 1)], .tup [.int 1], .lst [], .int (-99999999999999999999)] = od at hod hln ⊢
    subst hR
    refine seqG fun R hR => ?_
    simp only [true_and, and_true, oU2, oUn1, oL1, oS1, oR1, oJust, iAdd, iSub, iMul, iFdiv, iMod, iEq, iNe, iLt, iLe, iGt, iGe, iNeg, iAbs, DL.iStr, wFmt, wJs, wJoined, sNext, sSeq, sDrop, sRet, sRetN, sIf, sAsg, sPar, wOp, wVar, wC, wUn, wCons, wNil, wCB, wCall, wMake, wMakeSw, wCallSw, oI, oI0, oU, wTest, wAnd, wOr, DL.wNot, wAndV, wOrV, wNotV, wIf, wTup, wLst, wLstM, gwName, gwNil, gwCons, gwTup, gwSub, oInt1, oAbsI, oLen, oGcd, oDivmod, oMax2, oMin2, oStrI, if_t1, if_f1, Bool.not_true, Bool.not_false, startD, List.map_cons, List.map_nil, List.length_cons, List.length_nil, List.cons_append, List.nil_append, List.getElem?_cons_zero, List.getElem?_cons_succ, List.set_cons_zero, List.set_cons_succ, List.replicate, Nat.reduceAdd, Nat.reduceSub, Nat.zero_add, Nat.sub_self, Nat.add_sub_cancel, sForI, forStep, listD, seqD, wFz, wTruth, wiL, wiT, wiR, wiR2, wiET, wLcI, wDcI, wYes, wSortKI, wMakeI, sSetF, putFD, wMerge2, oEqDT, oBoolD, wListRg, wSMeth, oOwn2, wCutE, oRepL, wDIn, oLcm, wChain, kt_ii, kt_ib, kt_rr, wFld_e, wProp_e, ixr_lst, ixr_tup, ixr_tpk, w_is_int, w_within, w_asc, fld_flags, fld_odd, ins_rd, w_initT, w_initL, w_told, w_within, sWhile, w_modulus, w_chosen, oOwnIn, w_index, w_nextf, oNotI, w_next, w_first, w_or, w_xor, iMulS, at0, at1, at2, oPow, wCut, wCutTo, oAbsI, stayD, gwLst, w_purse, sWhile, wipeD, oCatL, itemsD, md0, md1, md2, List.take_succ_cons, List.take_zero, List.take_nil, List.drop_zero, List.drop_succ_cons, List.drop_nil, Nat.le_refl, oMaxL, oCatL, wAppend, oNeS, wMakeD, wMeth, wListMeth, wProp_e, isi_rr, w_modulus]
    have s60 : (-2 ^ 62 : Int) ≤ 60 ∧ (60 : Int) < 2 ^ 62 := ⟨by decide, by decide⟩
    refine ⟨s60, ?_⟩
    rw [show Int.toNat 60 = 60 from rfl, rangeD_map]
    refine lcO_all (fun i : Nat => D.int (0 + i)) (fun n : Nat => D.bl (holds y (n : Int))) (List.range 60) (fun _ => trivial) (line5 (by simp)) loL_bl (fun n hn acc kk hl2 hkk => ?_) ⟨s60, ?_⟩
    · simp only [lcStep, wipeD, gwName, wYes, wOp, wVar, oOwnIn, if_t1, List.set_cons_zero, List.set_cons_succ, List.getElem?_cons_zero, List.getElem?_cons_succ]
      rw [if_pos trivial]
      refine ⟨⟨_, rfl⟩, r, _, rfl, ok.wf, .inl ⟨_, rfl, _, rfl, acc_end hl2 ?_⟩⟩
      rw [Int.zero_add, decide_eq_true (show (0 : Int) ≤ (n : Int) by omega), Bool.true_and, Bool.false_xor, f.me]
      exact hkk
    refine lcO_all (fun i : Nat => D.int (0 + i)) (fun n : Nat => D.bl (holds y (n : Int))) (List.range 60) (fun _ => trivial) (line5 (by simp)) loL_bl (fun n hn acc kk hl2 hkk => ?_) ?_
    · simp only [lcStep, wipeD, gwName, wYes, wCall, wCons, wNil, wVar, w_holds, if_t1, List.set_cons_zero, List.set_cons_succ, List.getElem?_cons_zero, List.getElem?_cons_succ]
      rw [if_pos trivial]
      refine ⟨rfl, y, _, rfl, wy, by omega, acc_end hl2 ?_⟩
      rw [Int.zero_add]
      exact hkk
    refine ne_same leafs_bl ?_
    dsimp only
    rw [if_neg (by decide)]
    subst hR
    refine seqG fun R hR => ?_
    simp only [true_and, and_true, oU2, oUn1, oL1, oS1, oR1, oJust, iAdd, iSub, iMul, iFdiv, iMod, iEq, iNe, iLt, iLe, iGt, iGe, iNeg, iAbs, DL.iStr, wFmt, wJs, wJoined, sNext, sSeq, sDrop, sRet, sRetN, sIf, sAsg, sPar, wOp, wVar, wC, wUn, wCons, wNil, wCB, wCall, wMake, wMakeSw, wCallSw, oI, oI0, oU, wTest, wAnd, wOr, DL.wNot, wAndV, wOrV, wNotV, wIf, wTup, wLst, wLstM, gwName, gwNil, gwCons, gwTup, gwSub, oInt1, oAbsI, oLen, oGcd, oDivmod, oMax2, oMin2, oStrI, if_t1, if_f1, Bool.not_true, Bool.not_false, startD, List.map_cons, List.map_nil, List.length_cons, List.length_nil, List.cons_append, List.nil_append, List.getElem?_cons_zero, List.getElem?_cons_succ, List.set_cons_zero, List.set_cons_succ, List.replicate, Nat.reduceAdd, Nat.reduceSub, Nat.zero_add, Nat.sub_self, Nat.add_sub_cancel, sForI, forStep, listD, seqD, wFz, wTruth, wiL, wiT, wiR, wiR2, wiET, wLcI, wDcI, wYes, wSortKI, wMakeI, sSetF, putFD, wMerge2, oEqDT, oBoolD, wListRg, wSMeth, oOwn2, wCutE, oRepL, wDIn, oLcm, wChain, kt_ii, kt_ib, kt_rr, wFld_e, wProp_e, ixr_lst, ixr_tup, ixr_tpk, w_is_int, w_within, w_asc, fld_flags, fld_odd, ins_rd, w_initT, w_initL, w_told, w_within, sWhile, w_modulus, w_chosen, oOwnIn, w_index, w_nextf, oNotI, w_next, w_first, w_or, w_xor, iMulS, at0, at1, at2, oPow, wCut, wCutTo, oAbsI, stayD, gwLst, w_purse, sWhile, wipeD, oCatL, itemsD, md0, md1, md2, List.take_succ_cons, List.take_zero, List.take_nil, List.drop_zero, List.drop_succ_cons, List.drop_nil, Nat.le_refl, oMaxL, oCatL, wAppend, oNeS, wMakeD, wMeth, wListMeth, wProp_e, isi_rr, w_modulus]
    have em : od.map (fun d => d) = od := List.map_id' od
    suffices z : lcO (fun _ => True) (od.map fun d => d) _ _ _ by rw [em] at z; exact z
    refine lcO_all (fun d => d) (fun _ => D.bl false) od (fun _ => trivial) (line5 (by omega)) loL_bl (fun x hx acc kk hl2 hkk => ?_) ?_
    · simp only [lcStep, wipeD, gwName, wYes, wOp, wVar, oOwnIn, if_t1, List.set_cons_zero, List.set_cons_succ, List.getElem?_cons_zero, List.getElem?_cons_succ]
      rw [if_pos trivial]
      rcases hod x hx with o | ⟨n, hn, rfl⟩
      · exact ⟨⟨_, rfl⟩, r, _, rfl, ok.wf, .inr ⟨o, _, rfl, acc_end hl2 hkk⟩⟩
      · refine ⟨⟨_, rfl⟩, r, _, rfl, ok.wf, .inl ⟨_, rfl, _, rfl, acc_end hl2 ?_⟩⟩
        rw [decide_eq_false (show ¬ 0 ≤ n by omega), Bool.false_and, Bool.false_xor]
        exact hkk
    have ef : (od.map fun _ => D.bl false) = (od.map fun _ => false).map D.bl := by rw [List.map_map]; rfl
    rw [ef]
    refine any_bls ?_
    dsimp only
    have ea : (od.map fun _ => false).any id = false := by
      rw [List.any_map, List.any_eq_false]
      intro x _
      simp
    rw [ea, if_neg Bool.false_ne_true]
    clear ef ea em hod hln s60
    subst hR
    refine seqG fun R hR => ?_
    simp only [true_and, and_true, oU2, oUn1, oL1, oS1, oR1, oJust, iAdd, iSub, iMul, iFdiv, iMod, iEq, iNe, iLt, iLe, iGt, iGe, iNeg, iAbs, DL.iStr, wFmt, wJs, wJoined, sNext, sSeq, sDrop, sRet, sRetN, sIf, sAsg, sPar, wOp, wVar, wC, wUn, wCons, wNil, wCB, wCall, wMake, wMakeSw, wCallSw, oI, oI0, oU, wTest, wAnd, wOr, DL.wNot, wAndV, wOrV, wNotV, wIf, wTup, wLst, wLstM, gwName, gwNil, gwCons, gwTup, gwSub, oInt1, oAbsI, oLen, oGcd, oDivmod, oMax2, oMin2, oStrI, if_t1, if_f1, Bool.not_true, Bool.not_false, startD, List.map_cons, List.map_nil, List.length_cons, List.length_nil, List.cons_append, List.nil_append, List.getElem?_cons_zero, List.getElem?_cons_succ, List.set_cons_zero, List.set_cons_succ, List.replicate, Nat.reduceAdd, Nat.reduceSub, Nat.zero_add, Nat.sub_self, Nat.add_sub_cancel, sForI, forStep, listD, seqD, wFz, wTruth, wiL, wiT, wiR, wiR2, wiET, wLcI, wDcI, wYes, wSortKI, wMakeI, sSetF, putFD, wMerge2, oEqDT, oBoolD, wListRg, wSMeth, oOwn2, wCutE, oRepL, wDIn, oLcm, wChain, kt_ii, kt_ib, kt_rr, wFld_e, wProp_e, ixr_lst, ixr_tup, ixr_tpk, w_is_int, w_within, w_asc, fld_flags, fld_odd, ins_rd, w_initT, w_initL, w_told, w_within, sWhile, w_modulus, w_chosen, oOwnIn, w_index, w_nextf, oNotI, w_next, w_first, w_or, w_xor, iMulS, at0, at1, at2, oPow, wCut, wCutTo, oAbsI, stayD, gwLst, w_purse, sWhile, wipeD, oCatL, itemsD, md0, md1, md2, List.take_succ_cons, List.take_zero, List.take_nil, List.drop_zero, List.drop_succ_cons, List.drop_nil, Nat.le_refl, oMaxL, oCatL, wAppend, oNeS, wMakeD, wMeth, wListMeth, wProp_e, isi_rr, w_modulus]
    refine ⟨c', x1, hS1, p1, by omega, ⟨by decide, pow1000 (by decide)⟩, fun k1 x2 k10 k11 p2 => ?_⟩
    refine ⟨c' + 1, x2, set_at hS1, p2, by omega, ⟨by decide, pow1000 (by decide)⟩, fun k2 x3 k20 k21 p3 => ⟨⟨by decide, by decide, by decide⟩, ?_⟩⟩
    refine ⟨c' + 1 + 1, x3, set_at (set_at hS1), p3, by omega, ⟨by decide, pow1000 (by decide)⟩, fun k3 x4 k30 k31 p4 => ⟨line5 (by decide), ?_⟩⟩
    rw [List.set_set, List.set_set]
    have hS4 : (S1.set d x4)[d]? = some x4 := set_at hS1
    have h4 : ∀ (x5 : MO) (c2 : Int), Pd x5 c2 → c ≤ c2 → c2 ≤ c + 100 → Q (.bl true) ((S1.set d x4).set d x5) := fun x5 c2 a1 a2 a3 => by
      rw [List.set_set]
      exact h1 x5 c2 a1 a2 a3
    generalize S1.set d x4 = S4 at hS4 h4 ⊢
    rw [show (10 : Int) ^ Int.toNat 9 = 1000000000 by decide +kernel, show (1000000000 : Int) - k3 = ((1000000000 - k3.toNat : Nat) : Int) by omega]
    obtain ⟨k1, rfl⟩ := Int.eq_ofNat_of_zero_le k10
    obtain ⟨k2, rfl⟩ := Int.eq_ofNat_of_zero_le k20
    generalize hst : forStep _ _ _ = st
    have hs1 : ∀ (a : Nat) (o6 o7 : Option D) (nx : DEnv → MS → Prop), a ≤ 1000000000 → (∀ o6 o7, nx [some (.mut d), some (md y), some (rd r), some (.lst od), none, none, o6, o7, none] S4) →
        st (.int a) [some (.mut d), some (md y), some (rd r), some (.lst od), none, none, o6, o7, none] S4 nx := fun a o6 o7 nx ha hn => by
      subst hst
      simp only [true_and, and_true, oU2, oUn1, oL1, oS1, oR1, oJust, iAdd, iSub, iMul, iFdiv, iMod, iEq, iNe, iLt, iLe, iGt, iGe, iNeg, iAbs, DL.iStr, wFmt, wJs, wJoined, sNext, sSeq, sDrop, sRet, sRetN, sIf, sAsg, sPar, wOp, wVar, wC, wUn, wCons, wNil, wCB, wCall, wMake, wMakeSw, wCallSw, oI, oI0, oU, wTest, wAnd, wOr, DL.wNot, wAndV, wOrV, wNotV, wIf, wTup, wLst, wLstM, gwName, gwNil, gwCons, gwTup, gwSub, oInt1, oAbsI, oLen, oGcd, oDivmod, oMax2, oMin2, oStrI, if_t1, if_f1, Bool.not_true, Bool.not_false, startD, List.map_cons, List.map_nil, List.length_cons, List.length_nil, List.cons_append, List.nil_append, List.getElem?_cons_zero, List.getElem?_cons_succ, List.set_cons_zero, List.set_cons_succ, List.replicate, Nat.reduceAdd, Nat.reduceSub, Nat.zero_add, Nat.sub_self, Nat.add_sub_cancel, sForI, forStep, listD, seqD, wFz, wTruth, wiL, wiT, wiR, wiR2, wiET, wLcI, wDcI, wYes, wSortKI, wMakeI, sSetF, putFD, wMerge2, oEqDT, oBoolD, wListRg, wSMeth, oOwn2, wCutE, oRepL, wDIn, oLcm, wChain, kt_ii, kt_ib, kt_rr, wFld_e, wProp_e, ixr_lst, ixr_tup, ixr_tpk, w_is_int, w_within, w_asc, fld_flags, fld_odd, ins_rd, w_initT, w_initL, w_told, w_within, sWhile, w_modulus, w_chosen, oOwnIn, w_index, w_nextf, oNotI, w_next, w_first, w_or, w_xor, iMulS, at0, at1, at2, oPow, wCut, wCutTo, oAbsI, stayD, gwLst, w_purse, sWhile, wipeD, oCatL, itemsD, md0, md1, md2, List.take_succ_cons, List.take_zero, List.take_nil, List.drop_zero, List.drop_succ_cons, List.drop_nil, Nat.le_refl, oMaxL, oCatL, wAppend, oNeS, wMakeD, wMeth, wListMeth, wProp_e, isi_rr, w_modulus]
      refine ⟨y, a, 3, rfl, wy, ha, by decide, fun L hL => ?_⟩
      simp only [rd]
      refine ⟨trivial, lk_rd (by decide +kernel) (by decide +kernel), r, a, rfl, ok.wf, ha, fun o ho hb => ?_⟩
      rw [f.fn] at ho
      have hl3 := nexts_len hL
      have e0 : L2.atI ((L.map fun n : Nat => D.int n) ++ [.non]) 0 = some (optD o) := by
        rcases hL with ⟨q, rfl⟩ | ⟨n, M, q, rfl, _⟩
        · cases nextS_uniq ho q
          exact at0
        · cases nextS_uniq ho q
          exact at0
      obtain ⟨z, hz⟩ := rpd_optD (o := o) fun n e => by have := hb n e; omega
      refine hz _ _ ⟨line5 (by decide), _, _, rfl, rfl, line5 (by simp; omega), atOf e0 (hz _ _ ?_)⟩
      dsimp only
      rw [decide_eq_true rfl, if_neg (by decide)]
      refine ⟨trivial, lk_rd (by decide +kernel) (by decide +kernel), r, a, 3, rfl, ok.wf, ha, by decide, fun M hM => ?_⟩
      rw [f.fn] at hM
      cases nexts_uniq hL hM
      refine ne_same (leafs_int (f := fun n : Nat => (n : Int))) ?_
      dsimp only
      rw [if_neg (by decide)]
      exact hn _ _
    clear hst
    refine ⟨trivial, hs1 0 _ _ _ (by decide) fun o6 o7 => ⟨trivial, hs1 k1 _ _ _ (by omega) fun o6 o7 => ⟨trivial, hs1 k2 _ _ _ (by omega) fun o6 o7 => ⟨trivial, hs1 _ _ _ _ (by omega) fun o6 o7 => ⟨trivial, ?_⟩⟩⟩⟩⟩
    clear hs1
    subst hR
    refine seqG fun R hR => ?_
    simp only [true_and, and_true, oU2, oUn1, oL1, oS1, oR1, oJust, iAdd, iSub, iMul, iFdiv, iMod, iEq, iNe, iLt, iLe, iGt, iGe, iNeg, iAbs, DL.iStr, wFmt, wJs, wJoined, sNext, sSeq, sDrop, sRet, sRetN, sIf, sAsg, sPar, wOp, wVar, wC, wUn, wCons, wNil, wCB, wCall, wMake, wMakeSw, wCallSw, oI, oI0, oU, wTest, wAnd, wOr, DL.wNot, wAndV, wOrV, wNotV, wIf, wTup, wLst, wLstM, gwName, gwNil, gwCons, gwTup, gwSub, oInt1, oAbsI, oLen, oGcd, oDivmod, oMax2, oMin2, oStrI, if_t1, if_f1, Bool.not_true, Bool.not_false, startD, List.map_cons, List.map_nil, List.length_cons, List.length_nil, List.cons_append, List.nil_append, List.getElem?_cons_zero, List.getElem?_cons_succ, List.set_cons_zero, List.set_cons_succ, List.replicate, Nat.reduceAdd, Nat.reduceSub, Nat.zero_add, Nat.sub_self, Nat.add_sub_cancel, sForI, forStep, listD, seqD, wFz, wTruth, wiL, wiT, wiR, wiR2, wiET, wLcI, wDcI, wYes, wSortKI, wMakeI, sSetF, putFD, wMerge2, oEqDT, oBoolD, wListRg, wSMeth, oOwn2, wCutE, oRepL, wDIn, oLcm, wChain, kt_ii, kt_ib, kt_rr, wFld_e, wProp_e, ixr_lst, ixr_tup, ixr_tpk, w_is_int, w_within, w_asc, fld_flags, fld_odd, ins_rd, w_initT, w_initL, w_told, w_within, sWhile, w_modulus, w_chosen, oOwnIn, w_index, w_nextf, oNotI, w_next, w_first, w_or, w_xor, iMulS, at0, at1, at2, oPow, wCut, wCutTo, oAbsI, stayD, gwLst, w_purse, sWhile, wipeD, oCatL, itemsD, md0, md1, md2, List.take_succ_cons, List.take_zero, List.take_nil, List.drop_zero, List.drop_succ_cons, List.drop_nil, Nat.le_refl, oMaxL, oCatL, wAppend, oNeS, wMakeD, wMeth, wListMeth, wProp_e, isi_rr, w_modulus]
    refine ⟨c' + 1 + 1 + 1, x4, hS4, p4, by omega, ⟨by decide, pow1000 (by decide)⟩, fun k4 x5 k40 k41 p5 => ?_⟩
    have h5 := h4 x5 _ p5 (by omega) (by omega)
    generalize S4.set d x5 = S5 at h5 ⊢
    obtain ⟨k4, rfl⟩ := Int.eq_ofNat_of_zero_le k40
    subst hR
    simp only [true_and, and_true, oU2, oUn1, oL1, oS1, oR1, oJust, iAdd, iSub, iMul, iFdiv, iMod, iEq, iNe, iLt, iLe, iGt, iGe, iNeg, iAbs, DL.iStr, wFmt, wJs, wJoined, sNext, sSeq, sDrop, sRet, sRetN, sIf, sAsg, sPar, wOp, wVar, wC, wUn, wCons, wNil, wCB, wCall, wMake, wMakeSw, wCallSw, oI, oI0, oU, wTest, wAnd, wOr, DL.wNot, wAndV, wOrV, wNotV, wIf, wTup, wLst, wLstM, gwName, gwNil, gwCons, gwTup, gwSub, oInt1, oAbsI, oLen, oGcd, oDivmod, oMax2, oMin2, oStrI, if_t1, if_f1, Bool.not_true, Bool.not_false, startD, List.map_cons, List.map_nil, List.length_cons, List.length_nil, List.cons_append, List.nil_append, List.getElem?_cons_zero, List.getElem?_cons_succ, List.set_cons_zero, List.set_cons_succ, List.replicate, Nat.reduceAdd, Nat.reduceSub, Nat.zero_add, Nat.sub_self, Nat.add_sub_cancel, sForI, forStep, listD, seqD, wFz, wTruth, wiL, wiT, wiR, wiR2, wiET, wLcI, wDcI, wYes, wSortKI, wMakeI, sSetF, putFD, wMerge2, oEqDT, oBoolD, wListRg, wSMeth, oOwn2, wCutE, oRepL, wDIn, oLcm, wChain, kt_ii, kt_ib, kt_rr, wFld_e, wProp_e, ixr_lst, ixr_tup, ixr_tpk, w_is_int, w_within, w_asc, fld_flags, fld_odd, ins_rd, w_initT, w_initL, w_told, w_within, sWhile, w_modulus, w_chosen, oOwnIn, w_index, w_nextf, oNotI, w_next, w_first, w_or, w_xor, iMulS, at0, at1, at2, oPow, wCut, wCutTo, oAbsI, stayD, gwLst, w_purse, sWhile, wipeD, oCatL, itemsD, md0, md1, md2, List.take_succ_cons, List.take_zero, List.take_nil, List.drop_zero, List.drop_succ_cons, List.drop_nil, Nat.le_refl, oMaxL, oCatL, wAppend, oNeS, wMakeD, wMeth, wListMeth, wProp_e, isi_rr, w_modulus]
    simp only [rd]
    refine ⟨trivial, lk_rd (by decide +kernel) (by decide +kernel), r, 5, k4, rfl, ok.wf, by decide, by omega, fun M hM => ?_⟩
    rw [f.fn] at hM
    refine ⟨y, 5, k4, rfl, wy, by decide, by omega, fun L hL => ?_⟩
    cases nexts_uniq hL hM
    refine eq_same (leafs_int (f := fun n : Nat => (n : Int))) ?_
    dsimp only
    rw [if_pos rfl]
    refine ⟨trivial, lk_rd (by decide +kernel) (by decide +kernel), r, 0, 0, rfl, ok.wf, by decide, by decide, fun M hM => ⟨Nat.zero_le _, ?_⟩⟩
    have eM : M = [] := hM
    rw [eM]
    exact eq_same (ds := []) (fun d hd => by cases hd) h5
  clear hR
  refine ⟨Nat.zero_le _, ne_ints ?_⟩
  dsimp only
  by_cases e1 : y.rs = []
  · rw [decide_eq_true e1, if_neg (by decide)]
    refine ⟨Nat.zero_le _, ne_ints (ne_bl ?_)⟩
    dsimp only
    rw [if_neg (by simp)]
    exact next
  · rw [decide_eq_false e1, if_pos (by rfl)]
    refine ne_bl ?_
    dsimp only
    rw [if_neg (by simp)]
    exact next
end
end K1
set_option Elab.async false
set_option linter.all false
set_option maxRecDepth 100000
set_option maxHeartbeats 0
namespace K1
open PySem PySem.Spec PyProof.Rows L2 DL
section
variable {P : Program} {w : World} {K : PySem.W.Frag} {mg : Str → Option Value} {base : Heap}
theorem ne_self {d : D} {p : PyData} {S : MS} {Q : D → MS → Prop} (h : datM S d = some p) (sh : SeqAt.shaped p = true) (e : PyData.eqv p p = true) (q : Q (.bl false) S) : oNeD d d S Q := ⟨p, p, h, h, sh, sh, by rw [e]; exact q⟩
theorem eq_self' {d : D} {p : PyData} {S : MS} {Q : D → MS → Prop} (h : datM S d = some p) (sh : SeqAt.shaped p = true) (e : PyData.eqv p p = true) (q : Q (.bl true) S) : oEqD d d S Q := ⟨p, p, h, h, sh, sh, by rw [e]; exact q⟩
/-- told rounds -/
abbrev tl (ns : List Int) : Rnd := ([false], ns)
theorem tl_wf {ns : List Int} (u : Up ns) (l : ns.length ≤ 1000) (h : ∀ n ∈ ns, 0 ≤ n ∧ n ≤ 1000000) : Wf (tl ns) := ⟨by show 0 < 1; decide, by show 1 ≤ 5040; decide, up_nodup u, u, l, h⟩
theorem rr_wf {m : Int} {ns : List Int} (h : 0 < m) (hm : m ≤ 5040) : Wf (rr m ns) := by
  have := rr_len (ns := ns) h
  exact ⟨by omega, by omega, List.nodup_nil, .nil, Nat.zero_le _, fun n hn => by cases hn⟩
theorem tl_iff {ns : List Int} (n : Nat) : memN (tl ns) n = true ↔ (n : Int) ∈ ns := by
  show mem (tl ns) (n : Int) = true ↔ _
  rw [tl_mem, List.contains_iff_mem]
theorem rr_iff {m : Int} {ns : List Int} (h : 0 < m) (n : Nat) : memN (rr m ns) n = true ↔ (n : Int) % m ∈ ns := by
  show mem (rr m ns) (n : Int) = true ↔ _
  rw [rr_mem h, List.contains_iff_mem]
theorem no_true {b : Bool} {p : Prop} (h : b = true ↔ p) (np : ¬ p) : b = false := by
  cases b with
  | false => rfl
  | true => exact absurd (h.mp rfl) np
theorem three_nexts {p : Nat → Bool} {a B : Nat} (hB : 1 ≤ B) (hb : a + B < 1000000) (h : ∀ n, p n = true ↔ (n = a ∨ n = a + B ∨ n = 1000000)) : Nexts p 0 9 [a, a + B, 1000000] := by
  refine nexts_list (p := p) [a, a + B, 1000000] 0 9 ?_ (fun _ _ => Nat.zero_le _) fun n _ => by rw [h]; simp
  simp
  omega
theorem four_nexts {p : Nat → Bool} {B : Nat} (hB : 1 ≤ B) (hb : B ≤ 999) (h : ∀ n, p n = true ↔ (n % 5040 = 0 ∨ n % 5040 = B ∨ n % 5040 = 5039)) : Nexts p 5000 4 [5039, 5040, 5040 + B, 10079] := by
  have nx : ∀ a n, a ≤ n → p n = true → (∀ k, a ≤ k → k < n → ¬ (k % 5040 = 0 ∨ k % 5040 = B ∨ k % 5040 = 5039)) → NextS p a (some n) := fun a n h1 h2 h3 => ⟨h1, h2, fun k k1 k2 => no_true (h k) (h3 k k1 k2)⟩
  refine .inr ⟨5039, _, nx _ _ (by omega) ((h _).mpr (by omega)) fun k _ _ => by omega, rfl, .inr ⟨5040, _, nx _ _ (by omega) ((h _).mpr (by omega)) fun k _ _ => by omega, rfl, .inr ⟨5040 + B, _, nx _ _ (by omega) ((h _).mpr (by omega)) fun k _ _ => by omega, rfl, .inr ⟨10079, _, nx _ _ (by omega) ((h _).mpr (by omega)) fun k _ _ => by omega, rfl, rfl⟩⟩⟩⟩
def w_several : WF := fun ds S Q => ∃ (d : Nat) (x0 : MO) (c : Int), ds = [.mut d] ∧ S[d]? = some x0 ∧ Pd x0 c ∧ 0 ≤ c ∧ c ≤ 1000 ∧ ∀ (x : MO) (c' : Int), Pd x c' → c ≤ c' → c' ≤ c + 100 → Q (.bl true) (S.set d x)
theorem sc__law_several_right : FnScope ["draws", "a", "b", "some", "rests", "found"] ["draws"] (defScope s__law_several_right) := ⟨rfl, rfl, rfl, by decide +kernel, rfl, by decide +kernel, by decide +kernel⟩
theorem ok__law_several_right (T : Tx K mg) : FnOk P w K mg base CX0 10 T.f__law_several_right T.fd__law_several_right ["draws"] (spW ⟨K, mg⟩ 1 w_several) := by
  refine fnD (k := 9) T.F__law_several_right sc__law_several_right (fun cdv A outer s H E hr => ⟨_, (dss_cons (ds_par (i := 1) (j := 2) rfl sc__law_several_right.nd (da_cons (d_call (ok__law_take T) (hr.mono (by decide)) T.m__law_take T.F__law_take.kp T.b__law_take (da_cons (dv 0) (da_cons d_int da_nil))) (da_cons (d_op op_add snd_iAdd d_int (d_call (ok__law_take T) (hr.mono (by decide)) T.m__law_take T.F__law_take.kp T.b__law_take (da_cons (dv 0) (da_cons d_int da_nil)))) da_nil)))
  (dss_cons (ds_par (i := 3) (j := 4) rfl sc__law_several_right.nd (da_cons (d_smeth T.g_Rounds rfl T.cr T.sm_told (ok_told T) (hr.mono (by decide)) (da_cons (dv 1) (da_cons (d_op op_add snd_iAdd (dv 1) (dv 2)) (da_cons (d_op op_pow (snd_rI fun _ _ _ _ => .int _) d_int d_int) da_nil)))) (da_cons (d_smeth T.g_Rounds rfl T.cr T.sm_rests (ok_rests T) (hr.mono (by decide)) (da_cons d_int (da_cons d_int (da_cons (dv 2) (da_cons d_int da_nil))))) da_nil)))
  (dss_cons (ds_set (i := 5) sc__law_several_right.nd (d_lst (da_cons (d_listMeth (dv 3) T.g_Rounds T.cl T.M_members (ok_members T) (hr.mono (by decide)) T.b_members (da_cons d_int (da_cons d_int da_nil)) T.z_list) (da_cons (d_listMeth (dv 4) T.g_Rounds T.cl T.M_members (ok_members T) (hr.mono (by decide)) T.b_members (da_cons d_int (da_cons d_int da_nil)) T.z_list) (da_cons (d_prop (dv 3) T.g_Rounds T.cl T.p_modulus (ok_modulus T) (hr.mono (by decide)) T.b_modulus) (da_cons (d_prop (dv 4) T.g_Rounds T.cl T.p_modulus (ok_modulus T) (hr.mono (by decide)) T.b_modulus) da_nil))))))
  (dss_cons (ds_if (dt_cmp (op_neD hr.units) snd_neD (dv 5) (d_lst (da_cons (d_lst (da_cons (dv 1) (da_cons (d_op op_add snd_iAdd (dv 1) (dv 2)) (da_cons (d_op op_pow (snd_rI fun _ _ _ _ => .int _) d_int d_int) da_nil)))) (da_cons (d_lst (da_cons d_int (da_cons d_int (da_cons (d_op op_add snd_iAdd d_int (dv 2)) (da_cons (d_op op_add snd_iAdd d_int d_int) da_nil))))) (da_cons d_int (da_cons d_int da_nil))))) (nomark _)) (dss_one (ds_ret d_bl)) dss_nil)
  (dss_cons (ds_set (i := 5) sc__law_several_right.nd (d_lst (da_cons (d_meth (dv 3) T.g_Rounds T.cl T.M_after (ok_after T) (hr.mono (by decide)) T.b_after (da_cons (d_op op_add snd_iAdd (dv 1) d_int) da_nil)) (da_cons (d_meth (dv 3) T.g_Rounds T.cl T.M_after (ok_after T) (hr.mono (by decide)) T.b_after (da_cons (d_op op_add snd_iAdd (d_op op_pow (snd_rI fun _ _ _ _ => .int _) d_int d_int) d_int) da_nil)) (da_cons (d_meth (d_smeth0 T.g_Rounds rfl T.cr T.sm_told (ok_told T) (hr.mono (by decide))) T.g_Rounds T.cl T.M_after (ok_after T) (hr.mono (by decide)) T.b_after (da_cons d_int da_nil)) (da_cons (d_meth (d_smeth T.g_Rounds rfl T.cr T.sm_rests (ok_rests T) (hr.mono (by decide)) (da_cons d_int (da_cons d_int da_nil))) T.g_Rounds T.cl T.M_after (ok_after T) (hr.mono (by decide)) T.b_after (da_cons (d_op op_pow (snd_rI fun _ _ _ _ => .int _) d_int d_int) da_nil)) da_nil))))))
  (dss_cons (ds_if (PDW.pt (dw_or (dt_cmp (op_neD hr.units) snd_neD (dv 5) (d_lst (da_cons (d_op op_add snd_iAdd (dv 1) (dv 2)) (da_cons d_non (da_cons d_non (da_cons (d_op op_pow (snd_rI fun _ _ _ _ => .int _) d_int d_int) da_nil))))) (nomark _)) (dw_or (dt_val (d_callTy (call_boolOwn T.M_bool (ok_bool T) (hr.mono (by decide)) T.b_bool) (snd_boolO T.g_Rounds) T.z_bool (da_cons (d_smeth0 T.g_Rounds rfl T.cr T.sm_told (ok_told T) (hr.mono (by decide))) da_nil) (hv := bt_bool))) (dw_or1 (dt_val (d_callTy (call_boolOwn T.M_bool (ok_bool T) (hr.mono (by decide)) T.b_bool) (snd_boolO T.g_Rounds) T.z_bool (da_cons (d_smeth T.g_Rounds rfl T.cr T.sm_rests (ok_rests T) (hr.mono (by decide)) (da_cons d_int da_nil)) da_nil) (hv := bt_bool))))))) (dss_one (ds_ret d_bl)) dss_nil)
  (dss_one (ds_ret (d_cmp (op_eqD hr.units) snd_eqD (d_lst (da_cons (d_prop (d_smeth T.g_Rounds rfl T.cr T.sm_rests (ok_rests T) (hr.mono (by decide)) (da_cons d_int (da_cons d_int (da_cons d_int da_nil)))) T.g_Rounds T.cl T.p_whole_from (ok_whole_from T) (hr.mono (by decide)) T.b_whole_from) (da_cons (d_prop (dv 3) T.g_Rounds T.cl T.p_whole_from (ok_whole_from T) (hr.mono (by decide)) T.b_whole_from) (da_cons (d_prop (d_smeth T.g_Rounds rfl T.cr T.sm_rests (ok_rests T) (hr.mono (by decide)) (da_cons d_int (da_cons d_int (da_cons d_int da_nil)))) T.g_Rounds T.cl T.p_whole_from (ok_whole_from T) (hr.mono (by decide)) T.b_whole_from) da_nil)))) (d_lst (da_cons d_int (da_cons d_non (da_cons d_non da_nil)))) (nomark _))))))))))⟩) (fun ds S Q hl h => ?_)
  obtain ⟨d, x0, c, rfl, hS, p0, c0, c1, h⟩ := h
  have dl : d < S.length := (List.getElem?_eq_some_iff.mp hS).1
  refine seqG fun R hR => ?_
  simp only [true_and, and_true, oU2, oUn1, oL1, oS1, oR1, oJust, iAdd, iSub, iMul, iFdiv, iMod, iEq, iNe, iLt, iLe, iGt, iGe, iNeg, iAbs, DL.iStr, wFmt, wJs, wJoined, sNext, sSeq, sDrop, sRet, sRetN, sIf, sAsg, sPar, wOp, wVar, wC, wUn, wCons, wNil, wCB, wCall, wMake, wMakeSw, wCallSw, oI, oI0, oU, wTest, wAnd, wOr, DL.wNot, wAndV, wOrV, wNotV, wIf, wTup, wLst, wLstM, gwName, gwNil, gwCons, gwTup, gwSub, oInt1, oAbsI, oLen, oGcd, oDivmod, oMax2, oMin2, oStrI, if_t1, if_f1, Bool.not_true, Bool.not_false, startD, List.map_cons, List.map_nil, List.length_cons, List.length_nil, List.cons_append, List.nil_append, List.getElem?_cons_zero, List.getElem?_cons_succ, List.set_cons_zero, List.set_cons_succ, List.replicate, Nat.reduceAdd, Nat.reduceSub, Nat.zero_add, Nat.sub_self, Nat.add_sub_cancel, sForI, forStep, listD, seqD, wFz, wTruth, wiL, wiT, wiR, wiR2, wiET, wLcI, wDcI, wYes, wSortKI, wMakeI, sSetF, putFD, wMerge2, oEqDT, oBoolD, wListRg, wSMeth, oOwn2, wCutE, oRepL, wDIn, oLcm, wChain, kt_ii, kt_ib, kt_rr, wFld_e, wProp_e, ixr_lst, ixr_tup, ixr_tpk, w_is_int, w_within, w_asc, fld_flags, fld_odd, ins_rd, w_initT, w_initL, w_within, sWhile, w_modulus, w_chosen, oOwnIn, w_index, w_nextf, oNotI, w_next, w_first, w_or, w_xor, iMulS, at0, at1, at2, oPow, wCut, wCutTo, oAbsI, stayD, gwLst, w_purse, sWhile, wipeD, oCatL, itemsD, md0, md1, md2, List.take_succ_cons, List.take_zero, List.take_nil, List.drop_zero, List.drop_succ_cons, List.drop_nil, Nat.le_refl, oMaxL, oCatL, wAppend, oNeS, wMakeD, wMeth, wListMeth, wProp_e, isi_rr, w_modulus, wSMeth]
  refine ⟨c, x0, hS, p0, by omega, ⟨by decide, pow1000 (by decide)⟩, fun a x1 a0 a1 p1 => ⟨c + 1, x1, set_at hS, p1, by omega, ⟨by decide, pow1000 (by decide)⟩, fun b x2 b0 b1 p2 => ?_⟩⟩
  rw [List.set_set]
  have h2 := h x2 (c + 1 + 1) p2 (by omega) (by omega)
  generalize S.set d x2 = S2 at h2 ⊢
  dsimp only
  subst hR
  refine seqG fun R hR => ?_
  simp only [true_and, and_true, oU2, oUn1, oL1, oS1, oR1, oJust, iAdd, iSub, iMul, iFdiv, iMod, iEq, iNe, iLt, iLe, iGt, iGe, iNeg, iAbs, DL.iStr, wFmt, wJs, wJoined, sNext, sSeq, sDrop, sRet, sRetN, sIf, sAsg, sPar, wOp, wVar, wC, wUn, wCons, wNil, wCB, wCall, wMake, wMakeSw, wCallSw, oI, oI0, oU, wTest, wAnd, wOr, DL.wNot, wAndV, wOrV, wNotV, wIf, wTup, wLst, wLstM, gwName, gwNil, gwCons, gwTup, gwSub, oInt1, oAbsI, oLen, oGcd, oDivmod, oMax2, oMin2, oStrI, if_t1, if_f1, Bool.not_true, Bool.not_false, startD, List.map_cons, List.map_nil, List.length_cons, List.length_nil, List.cons_append, List.nil_append, List.getElem?_cons_zero, List.getElem?_cons_succ, List.set_cons_zero, List.set_cons_succ, List.replicate, Nat.reduceAdd, Nat.reduceSub, Nat.zero_add, Nat.sub_self, Nat.add_sub_cancel, sForI, forStep, listD, seqD, wFz, wTruth, wiL, wiT, wiR, wiR2, wiET, wLcI, wDcI, wYes, wSortKI, wMakeI, sSetF, putFD, wMerge2, oEqDT, oBoolD, wListRg, wSMeth, oOwn2, wCutE, oRepL, wDIn, oLcm, wChain, kt_ii, kt_ib, kt_rr, wFld_e, wProp_e, ixr_lst, ixr_tup, ixr_tpk, w_is_int, w_within, w_asc, fld_flags, fld_odd, ins_rd, w_initT, w_initL, w_within, sWhile, w_modulus, w_chosen, oOwnIn, w_index, w_nextf, oNotI, w_next, w_first, w_or, w_xor, iMulS, at0, at1, at2, oPow, wCut, wCutTo, oAbsI, stayD, gwLst, w_purse, sWhile, wipeD, oCatL, itemsD, md0, md1, md2, List.take_succ_cons, List.take_zero, List.take_nil, List.drop_zero, List.drop_succ_cons, List.drop_nil, Nat.le_refl, oMaxL, oCatL, wAppend, oNeS, wMakeD, wMeth, wListMeth, wProp_e, isi_rr, w_modulus, wSMeth]
  refine ⟨⟨by decide, by decide, by decide⟩, Nat.zero_le _, line5 (by decide), ?_⟩
  rw [show (10 : Int) ^ Int.toNat 6 = 1000000 by decide +kernel]
  obtain ⟨a, rfl⟩ := Int.eq_ofNat_of_zero_le a0
  obtain ⟨b, rfl⟩ := Int.eq_ofNat_of_zero_le b0
  rw [show (1 : Int) + (b : Int) = ((b + 1 : Nat) : Int) by omega]
  have hB1 : 1 ≤ b + 1 := by omega
  have hB2 : b + 1 ≤ 999 := by omega
  have ha : a < 1000 := by omega
  generalize b + 1 = B at hB1 hB2 ⊢
  clear p1 p2 a0 a1 b0 b1 h hS p0 dl
  refine ⟨[(a : Int), a + B, 1000000], rfl, ⟨by omega, by omega, by omega, by omega, by omega, by omega, trivial⟩, (show 3 ≤ 16000000 by decide), by decide, line5 (by decide), 5040, [0, (B : Int), 5039], rfl, by decide, by decide, ⟨by omega, by omega, by omega, by omega, by omega, by omega, trivial⟩, (show 3 ≤ 16000000 by decide), ?_⟩
  have wf1 : Wf (tl [(a : Int), a + B, 1000000]) := tl_wf (by unfold Up; simp; omega) (by show 3 ≤ 1000; decide) fun n hn => by
    simp only [List.mem_cons, List.not_mem_nil, or_false] at hn
    omega
  have wf2 : Wf (rr 5040 [0, (B : Int), 5039]) := rr_wf (by decide) (by decide)
  have q1 : ∀ n, memN (tl [(a : Int), a + B, 1000000]) n = true ↔ (n = a ∨ n = a + B ∨ n = 1000000) := fun n => by
    rw [tl_iff]
    simp only [List.mem_cons, List.not_mem_nil, or_false]
    omega
  have q2 : ∀ n, memN (rr 5040 [0, (B : Int), 5039]) n = true ↔ (n % 5040 = 0 ∨ n % 5040 = B ∨ n % 5040 = 5039) := fun n => by
    rw [rr_iff (by decide)]
    simp only [List.mem_cons, List.not_mem_nil, or_false]
    omega
  have l1 : (tl [(a : Int), a + B, 1000000]).1.length = 1 := rfl
  have l2 : ((rr 5040 [0, (B : Int), 5039]).1.length : Int) = 5040 := rr_len (by decide)
  have g1 : wholeD (tl [(a : Int), a + B, 1000000]) = .non := rfl
  have n1 := three_nexts hB1 (by omega) q1
  have n2 := four_nexts hB1 hB2 q2
  show R { nx := fun x S' => Q D.non S', rt := Q } [some (.mut d), some (.int a), some (.int B), some (rd (tl [(a : Int), a + B, 1000000])), some (rd (rr 5040 [0, (B : Int), 5039])), none] S2
  generalize tl [(a : Int), a + B, 1000000] = r1 at *
  generalize rr 5040 [0, (B : Int), 5039] = r2 at *
  subst hR
  refine seqG fun R hR => ?_
  simp only [true_and, and_true, oU2, oUn1, oL1, oS1, oR1, oJust, iAdd, iSub, iMul, iFdiv, iMod, iEq, iNe, iLt, iLe, iGt, iGe, iNeg, iAbs, DL.iStr, wFmt, wJs, wJoined, sNext, sSeq, sDrop, sRet, sRetN, sIf, sAsg, sPar, wOp, wVar, wC, wUn, wCons, wNil, wCB, wCall, wMake, wMakeSw, wCallSw, oI, oI0, oU, wTest, wAnd, wOr, DL.wNot, wAndV, wOrV, wNotV, wIf, wTup, wLst, wLstM, gwName, gwNil, gwCons, gwTup, gwSub, oInt1, oAbsI, oLen, oGcd, oDivmod, oMax2, oMin2, oStrI, if_t1, if_f1, Bool.not_true, Bool.not_false, startD, List.map_cons, List.map_nil, List.length_cons, List.length_nil, List.cons_append, List.nil_append, List.getElem?_cons_zero, List.getElem?_cons_succ, List.set_cons_zero, List.set_cons_succ, List.replicate, Nat.reduceAdd, Nat.reduceSub, Nat.zero_add, Nat.sub_self, Nat.add_sub_cancel, sForI, forStep, listD, seqD, wFz, wTruth, wiL, wiT, wiR, wiR2, wiET, wLcI, wDcI, wYes, wSortKI, wMakeI, sSetF, putFD, wMerge2, oEqDT, oBoolD, wListRg, wSMeth, oOwn2, wCutE, oRepL, wDIn, oLcm, wChain, kt_ii, kt_ib, kt_rr, wFld_e, wProp_e, ixr_lst, ixr_tup, ixr_tpk, w_is_int, w_within, w_asc, fld_flags, fld_odd, ins_rd, w_initT, w_initL, w_within, sWhile, w_modulus, w_chosen, oOwnIn, w_index, w_nextf, oNotI, w_next, w_first, w_or, w_xor, iMulS, at0, at1, at2, oPow, wCut, wCutTo, oAbsI, stayD, gwLst, w_purse, sWhile, wipeD, oCatL, itemsD, md0, md1, md2, List.take_succ_cons, List.take_zero, List.take_nil, List.drop_zero, List.drop_succ_cons, List.drop_nil, Nat.le_refl, oMaxL, oCatL, wAppend, oNeS, wMakeD, wMeth, wListMeth, wProp_e, isi_rr, w_modulus, wSMeth]
  simp only [rd]
  refine ⟨trivial, lk_rd (by decide +kernel) (by decide +kernel), r1, 0, 9, rfl, wf1, by decide, by decide, fun L hL => ?_⟩
  cases nexts_uniq hL n1
  refine ⟨trivial, lk_rd (by decide +kernel) (by decide +kernel), r2, 5000, 4, rfl, wf2, by decide, by decide, fun L hL => ?_⟩
  cases nexts_uniq hL n2
  refine ⟨r1, rfl, r2, rfl, line5 (by decide), ?_⟩
  show R { nx := fun x S' => Q D.non S', rt := Q } [some (.mut d), some (.int a), some (.int B), some (rd r1), some (rd r2), some (.lst [.lst [.int a, .int ((a + B : Nat) : Int), .int 1000000], .lst [.int 5039, .int 5040, .int ((5040 + B : Nat) : Int), .int 10079], .int (r1.1.length), .int (r2.1.length)])] S2
  rw [l1, l2]
  clear n1 n2
  subst hR
  refine seqG fun R hR => ?_
  simp only [true_and, and_true, oU2, oUn1, oL1, oS1, oR1, oJust, iAdd, iSub, iMul, iFdiv, iMod, iEq, iNe, iLt, iLe, iGt, iGe, iNeg, iAbs, DL.iStr, wFmt, wJs, wJoined, sNext, sSeq, sDrop, sRet, sRetN, sIf, sAsg, sPar, wOp, wVar, wC, wUn, wCons, wNil, wCB, wCall, wMake, wMakeSw, wCallSw, oI, oI0, oU, wTest, wAnd, wOr, DL.wNot, wAndV, wOrV, wNotV, wIf, wTup, wLst, wLstM, gwName, gwNil, gwCons, gwTup, gwSub, oInt1, oAbsI, oLen, oGcd, oDivmod, oMax2, oMin2, oStrI, if_t1, if_f1, Bool.not_true, Bool.not_false, startD, List.map_cons, List.map_nil, List.length_cons, List.length_nil, List.cons_append, List.nil_append, List.getElem?_cons_zero, List.getElem?_cons_succ, List.set_cons_zero, List.set_cons_succ, List.replicate, Nat.reduceAdd, Nat.reduceSub, Nat.zero_add, Nat.sub_self, Nat.add_sub_cancel, sForI, forStep, listD, seqD, wFz, wTruth, wiL, wiT, wiR, wiR2, wiET, wLcI, wDcI, wYes, wSortKI, wMakeI, sSetF, putFD, wMerge2, oEqDT, oBoolD, wListRg, wSMeth, oOwn2, wCutE, oRepL, wDIn, oLcm, wChain, kt_ii, kt_ib, kt_rr, wFld_e, wProp_e, ixr_lst, ixr_tup, ixr_tpk, w_is_int, w_within, w_asc, fld_flags, fld_odd, ins_rd, w_initT, w_initL, w_within, sWhile, w_modulus, w_chosen, oOwnIn, w_index, w_nextf, oNotI, w_next, w_first, w_or, w_xor, iMulS, at0, at1, at2, oPow, wCut, wCutTo, oAbsI, stayD, gwLst, w_purse, sWhile, wipeD, oCatL, itemsD, md0, md1, md2, List.take_succ_cons, List.take_zero, List.take_nil, List.drop_zero, List.drop_succ_cons, List.drop_nil, Nat.le_refl, oMaxL, oCatL, wAppend, oNeS, wMakeD, wMeth, wListMeth, wProp_e, isi_rr, w_modulus, wSMeth]
  refine ⟨⟨by decide, by decide, by decide⟩, line5 (by decide), line5 (by decide), line5 (by decide), ?_⟩
  rw [show (10 : Int) ^ Int.toNat 6 = 1000000 by decide +kernel, show (5040 : Int) + 5039 = 10079 from rfl, show (5040 : Int) + (B : Int) = ((5040 + B : Nat) : Int) by omega, show (a : Int) + (B : Int) = ((a + B : Nat) : Int) by omega]
  refine ne_self (p := .list [.list [.int a, .int ((a + B : Nat) : Int), .int 1000000], .list [.int 5039, .int 5040, .int ((5040 + B : Nat) : Int), .int 10079], .int 1, .int 5040]) rfl (by simp [SeqAt.shaped, PyData.canLay0, PyData.canLayAll0, PyData.depth, PyData.depthAll]) (by simp [PyData.eqv, PyData.eqvAll]) ?_
  dsimp only
  rw [if_neg (by decide)]
  subst hR
  refine seqG fun R hR => ?_
  simp only [true_and, and_true, oU2, oUn1, oL1, oS1, oR1, oJust, iAdd, iSub, iMul, iFdiv, iMod, iEq, iNe, iLt, iLe, iGt, iGe, iNeg, iAbs, DL.iStr, wFmt, wJs, wJoined, sNext, sSeq, sDrop, sRet, sRetN, sIf, sAsg, sPar, wOp, wVar, wC, wUn, wCons, wNil, wCB, wCall, wMake, wMakeSw, wCallSw, oI, oI0, oU, wTest, wAnd, wOr, DL.wNot, wAndV, wOrV, wNotV, wIf, wTup, wLst, wLstM, gwName, gwNil, gwCons, gwTup, gwSub, oInt1, oAbsI, oLen, oGcd, oDivmod, oMax2, oMin2, oStrI, if_t1, if_f1, Bool.not_true, Bool.not_false, startD, List.map_cons, List.map_nil, List.length_cons, List.length_nil, List.cons_append, List.nil_append, List.getElem?_cons_zero, List.getElem?_cons_succ, List.set_cons_zero, List.set_cons_succ, List.replicate, Nat.reduceAdd, Nat.reduceSub, Nat.zero_add, Nat.sub_self, Nat.add_sub_cancel, sForI, forStep, listD, seqD, wFz, wTruth, wiL, wiT, wiR, wiR2, wiET, wLcI, wDcI, wYes, wSortKI, wMakeI, sSetF, putFD, wMerge2, oEqDT, oBoolD, wListRg, wSMeth, oOwn2, wCutE, oRepL, wDIn, oLcm, wChain, kt_ii, kt_ib, kt_rr, wFld_e, wProp_e, ixr_lst, ixr_tup, ixr_tpk, w_is_int, w_within, w_asc, fld_flags, fld_odd, ins_rd, w_initT, w_initL, w_within, sWhile, w_modulus, w_chosen, oOwnIn, w_index, w_nextf, oNotI, w_next, w_first, w_or, w_xor, iMulS, at0, at1, at2, oPow, wCut, wCutTo, oAbsI, stayD, gwLst, w_purse, sWhile, wipeD, oCatL, itemsD, md0, md1, md2, List.take_succ_cons, List.take_zero, List.take_nil, List.drop_zero, List.drop_succ_cons, List.drop_nil, Nat.le_refl, oMaxL, oCatL, wAppend, oNeS, wMakeD, wMeth, wListMeth, wProp_e, isi_rr, w_modulus, wSMeth]
  simp only [rd]
  have lka : ∀ {u v : D}, List.lookup ("after" : Str) [(("_flags" : Str), u), ("_odd", v)] = none := lk_rd (by decide +kernel) (by decide +kernel)
  have s1 : NextS (memN r1) (a + 1) (some (a + B)) := ⟨by omega, (q1 _).mpr (by omega), fun k k1 k2 => no_true (q1 k) (by omega)⟩
  have s2 : NextS (memN r1) 1000001 none := fun k k1 => no_true (q1 k) (by omega)
  refine ⟨trivial, lka, r1, a + 1, rfl, wf1, by omega, fun o ho _ => ?_⟩
  cases nextS_uniq ho s1
  refine ⟨trivial, lka, ⟨by decide, by decide, by decide⟩, ?_⟩
  rw [show (10 : Int) ^ Int.toNat 6 + 1 = ((1000001 : Nat) : Int) by decide +kernel]
  refine ⟨r1, 1000001, rfl, wf1, by decide, fun o ho _ => ?_⟩
  cases nextS_uniq ho s2
  refine ⟨Nat.zero_le _, [], rfl, trivial, by decide, ?_⟩
  simp only [rd]
  have wf3 : Wf (tl []) := tl_wf .nil (Nat.zero_le _) fun n hn => by cases hn
  have s3 : NextS (memN (tl [])) 0 none := fun k k1 => no_true (tl_iff (ns := []) k) (by simp)
  refine ⟨trivial, lka, tl [], 0, rfl, wf3, by decide, fun o ho _ => ?_⟩
  cases nextS_uniq ho s3
  refine ⟨by decide, line5 (by decide), 1, [0], rfl, by decide, by decide, ⟨by decide, by decide, trivial⟩, (show 1 ≤ 16000000 by decide), ?_⟩
  simp only [rd]
  have wf4 : Wf (rr 1 [0]) := rr_wf (by decide) (by decide)
  have s4 : NextS (memN (rr 1 [0])) 1000000000 (some 1000000000) := ⟨Nat.le_refl _, (rr_iff (by decide) _).mpr (by decide), fun k k1 k2 => by omega⟩
  refine ⟨trivial, lka, ⟨by decide, by decide, by decide⟩, ?_⟩
  rw [show (10 : Int) ^ Int.toNat 9 = ((1000000000 : Nat) : Int) by decide +kernel]
  refine ⟨rr 1 [0], 1000000000, rfl, wf4, by decide, fun o ho _ => ?_⟩
  cases nextS_uniq ho s4
  refine ⟨line5 (by decide), ?_⟩
  show R { nx := fun x S' => Q D.non S', rt := Q } [some (.mut d), some (.int a), some (.int B), some (rd r1), some (rd r2), some (.lst [.int ((a + B : Nat) : Int), .non, .non, .int 1000000000])] S2
  clear s1 s2 s3 s4 wf3 wf4 q1
  subst hR
  refine seqG fun R hR => ?_
  simp only [true_and, and_true, oU2, oUn1, oL1, oS1, oR1, oJust, iAdd, iSub, iMul, iFdiv, iMod, iEq, iNe, iLt, iLe, iGt, iGe, iNeg, iAbs, DL.iStr, wFmt, wJs, wJoined, sNext, sSeq, sDrop, sRet, sRetN, sIf, sAsg, sPar, wOp, wVar, wC, wUn, wCons, wNil, wCB, wCall, wMake, wMakeSw, wCallSw, oI, oI0, oU, wTest, wAnd, wOr, DL.wNot, wAndV, wOrV, wNotV, wIf, wTup, wLst, wLstM, gwName, gwNil, gwCons, gwTup, gwSub, oInt1, oAbsI, oLen, oGcd, oDivmod, oMax2, oMin2, oStrI, if_t1, if_f1, Bool.not_true, Bool.not_false, startD, List.map_cons, List.map_nil, List.length_cons, List.length_nil, List.cons_append, List.nil_append, List.getElem?_cons_zero, List.getElem?_cons_succ, List.set_cons_zero, List.set_cons_succ, List.replicate, Nat.reduceAdd, Nat.reduceSub, Nat.zero_add, Nat.sub_self, Nat.add_sub_cancel, sForI, forStep, listD, seqD, wFz, wTruth, wiL, wiT, wiR, wiR2, wiET, wLcI, wDcI, wYes, wSortKI, wMakeI, sSetF, putFD, wMerge2, oEqDT, oBoolD, wListRg, wSMeth, oOwn2, wCutE, oRepL, wDIn, oLcm, wChain, kt_ii, kt_ib, kt_rr, wFld_e, wProp_e, ixr_lst, ixr_tup, ixr_tpk, w_is_int, w_within, w_asc, fld_flags, fld_odd, ins_rd, w_initT, w_initL, w_within, sWhile, w_modulus, w_chosen, oOwnIn, w_index, w_nextf, oNotI, w_next, w_first, w_or, w_xor, iMulS, at0, at1, at2, oPow, wCut, wCutTo, oAbsI, stayD, gwLst, w_purse, sWhile, wipeD, oCatL, itemsD, md0, md1, md2, List.take_succ_cons, List.take_zero, List.take_nil, List.drop_zero, List.drop_succ_cons, List.drop_nil, Nat.le_refl, oMaxL, oCatL, wAppend, oNeS, wMakeD, wMeth, wListMeth, wProp_e, isi_rr, w_modulus, wSMeth]
  refine ⟨⟨by decide, by decide, by decide⟩, line5 (by decide), ?_⟩
  rw [show (10 : Int) ^ Int.toNat 9 = 1000000000 by decide +kernel, show (a : Int) + (B : Int) = ((a + B : Nat) : Int) by omega]
  refine ne_self (p := .list [.int ((a + B : Nat) : Int), .none, .none, .int 1000000000]) rfl (by simp [SeqAt.shaped, PyData.canLay0, PyData.canLayAll0, PyData.depth, PyData.depthAll]) (by simp [PyData.eqv, PyData.eqvAll]) ?_
  dsimp only
  rw [if_neg (by decide)]
  refine ⟨Nat.zero_le _, [], rfl, trivial, by decide, boolO_rd (by decide) ?_⟩
  rw [show (([false] : List Bool).contains true || !([] : List Int).isEmpty) = false by decide]
  dsimp only
  rw [if_neg (by decide)]
  refine ⟨line5 (by decide), 7, [], rfl, by decide, by decide, trivial, (by decide), boolO_rd (by decide +kernel) ?_⟩
  rw [show (((List.range (Int.toNat 7)).map fun k : Nat => decide ((k : Int) ∈ ([] : List Int))).contains true || !([] : List Int).isEmpty) = false by decide +kernel]
  dsimp only
  rw [if_neg (by decide)]
  subst hR
  simp only [true_and, and_true, oU2, oUn1, oL1, oS1, oR1, oJust, iAdd, iSub, iMul, iFdiv, iMod, iEq, iNe, iLt, iLe, iGt, iGe, iNeg, iAbs, DL.iStr, wFmt, wJs, wJoined, sNext, sSeq, sDrop, sRet, sRetN, sIf, sAsg, sPar, wOp, wVar, wC, wUn, wCons, wNil, wCB, wCall, wMake, wMakeSw, wCallSw, oI, oI0, oU, wTest, wAnd, wOr, DL.wNot, wAndV, wOrV, wNotV, wIf, wTup, wLst, wLstM, gwName, gwNil, gwCons, gwTup, gwSub, oInt1, oAbsI, oLen, oGcd, oDivmod, oMax2, oMin2, oStrI, if_t1, if_f1, Bool.not_true, Bool.not_false, startD, List.map_cons, List.map_nil, List.length_cons, List.length_nil, List.cons_append, List.nil_append, List.getElem?_cons_zero, List.getElem?_cons_succ, List.set_cons_zero, List.set_cons_succ, List.replicate, Nat.reduceAdd, Nat.reduceSub, Nat.zero_add, Nat.sub_self, Nat.add_sub_cancel, sForI, forStep, listD, seqD, wFz, wTruth, wiL, wiT, wiR, wiR2, wiET, wLcI, wDcI, wYes, wSortKI, wMakeI, sSetF, putFD, wMerge2, oEqDT, oBoolD, wListRg, wSMeth, oOwn2, wCutE, oRepL, wDIn, oLcm, wChain, kt_ii, kt_ib, kt_rr, wFld_e, wProp_e, ixr_lst, ixr_tup, ixr_tpk, w_is_int, w_within, w_asc, fld_flags, fld_odd, ins_rd, w_initT, w_initL, w_within, sWhile, w_modulus, w_chosen, oOwnIn, w_index, w_nextf, oNotI, w_next, w_first, w_or, w_xor, iMulS, at0, at1, at2, oPow, wCut, wCutTo, oAbsI, stayD, gwLst, w_purse, sWhile, wipeD, oCatL, itemsD, md0, md1, md2, List.take_succ_cons, List.take_zero, List.take_nil, List.drop_zero, List.drop_succ_cons, List.drop_nil, Nat.le_refl, oMaxL, oCatL, wAppend, oNeS, wMakeD, wMeth, wListMeth, wProp_e, isi_rr, w_modulus, wSMeth]
  refine ⟨by decide, line5 (by decide), 2, [0, 1], rfl, by decide, by decide, ⟨by decide, by decide, by decide, by decide, trivial⟩, (show 2 ≤ 16000000 by decide), ?_⟩
  simp only [ins_rd]
  refine ⟨rr 2 [0, 1], rfl, rr_wf (by decide) (by decide), ?_⟩
  rw [show wholeD (rr 2 [0, 1]) = .int 0 by rfl]
  refine ⟨r1, rfl, wf1, ?_⟩
  rw [g1]
  refine ⟨by decide, line5 (by decide), 3, [0, 1], rfl, by decide, by decide, ⟨by decide, by decide, by decide, by decide, trivial⟩, (show 2 ≤ 16000000 by decide), ?_⟩
  simp only [ins_rd]
  refine ⟨rr 3 [0, 1], rfl, rr_wf (by decide) (by decide), ?_⟩
  rw [show wholeD (rr 3 [0, 1]) = .non by rfl]
  exact ⟨line5 (by decide), line5 (by decide), eq_self' (p := .list [.int 0, .none, .none]) rfl (by decide +kernel) (by decide +kernel) h2⟩
end
end K1
set_option Elab.async false
set_option linter.all false
set_option maxRecDepth 100000
set_option maxHeartbeats 0
namespace K1
open PySem PySem.Spec PyProof.Rows L2 DL
section
variable {P : Program} {w : World} {K : PySem.W.Frag} {mg : Str → Option Value} {base : Heap}
def w_law : WF := fun ds S Q => match ds with
  | [.scr xs] => AllI xs ∧ ∀ S', Q (.bl true) S'
  | _ => False
theorem sc_law : FnScope ["cells", "at", "draws"] ["cells"] (defScope s_law) := ⟨rfl, rfl, rfl, by decide +kernel, rfl, by decide +kernel, by decide +kernel⟩
theorem ok_law (T : Tx K mg) : FnG P w K mg base 15 T.f_law T.fd_law ["cells"] (spW ⟨K, mg⟩ 1 w_law) := by
  refine fnDG (k := 14) T.F_law sc_law (fun cdv A outer s H hr hg => ⟨_, (dss_cons (ds_for PassesOwn.never rfl (ii_range T.z_range (da_cons (d_callB (call_max2 rfl) snd_max2 T.z_max (da_cons d_int (da_cons (d_callB (call_min2 rfl) snd_min2 T.z_min (da_cons (d_callB call_len_seq snd_len T.z_len (da_cons (dv 0) da_nil) (hv := bt_len)) (da_cons d_int da_nil)) (hv := bt_min)) da_nil)) (hv := bt_max)) da_nil)) (dg_name (i := 1) sc_law.nd) (dss_cons (ds_set (i := 2) sc_law.nd (d_call (ok__law_purse T) (hr.mono (by decide)) T.m__law_purse T.F__law_purse.kp T.b__law_purse (da_cons (dv 0) (da_cons (dv 1) da_nil))))
  (dss_one (ds_if (PDW.pt (dw_or (dt_not (dt_val (d_callG (ok__law_right T) (hr.mono (by decide)) hg T.m__law_right T.F__law_right.kp T.b__law_right (da_cons (dv 2) da_nil)))) (dw_or1 (dt_not (dt_val (d_call (ok__law_several_right T) (hr.mono (by decide)) T.m__law_several_right T.F__law_several_right.kp T.b__law_several_right (da_cons (dv 2) da_nil))))))) (dss_one (ds_ret d_bl)) dss_nil))))
  (dss_one (ds_ret d_bl)))⟩) (fun ds S Q hl h => ?_)
  match ds, h with
  | [.scr xs], ⟨hx, h⟩ =>
    refine seqG fun R hR => ?_
    simp only [true_and, and_true, oU2, oUn1, oL1, oS1, oR1, oJust, iAdd, iSub, iMul, iFdiv, iMod, iEq, iNe, iLt, iLe, iGt, iGe, iNeg, iAbs, DL.iStr, wFmt, wJs, wJoined, sNext, sSeq, sDrop, sRet, sRetN, sIf, sAsg, sPar, wOp, wVar, wC, wUn, wCons, wNil, wCB, wCall, wMake, wMakeSw, wCallSw, oI, oI0, oU, wTest, wAnd, wOr, DL.wNot, wAndV, wOrV, wNotV, wIf, wTup, wLst, wLstM, gwName, gwNil, gwCons, gwTup, gwSub, oInt1, oAbsI, oLen, oGcd, oDivmod, oMax2, oMin2, oStrI, if_t1, if_f1, Bool.not_true, Bool.not_false, startD, List.map_cons, List.map_nil, List.length_cons, List.length_nil, List.cons_append, List.nil_append, List.getElem?_cons_zero, List.getElem?_cons_succ, List.set_cons_zero, List.set_cons_succ, List.replicate, Nat.reduceAdd, Nat.reduceSub, Nat.zero_add, Nat.sub_self, Nat.add_sub_cancel, sForI, forStep, listD, seqD, wFz, wTruth, wiL, wiT, wiR, wiR2, wiET, wLcI, wDcI, wYes, wSortKI, wMakeI, sSetF, putFD, wMerge2, oEqDT, oBoolD, wListRg, wSMeth, oOwn2, wCutE, oRepL, wDIn, oLcm, wChain, kt_ii, kt_ib, kt_rr, wFld_e, wProp_e, ixr_lst, ixr_tup, ixr_tpk, w_is_int, w_within, w_asc, fld_flags, fld_odd, ins_rd, w_initT, w_initL, w_within, sWhile, w_modulus, w_chosen, oOwnIn, w_index, w_nextf, oNotI, w_next, w_first, w_or, w_xor, iMulS, at0, at1, at2, oPow, wCut, wCutTo, oAbsI, stayD, gwLst, w_purse, sWhile, wipeD, oCatL, itemsD, md0, md1, md2, List.take_succ_cons, List.take_zero, List.take_nil, List.drop_zero, List.drop_succ_cons, List.drop_nil, Nat.le_refl, oMaxL, oCatL, wAppend, oNeS, wMakeD, wMeth, wListMeth, wProp_e, isi_rr, w_modulus, wSMeth, oMax2, oMin2, forStep, w_purse]
    generalize hj : (if (if 4 < (xs.length : Int) then 4 else (xs.length : Int)) > 1 then if 4 < (xs.length : Int) then 4 else (xs.length : Int) else 1) = j
    have jz : 0 ≤ j ∧ j ≤ 4 := by
      subst hj
      split <;> split <;> omega
    refine ⟨⟨by omega, by omega⟩, ?_⟩
    rw [rangeD_map]
    generalize hst : forStep _ _ _ = st
    have hs1 : ∀ (n : Nat) (o1 o2 : Option D) (S : MS) (nx : DEnv → MS → Prop), n ≤ 10 → (∀ o1 o2 S', nx [some (.scr xs), o1, o2] S') → st (.int (0 + (n : Int))) [some (.scr xs), o1, o2] S nx := fun n o1 o2 S nx hn hk => by
      subst hst
      simp only [true_and, and_true, oU2, oUn1, oL1, oS1, oR1, oJust, iAdd, iSub, iMul, iFdiv, iMod, iEq, iNe, iLt, iLe, iGt, iGe, iNeg, iAbs, DL.iStr, wFmt, wJs, wJoined, sNext, sSeq, sDrop, sRet, sRetN, sIf, sAsg, sPar, wOp, wVar, wC, wUn, wCons, wNil, wCB, wCall, wMake, wMakeSw, wCallSw, oI, oI0, oU, wTest, wAnd, wOr, DL.wNot, wAndV, wOrV, wNotV, wIf, wTup, wLst, wLstM, gwName, gwNil, gwCons, gwTup, gwSub, oInt1, oAbsI, oLen, oGcd, oDivmod, oMax2, oMin2, oStrI, if_t1, if_f1, Bool.not_true, Bool.not_false, startD, List.map_cons, List.map_nil, List.length_cons, List.length_nil, List.cons_append, List.nil_append, List.getElem?_cons_zero, List.getElem?_cons_succ, List.set_cons_zero, List.set_cons_succ, List.replicate, Nat.reduceAdd, Nat.reduceSub, Nat.zero_add, Nat.sub_self, Nat.add_sub_cancel, sForI, forStep, listD, seqD, wFz, wTruth, wiL, wiT, wiR, wiR2, wiET, wLcI, wDcI, wYes, wSortKI, wMakeI, sSetF, putFD, wMerge2, oEqDT, oBoolD, wListRg, wSMeth, oOwn2, wCutE, oRepL, wDIn, oLcm, wChain, kt_ii, kt_ib, kt_rr, wFld_e, wProp_e, ixr_lst, ixr_tup, ixr_tpk, w_is_int, w_within, w_asc, fld_flags, fld_odd, ins_rd, w_initT, w_initL, w_within, sWhile, w_modulus, w_chosen, oOwnIn, w_index, w_nextf, oNotI, w_next, w_first, w_or, w_xor, iMulS, at0, at1, at2, oPow, wCut, wCutTo, oAbsI, stayD, gwLst, w_purse, sWhile, wipeD, oCatL, itemsD, md0, md1, md2, List.take_succ_cons, List.take_zero, List.take_nil, List.drop_zero, List.drop_succ_cons, List.drop_nil, Nat.le_refl, oMaxL, oCatL, wAppend, oNeS, wMakeD, wMeth, wListMeth, wProp_e, isi_rr, w_modulus, wSMeth, oMax2, oMin2, forStep, w_purse]
      refine ⟨hx, ⟨by omega, by omega⟩, fun x px => ?_⟩
      refine ⟨S.length, x, 0, rfl, at_acc, px, by decide, by decide, fun x1 c1 p1 g0 g1 => ?_⟩
      rw [set_acc]
      dsimp only
      rw [if_neg (by decide)]
      refine ⟨S.length, x1, c1, rfl, at_acc, p1, g0, by omega, fun x2 c2 p2 _ _ => ?_⟩
      rw [set_acc]
      dsimp only
      rw [if_neg (by decide)]
      exact hk _ _ _
    clear hst
    have gen : ∀ (todo : List Nat) (o1 o2 : Option D) (S : MS), (∀ n ∈ todo, n ≤ 10) → forO (fun _ => True) (todo.map fun i : Nat => D.int (0 + i)) st (R { nx := fun x S' => Q D.non S', rt := Q }) [some (.scr xs), o1, o2] S := by
      intro todo
      induction todo with
      | nil =>
        intro o1 o2 S _
        subst hR
        exact ⟨trivial, h S⟩
      | cons n todo ih =>
        intro o1 o2 S hn
        exact ⟨trivial, hs1 n o1 o2 S _ (hn n List.mem_cons_self) fun o1 o2 S' => ih o1 o2 S' fun m hm => hn m (List.mem_cons_of_mem _ hm)⟩
    exact gen _ none none S fun n hn => by have := List.mem_range.mp hn; omega
end
end K1
set_option Elab.async false
set_option linter.all false
set_option maxRecDepth 100000
set_option maxHeartbeats 0
namespace K1
open PySem PySem.Spec PyProof.Rows L2 DL
theorem if_some {c : Prop} [Decidable c] {a r : Bool} (h : (if c then some a else none) = some r) : c ∧ a = r := by
  by_cases z : c
  · rw [if_pos z] at h
    exact ⟨z, Option.some.inj h⟩
  · rw [if_neg z] at h
    cases h
theorem dun_and : PySem.dunder "and" = ("__and__" : Str) := by decide +kernel
theorem dunI_and : PySem.dunderI (Operator.info .BitAnd).2 = ("__iand__" : Str) := by decide +kernel
theorem dun_or : PySem.dunder "or" = ("__or__" : Str) := by decide +kernel
theorem dunI_or : PySem.dunderI (Operator.info .BitOr).2 = ("__ior__" : Str) := by decide +kernel
theorem dun_sub : PySem.dunder "sub" = ("__sub__" : Str) := by decide +kernel
theorem dunI_sub : PySem.dunderI (Operator.info .Sub).2 = ("__isub__" : Str) := by decide +kernel
theorem dun_xor : PySem.dunder "xor" = ("__xor__" : Str) := by decide +kernel
theorem dunI_xor : PySem.dunderI (Operator.info .BitXor).2 = ("__ixor__" : Str) := by decide +kernel
theorem all_mk {l : PySem.W.OpenLaw} {w : World} {K : PySem.W.Frag} {h : Heap} {mg : Str → Option Value} {fa : Addr} (X : K.In h) (G : h.Ns mainGlobals mg) (hfa : mg "law" = some (.ref fa))
    {C : Addr} {q_C : ClassData}
    {f_is_int : Addr} {od_is_int an_is_int : Option Addr} {sl_is_int : Array (Option Value)} {oc_is_int kV_is_int dc_is_int pm_is_int cd_is_int ct_is_int : Value}
    {f_is_int_within : Addr} {od_is_int_within an_is_int_within : Option Addr} {sl_is_int_within : Array (Option Value)} {oc_is_int_within kV_is_int_within dc_is_int_within pm_is_int_within cd_is_int_within ct_is_int_within : Value}
    {f_check_ascending : Addr} {od_check_ascending an_check_ascending : Option Addr} {sl_check_ascending : Array (Option Value)} {oc_check_ascending kV_check_ascending dc_check_ascending pm_check_ascending cd_check_ascending ct_check_ascending : Value}
    {f_check_first : Addr} {od_check_first an_check_first : Option Addr} {sl_check_first : Array (Option Value)} {oc_check_first kV_check_first dc_check_first pm_check_first cd_check_first ct_check_first : Value}
    {f_index_from : Addr} {od_index_from an_index_from : Option Addr} {sl_index_from : Array (Option Value)} {oc_index_from kV_index_from dc_index_from pm_index_from cd_index_from ct_index_from : Value}
    {f_next_flagged : Addr} {od_next_flagged an_next_flagged : Option Addr} {sl_next_flagged : Array (Option Value)} {oc_next_flagged kV_next_flagged dc_next_flagged pm_next_flagged cd_next_flagged ct_next_flagged : Value}
    {f_next_member : Addr} {od_next_member an_next_member : Option Addr} {sl_next_member : Array (Option Value)} {oc_next_member kV_next_member dc_next_member pm_next_member cd_next_member ct_next_member : Value}
    {f_chosen : Addr} {od_chosen an_chosen : Option Addr} {sl_chosen : Array (Option Value)} {oc_chosen kV_chosen dc_chosen pm_chosen cd_chosen ct_chosen : Value}
    {f_combined : Addr} {od_combined an_combined : Option Addr} {sl_combined : Array (Option Value)} {oc_combined kV_combined dc_combined pm_combined cd_combined ct_combined : Value}
    {f_have_same_members : Addr} {od_have_same_members an_have_same_members : Option Addr} {sl_have_same_members : Array (Option Value)} {oc_have_same_members kV_have_same_members dc_have_same_members pm_have_same_members cd_have_same_members ct_have_same_members : Value}
    {f__law_purse : Addr} {od__law_purse an__law_purse : Option Addr} {sl__law_purse : Array (Option Value)} {oc__law_purse kV__law_purse dc__law_purse pm__law_purse cd__law_purse ct__law_purse : Value}
    {f__law_take : Addr} {od__law_take an__law_take : Option Addr} {sl__law_take : Array (Option Value)} {oc__law_take kV__law_take dc__law_take pm__law_take cd__law_take ct__law_take : Value}
    {f__law_set : Addr} {od__law_set an__law_set : Option Addr} {sl__law_set : Array (Option Value)} {oc__law_set kV__law_set dc__law_set pm__law_set cd__law_set ct__law_set : Value}
    {f__law_holds : Addr} {od__law_holds an__law_holds : Option Addr} {sl__law_holds : Array (Option Value)} {oc__law_holds kV__law_holds dc__law_holds pm__law_holds cd__law_holds ct__law_holds : Value}
    {f__law_formed : Addr} {od__law_formed an__law_formed : Option Addr} {sl__law_formed : Array (Option Value)} {oc__law_formed kV__law_formed dc__law_formed pm__law_formed cd__law_formed ct__law_formed : Value}
    {f__law_members : Addr} {od__law_members an__law_members : Option Addr} {sl__law_members : Array (Option Value)} {oc__law_members kV__law_members dc__law_members pm__law_members cd__law_members ct__law_members : Value}
    {f__law_whole : Addr} {od__law_whole an__law_whole : Option Addr} {sl__law_whole : Array (Option Value)} {oc__law_whole kV__law_whole dc__law_whole pm__law_whole cd__law_whole ct__law_whole : Value}
    {f__law_right : Addr} {od__law_right an__law_right : Option Addr} {sl__law_right : Array (Option Value)} {oc__law_right kV__law_right dc__law_right pm__law_right cd__law_right ct__law_right : Value}
    {f__law_several_right : Addr} {od__law_several_right an__law_several_right : Option Addr} {sl__law_several_right : Array (Option Value)} {oc__law_several_right kV__law_several_right dc__law_several_right pm__law_several_right cd__law_several_right ct__law_several_right : Value}
    {f_law : Addr} {od_law an_law : Option Addr} {sl_law : Array (Option Value)} {oc_law kV_law dc_law pm_law cd_law ct_law : Value}
    {f_init : Addr} {od_init an_init : Option Addr} {sl_init : Array (Option Value)} {oc_init kV_init dc_init pm_init cd_init ct_init : Value}
    {p_told : Addr} {rest_told : List Value} {f_told : Addr}
    {od_told an_told : Option Addr} {sl_told : Array (Option Value)} {oc_told kV_told dc_told pm_told cd_told ct_told : Value}
    {p_rests : Addr} {rest_rests : List Value} {f_rests : Addr}
    {od_rests an_rests : Option Addr} {sl_rests : Array (Option Value)} {oc_rests kV_rests dc_rests pm_rests cd_rests ct_rests : Value}
    {f_modulus : Addr} {od_modulus an_modulus : Option Addr} {sl_modulus : Array (Option Value)} {oc_modulus kV_modulus dc_modulus pm_modulus cd_modulus ct_modulus : Value}
    {p_modulus : Addr} {rest_modulus : List Value}
    {f_whole_from : Addr} {od_whole_from an_whole_from : Option Addr} {sl_whole_from : Array (Option Value)} {oc_whole_from kV_whole_from dc_whole_from pm_whole_from cd_whole_from ct_whole_from : Value}
    {p_whole_from : Addr} {rest_whole_from : List Value}
    {f_after : Addr} {od_after an_after : Option Addr} {sl_after : Array (Option Value)} {oc_after kV_after dc_after pm_after cd_after ct_after : Value}
    {f_members : Addr} {od_members an_members : Option Addr} {sl_members : Array (Option Value)} {oc_members kV_members dc_members pm_members cd_members ct_members : Value}
    {f_and : Addr} {od_and an_and : Option Addr} {sl_and : Array (Option Value)} {oc_and kV_and dc_and pm_and cd_and ct_and : Value}
    {f_or : Addr} {od_or an_or : Option Addr} {sl_or : Array (Option Value)} {oc_or kV_or dc_or pm_or cd_or ct_or : Value}
    {f_sub : Addr} {od_sub an_sub : Option Addr} {sl_sub : Array (Option Value)} {oc_sub kV_sub dc_sub pm_sub cd_sub ct_sub : Value}
    {f_xor : Addr} {od_xor an_xor : Option Addr} {sl_xor : Array (Option Value)} {oc_xor kV_xor dc_xor pm_xor cd_xor ct_xor : Value}
    {f_contains : Addr} {od_contains an_contains : Option Addr} {sl_contains : Array (Option Value)} {oc_contains kV_contains dc_contains pm_contains cd_contains ct_contains : Value}
    {f_eq : Addr} {od_eq an_eq : Option Addr} {sl_eq : Array (Option Value)} {oc_eq kV_eq dc_eq pm_eq cd_eq ct_eq : Value}
    {f_le : Addr} {od_le an_le : Option Addr} {sl_le : Array (Option Value)} {oc_le kV_le dc_le pm_le cd_le ct_le : Value}
    {f_bool : Addr} {od_bool an_bool : Option Addr} {sl_bool : Array (Option Value)} {oc_bool kV_bool dc_bool pm_bool cd_bool ct_bool : Value}
    {CR T_i : Addr} {od_T : Option Addr} {sl_T : Array (Option Value)} {oc_T : Value} {n_T : Nat} {tk_T : Tok}
    {f_R_init : Addr} {od_R_init an_R_init : Option Addr} {sl_R_init : Array (Option Value)} {oc_R_init kV_R_init dc_R_init pm_R_init cd_R_init ct_R_init : Value}
    {tk_MOST_MODULUS : Tok}
    {tk_MOST_MEMBER : Tok}
    {tk_MOST_FIRST : Tok}
    {tk_MOST_YIELDED : Tok}
    {a_IN_BOTH : Addr} {od_IN_BOTH : Option Addr} {n_IN_BOTH : Nat} {sl_IN_BOTH : Array (Option Value)}
    {a_IN_ONE_AT_LEAST : Addr} {od_IN_ONE_AT_LEAST : Option Addr} {n_IN_ONE_AT_LEAST : Nat} {sl_IN_ONE_AT_LEAST : Array (Option Value)}
    {a_IN_THE_FIRST_ONLY : Addr} {od_IN_THE_FIRST_ONLY : Option Addr} {n_IN_THE_FIRST_ONLY : Nat} {sl_IN_THE_FIRST_ONLY : Array (Option Value)}
    {a_IN_JUST_ONE : Addr} {od_IN_JUST_ONE : Option Addr} {n_IN_JUST_ONE : Nat} {sl_IN_JUST_ONE : Array (Option Value)}
    (aC : PySem.W.nsIn K mainGlobals "Rounds" = some (some (.ref C)))
    (a_is_int : PySem.W.nsIn K mainGlobals "is_int" = some (some (.ref f_is_int)))
    (l_is_int : K.lookup f_is_int = some ⟨oc_is_int, od_is_int, .func (PySem.W.fnOf "is_int" "is_int" (defArgs s_is_int) (defBody s_is_int) (defScope s_is_int) .none kV_is_int dc_is_int pm_is_int an_is_int cd_is_int ct_is_int), sl_is_int⟩)
    (c_is_int : PySem.W.codeIn K cd_is_int "is_int" = true)
    (k_is_int : PySem.W.keepIn K (.ref f_is_int) = true)
    (a_is_int_within : PySem.W.nsIn K mainGlobals "is_int_within" = some (some (.ref f_is_int_within)))
    (l_is_int_within : K.lookup f_is_int_within = some ⟨oc_is_int_within, od_is_int_within, .func (PySem.W.fnOf "is_int_within" "is_int_within" (defArgs s_is_int_within) (defBody s_is_int_within) (defScope s_is_int_within) .none kV_is_int_within dc_is_int_within pm_is_int_within an_is_int_within cd_is_int_within ct_is_int_within), sl_is_int_within⟩)
    (c_is_int_within : PySem.W.codeIn K cd_is_int_within "is_int_within" = true)
    (k_is_int_within : PySem.W.keepIn K (.ref f_is_int_within) = true)
    (a_check_ascending : PySem.W.nsIn K mainGlobals "check_ascending" = some (some (.ref f_check_ascending)))
    (l_check_ascending : K.lookup f_check_ascending = some ⟨oc_check_ascending, od_check_ascending, .func (PySem.W.fnOf "check_ascending" "check_ascending" (defArgs s_check_ascending) (defBody s_check_ascending) (defScope s_check_ascending) .none kV_check_ascending dc_check_ascending pm_check_ascending an_check_ascending cd_check_ascending ct_check_ascending), sl_check_ascending⟩)
    (c_check_ascending : PySem.W.codeIn K cd_check_ascending "check_ascending" = true)
    (k_check_ascending : PySem.W.keepIn K (.ref f_check_ascending) = true)
    (a_check_first : PySem.W.nsIn K mainGlobals "check_first" = some (some (.ref f_check_first)))
    (l_check_first : K.lookup f_check_first = some ⟨oc_check_first, od_check_first, .func (PySem.W.fnOf "check_first" "check_first" (defArgs s_check_first) (defBody s_check_first) (defScope s_check_first) .none kV_check_first dc_check_first pm_check_first an_check_first cd_check_first ct_check_first), sl_check_first⟩)
    (c_check_first : PySem.W.codeIn K cd_check_first "check_first" = true)
    (k_check_first : PySem.W.keepIn K (.ref f_check_first) = true)
    (a_index_from : PySem.W.nsIn K mainGlobals "index_from" = some (some (.ref f_index_from)))
    (l_index_from : K.lookup f_index_from = some ⟨oc_index_from, od_index_from, .func (PySem.W.fnOf "index_from" "index_from" (defArgs s_index_from) (defBody s_index_from) (defScope s_index_from) .none kV_index_from dc_index_from pm_index_from an_index_from cd_index_from ct_index_from), sl_index_from⟩)
    (c_index_from : PySem.W.codeIn K cd_index_from "index_from" = true)
    (k_index_from : PySem.W.keepIn K (.ref f_index_from) = true)
    (a_next_flagged : PySem.W.nsIn K mainGlobals "next_flagged" = some (some (.ref f_next_flagged)))
    (l_next_flagged : K.lookup f_next_flagged = some ⟨oc_next_flagged, od_next_flagged, .func (PySem.W.fnOf "next_flagged" "next_flagged" (defArgs s_next_flagged) (defBody s_next_flagged) (defScope s_next_flagged) .none kV_next_flagged dc_next_flagged pm_next_flagged an_next_flagged cd_next_flagged ct_next_flagged), sl_next_flagged⟩)
    (c_next_flagged : PySem.W.codeIn K cd_next_flagged "next_flagged" = true)
    (k_next_flagged : PySem.W.keepIn K (.ref f_next_flagged) = true)
    (a_next_member : PySem.W.nsIn K mainGlobals "next_member" = some (some (.ref f_next_member)))
    (l_next_member : K.lookup f_next_member = some ⟨oc_next_member, od_next_member, .func (PySem.W.fnOf "next_member" "next_member" (defArgs s_next_member) (defBody s_next_member) (defScope s_next_member) .none kV_next_member dc_next_member pm_next_member an_next_member cd_next_member ct_next_member), sl_next_member⟩)
    (c_next_member : PySem.W.codeIn K cd_next_member "next_member" = true)
    (k_next_member : PySem.W.keepIn K (.ref f_next_member) = true)
    (a_chosen : PySem.W.nsIn K mainGlobals "chosen" = some (some (.ref f_chosen)))
    (l_chosen : K.lookup f_chosen = some ⟨oc_chosen, od_chosen, .func (PySem.W.fnOf "chosen" "chosen" (defArgs s_chosen) (defBody s_chosen) (defScope s_chosen) .none kV_chosen dc_chosen pm_chosen an_chosen cd_chosen ct_chosen), sl_chosen⟩)
    (c_chosen : PySem.W.codeIn K cd_chosen "chosen" = true)
    (k_chosen : PySem.W.keepIn K (.ref f_chosen) = true)
    (a_combined : PySem.W.nsIn K mainGlobals "combined" = some (some (.ref f_combined)))
    (l_combined : K.lookup f_combined = some ⟨oc_combined, od_combined, .func (PySem.W.fnOf "combined" "combined" (defArgs s_combined) (defBody s_combined) (defScope s_combined) .none kV_combined dc_combined pm_combined an_combined cd_combined ct_combined), sl_combined⟩)
    (c_combined : PySem.W.codeIn K cd_combined "combined" = true)
    (k_combined : PySem.W.keepIn K (.ref f_combined) = true)
    (a_have_same_members : PySem.W.nsIn K mainGlobals "have_same_members" = some (some (.ref f_have_same_members)))
    (l_have_same_members : K.lookup f_have_same_members = some ⟨oc_have_same_members, od_have_same_members, .func (PySem.W.fnOf "have_same_members" "have_same_members" (defArgs s_have_same_members) (defBody s_have_same_members) (defScope s_have_same_members) .none kV_have_same_members dc_have_same_members pm_have_same_members an_have_same_members cd_have_same_members ct_have_same_members), sl_have_same_members⟩)
    (c_have_same_members : PySem.W.codeIn K cd_have_same_members "have_same_members" = true)
    (k_have_same_members : PySem.W.keepIn K (.ref f_have_same_members) = true)
    (a__law_purse : PySem.W.nsIn K mainGlobals "_law_purse" = some (some (.ref f__law_purse)))
    (l__law_purse : K.lookup f__law_purse = some ⟨oc__law_purse, od__law_purse, .func (PySem.W.fnOf "_law_purse" "_law_purse" (defArgs s__law_purse) (defBody s__law_purse) (defScope s__law_purse) .none kV__law_purse dc__law_purse pm__law_purse an__law_purse cd__law_purse ct__law_purse), sl__law_purse⟩)
    (c__law_purse : PySem.W.codeIn K cd__law_purse "_law_purse" = true)
    (k__law_purse : PySem.W.keepIn K (.ref f__law_purse) = true)
    (a__law_take : PySem.W.nsIn K mainGlobals "_law_take" = some (some (.ref f__law_take)))
    (l__law_take : K.lookup f__law_take = some ⟨oc__law_take, od__law_take, .func (PySem.W.fnOf "_law_take" "_law_take" (defArgs s__law_take) (defBody s__law_take) (defScope s__law_take) .none kV__law_take dc__law_take pm__law_take an__law_take cd__law_take ct__law_take), sl__law_take⟩)
    (c__law_take : PySem.W.codeIn K cd__law_take "_law_take" = true)
    (k__law_take : PySem.W.keepIn K (.ref f__law_take) = true)
    (a__law_set : PySem.W.nsIn K mainGlobals "_law_set" = some (some (.ref f__law_set)))
    (l__law_set : K.lookup f__law_set = some ⟨oc__law_set, od__law_set, .func (PySem.W.fnOf "_law_set" "_law_set" (defArgs s__law_set) (defBody s__law_set) (defScope s__law_set) .none kV__law_set dc__law_set pm__law_set an__law_set cd__law_set ct__law_set), sl__law_set⟩)
    (c__law_set : PySem.W.codeIn K cd__law_set "_law_set" = true)
    (k__law_set : PySem.W.keepIn K (.ref f__law_set) = true)
    (a__law_holds : PySem.W.nsIn K mainGlobals "_law_holds" = some (some (.ref f__law_holds)))
    (l__law_holds : K.lookup f__law_holds = some ⟨oc__law_holds, od__law_holds, .func (PySem.W.fnOf "_law_holds" "_law_holds" (defArgs s__law_holds) (defBody s__law_holds) (defScope s__law_holds) .none kV__law_holds dc__law_holds pm__law_holds an__law_holds cd__law_holds ct__law_holds), sl__law_holds⟩)
    (c__law_holds : PySem.W.codeIn K cd__law_holds "_law_holds" = true)
    (k__law_holds : PySem.W.keepIn K (.ref f__law_holds) = true)
    (a__law_formed : PySem.W.nsIn K mainGlobals "_law_formed" = some (some (.ref f__law_formed)))
    (l__law_formed : K.lookup f__law_formed = some ⟨oc__law_formed, od__law_formed, .func (PySem.W.fnOf "_law_formed" "_law_formed" (defArgs s__law_formed) (defBody s__law_formed) (defScope s__law_formed) .none kV__law_formed dc__law_formed pm__law_formed an__law_formed cd__law_formed ct__law_formed), sl__law_formed⟩)
    (c__law_formed : PySem.W.codeIn K cd__law_formed "_law_formed" = true)
    (k__law_formed : PySem.W.keepIn K (.ref f__law_formed) = true)
    (a__law_members : PySem.W.nsIn K mainGlobals "_law_members" = some (some (.ref f__law_members)))
    (l__law_members : K.lookup f__law_members = some ⟨oc__law_members, od__law_members, .func (PySem.W.fnOf "_law_members" "_law_members" (defArgs s__law_members) (defBody s__law_members) (defScope s__law_members) .none kV__law_members dc__law_members pm__law_members an__law_members cd__law_members ct__law_members), sl__law_members⟩)
    (c__law_members : PySem.W.codeIn K cd__law_members "_law_members" = true)
    (k__law_members : PySem.W.keepIn K (.ref f__law_members) = true)
    (a__law_whole : PySem.W.nsIn K mainGlobals "_law_whole" = some (some (.ref f__law_whole)))
    (l__law_whole : K.lookup f__law_whole = some ⟨oc__law_whole, od__law_whole, .func (PySem.W.fnOf "_law_whole" "_law_whole" (defArgs s__law_whole) (defBody s__law_whole) (defScope s__law_whole) .none kV__law_whole dc__law_whole pm__law_whole an__law_whole cd__law_whole ct__law_whole), sl__law_whole⟩)
    (c__law_whole : PySem.W.codeIn K cd__law_whole "_law_whole" = true)
    (k__law_whole : PySem.W.keepIn K (.ref f__law_whole) = true)
    (a__law_right : PySem.W.nsIn K mainGlobals "_law_right" = some (some (.ref f__law_right)))
    (l__law_right : K.lookup f__law_right = some ⟨oc__law_right, od__law_right, .func (PySem.W.fnOf "_law_right" "_law_right" (defArgs s__law_right) (defBody s__law_right) (defScope s__law_right) .none kV__law_right dc__law_right pm__law_right an__law_right cd__law_right ct__law_right), sl__law_right⟩)
    (c__law_right : PySem.W.codeIn K cd__law_right "_law_right" = true)
    (k__law_right : PySem.W.keepIn K (.ref f__law_right) = true)
    (a__law_several_right : PySem.W.nsIn K mainGlobals "_law_several_right" = some (some (.ref f__law_several_right)))
    (l__law_several_right : K.lookup f__law_several_right = some ⟨oc__law_several_right, od__law_several_right, .func (PySem.W.fnOf "_law_several_right" "_law_several_right" (defArgs s__law_several_right) (defBody s__law_several_right) (defScope s__law_several_right) .none kV__law_several_right dc__law_several_right pm__law_several_right an__law_several_right cd__law_several_right ct__law_several_right), sl__law_several_right⟩)
    (c__law_several_right : PySem.W.codeIn K cd__law_several_right "_law_several_right" = true)
    (k__law_several_right : PySem.W.keepIn K (.ref f__law_several_right) = true)
    (a_law : PySem.W.nsIn K mainGlobals "law" = some (some (.ref f_law)))
    (l_law : K.lookup f_law = some ⟨oc_law, od_law, .func (PySem.W.fnOf "law" "law" (defArgs s_law) (defBody s_law) (defScope s_law) .none kV_law dc_law pm_law an_law cd_law ct_law), sl_law⟩)
    (c_law : PySem.W.codeIn K cd_law "law" = true)
    (k_law : PySem.W.keepIn K (.ref f_law) = true)
    (a_init : PySem.W.findIn K (.ref C) "__init__" = some (some (.ref f_init)))
    (i_init : PySem.W.isFn K (.ref f_init) = true)
    (l_init : K.lookup f_init = some ⟨oc_init, od_init, .func (PySem.W.fnOf "__init__" "Rounds.__init__" (defArgs s_init) (defBody s_init) (defScope s_init) .none kV_init dc_init pm_init an_init cd_init ct_init), sl_init⟩)
    (c_init : PySem.W.codeIn K cd_init "Rounds.__init__" = true)
    (k_init : PySem.W.keepIn K (.ref f_init) = true)
    (a_told : PySem.W.findCls K (.ref C) (.type "type") "told" = some (.get (.builtin "staticmethod.__get__") (.ref p_told) .none (.ref C)))
    (r_told : PySem.W.recIn K p_told "staticmethod" = some (.ref f_told :: rest_told))
    (l_told : K.lookup f_told = some ⟨oc_told, od_told, .func (PySem.W.fnOf "told" "Rounds.told" (defArgs s_told) (defBody s_told) (defScope s_told) .none kV_told dc_told pm_told an_told cd_told ct_told), sl_told⟩)
    (c_told : PySem.W.codeIn K cd_told "Rounds.told" = true)
    (k_told : PySem.W.keepIn K (.ref f_told) = true)
    (a_rests : PySem.W.findCls K (.ref C) (.type "type") "rests" = some (.get (.builtin "staticmethod.__get__") (.ref p_rests) .none (.ref C)))
    (r_rests : PySem.W.recIn K p_rests "staticmethod" = some (.ref f_rests :: rest_rests))
    (l_rests : K.lookup f_rests = some ⟨oc_rests, od_rests, .func (PySem.W.fnOf "rests" "Rounds.rests" (defArgs s_rests) (defBody s_rests) (defScope s_rests) .none kV_rests dc_rests pm_rests an_rests cd_rests ct_rests), sl_rests⟩)
    (c_rests : PySem.W.codeIn K cd_rests "Rounds.rests" = true)
    (k_rests : PySem.W.keepIn K (.ref f_rests) = true)
    (a_modulus : PySem.W.findIn K (.ref C) "modulus" = some (some (.ref p_modulus)))
    (g_modulus : PySem.W.specialIn K (.ref p_modulus) "__get__" = some (some (.builtin "property.__get__")))
    (t_modulus : PySem.W.takesIn K (.ref p_modulus) = some true)
    (r_modulus : PySem.W.recIn K p_modulus "property" = some (.ref f_modulus :: rest_modulus))
    (l_modulus : K.lookup f_modulus = some ⟨oc_modulus, od_modulus, .func (PySem.W.fnOf "modulus" "Rounds.modulus" (defArgs s_modulus) (defBody s_modulus) (defScope s_modulus) .none kV_modulus dc_modulus pm_modulus an_modulus cd_modulus ct_modulus), sl_modulus⟩)
    (c_modulus : PySem.W.codeIn K cd_modulus "Rounds.modulus" = true)
    (k_modulus : PySem.W.keepIn K (.ref f_modulus) = true)
    (a_whole_from : PySem.W.findIn K (.ref C) "whole_from" = some (some (.ref p_whole_from)))
    (g_whole_from : PySem.W.specialIn K (.ref p_whole_from) "__get__" = some (some (.builtin "property.__get__")))
    (t_whole_from : PySem.W.takesIn K (.ref p_whole_from) = some true)
    (r_whole_from : PySem.W.recIn K p_whole_from "property" = some (.ref f_whole_from :: rest_whole_from))
    (l_whole_from : K.lookup f_whole_from = some ⟨oc_whole_from, od_whole_from, .func (PySem.W.fnOf "whole_from" "Rounds.whole_from" (defArgs s_whole_from) (defBody s_whole_from) (defScope s_whole_from) .none kV_whole_from dc_whole_from pm_whole_from an_whole_from cd_whole_from ct_whole_from), sl_whole_from⟩)
    (c_whole_from : PySem.W.codeIn K cd_whole_from "Rounds.whole_from" = true)
    (k_whole_from : PySem.W.keepIn K (.ref f_whole_from) = true)
    (a_after : PySem.W.findIn K (.ref C) "after" = some (some (.ref f_after)))
    (i_after : PySem.W.isFn K (.ref f_after) = true)
    (l_after : K.lookup f_after = some ⟨oc_after, od_after, .func (PySem.W.fnOf "after" "Rounds.after" (defArgs s_after) (defBody s_after) (defScope s_after) .none kV_after dc_after pm_after an_after cd_after ct_after), sl_after⟩)
    (c_after : PySem.W.codeIn K cd_after "Rounds.after" = true)
    (k_after : PySem.W.keepIn K (.ref f_after) = true)
    (a_members : PySem.W.findIn K (.ref C) "members" = some (some (.ref f_members)))
    (i_members : PySem.W.isFn K (.ref f_members) = true)
    (l_members : K.lookup f_members = some ⟨oc_members, od_members, .func (PySem.W.fnOf "members" "Rounds.members" (defArgs s_members) (defBody s_members) (defScope s_members) .none kV_members dc_members pm_members an_members cd_members ct_members), sl_members⟩)
    (c_members : PySem.W.codeIn K cd_members "Rounds.members" = true)
    (k_members : PySem.W.keepIn K (.ref f_members) = true)
    (a_and : PySem.W.findIn K (.ref C) "__and__" = some (some (.ref f_and)))
    (i_and : PySem.W.isFn K (.ref f_and) = true)
    (l_and : K.lookup f_and = some ⟨oc_and, od_and, .func (PySem.W.fnOf "__and__" "Rounds.__and__" (defArgs s_and) (defBody s_and) (defScope s_and) .none kV_and dc_and pm_and an_and cd_and ct_and), sl_and⟩)
    (c_and : PySem.W.codeIn K cd_and "Rounds.__and__" = true)
    (k_and : PySem.W.keepIn K (.ref f_and) = true)
    (a_or : PySem.W.findIn K (.ref C) "__or__" = some (some (.ref f_or)))
    (i_or : PySem.W.isFn K (.ref f_or) = true)
    (l_or : K.lookup f_or = some ⟨oc_or, od_or, .func (PySem.W.fnOf "__or__" "Rounds.__or__" (defArgs s_or) (defBody s_or) (defScope s_or) .none kV_or dc_or pm_or an_or cd_or ct_or), sl_or⟩)
    (c_or : PySem.W.codeIn K cd_or "Rounds.__or__" = true)
    (k_or : PySem.W.keepIn K (.ref f_or) = true)
    (a_sub : PySem.W.findIn K (.ref C) "__sub__" = some (some (.ref f_sub)))
    (i_sub : PySem.W.isFn K (.ref f_sub) = true)
    (l_sub : K.lookup f_sub = some ⟨oc_sub, od_sub, .func (PySem.W.fnOf "__sub__" "Rounds.__sub__" (defArgs s_sub) (defBody s_sub) (defScope s_sub) .none kV_sub dc_sub pm_sub an_sub cd_sub ct_sub), sl_sub⟩)
    (c_sub : PySem.W.codeIn K cd_sub "Rounds.__sub__" = true)
    (k_sub : PySem.W.keepIn K (.ref f_sub) = true)
    (a_xor : PySem.W.findIn K (.ref C) "__xor__" = some (some (.ref f_xor)))
    (i_xor : PySem.W.isFn K (.ref f_xor) = true)
    (l_xor : K.lookup f_xor = some ⟨oc_xor, od_xor, .func (PySem.W.fnOf "__xor__" "Rounds.__xor__" (defArgs s_xor) (defBody s_xor) (defScope s_xor) .none kV_xor dc_xor pm_xor an_xor cd_xor ct_xor), sl_xor⟩)
    (c_xor : PySem.W.codeIn K cd_xor "Rounds.__xor__" = true)
    (k_xor : PySem.W.keepIn K (.ref f_xor) = true)
    (a_contains : PySem.W.findIn K (.ref C) "__contains__" = some (some (.ref f_contains)))
    (i_contains : PySem.W.isFn K (.ref f_contains) = true)
    (l_contains : K.lookup f_contains = some ⟨oc_contains, od_contains, .func (PySem.W.fnOf "__contains__" "Rounds.__contains__" (defArgs s_contains) (defBody s_contains) (defScope s_contains) .none kV_contains dc_contains pm_contains an_contains cd_contains ct_contains), sl_contains⟩)
    (c_contains : PySem.W.codeIn K cd_contains "Rounds.__contains__" = true)
    (k_contains : PySem.W.keepIn K (.ref f_contains) = true)
    (a_eq : PySem.W.findIn K (.ref C) "__eq__" = some (some (.ref f_eq)))
    (i_eq : PySem.W.isFn K (.ref f_eq) = true)
    (l_eq : K.lookup f_eq = some ⟨oc_eq, od_eq, .func (PySem.W.fnOf "__eq__" "Rounds.__eq__" (defArgs s_eq) (defBody s_eq) (defScope s_eq) .none kV_eq dc_eq pm_eq an_eq cd_eq ct_eq), sl_eq⟩)
    (c_eq : PySem.W.codeIn K cd_eq "Rounds.__eq__" = true)
    (k_eq : PySem.W.keepIn K (.ref f_eq) = true)
    (a_le : PySem.W.findIn K (.ref C) "__le__" = some (some (.ref f_le)))
    (i_le : PySem.W.isFn K (.ref f_le) = true)
    (l_le : K.lookup f_le = some ⟨oc_le, od_le, .func (PySem.W.fnOf "__le__" "Rounds.__le__" (defArgs s_le) (defBody s_le) (defScope s_le) .none kV_le dc_le pm_le an_le cd_le ct_le), sl_le⟩)
    (c_le : PySem.W.codeIn K cd_le "Rounds.__le__" = true)
    (k_le : PySem.W.keepIn K (.ref f_le) = true)
    (a_bool : PySem.W.findIn K (.ref C) "__bool__" = some (some (.ref f_bool)))
    (i_bool : PySem.W.isFn K (.ref f_bool) = true)
    (l_bool : K.lookup f_bool = some ⟨oc_bool, od_bool, .func (PySem.W.fnOf "__bool__" "Rounds.__bool__" (defArgs s_bool) (defBody s_bool) (defScope s_bool) .none kV_bool dc_bool pm_bool an_bool cd_bool ct_bool), sl_bool⟩)
    (c_bool : PySem.W.codeIn K cd_bool "Rounds.__bool__" = true)
    (k_bool : PySem.W.keepIn K (.ref f_bool) = true)
    (pg : PySem.W.plainGet K C Str.empty = true)
    (hd : PySem.W.hasDictIn K C = true)
    (po : PySem.W.plainOver K C = true)
    (sa : PySem.W.findIn K (.ref C) "__setattr__" = some (some (.builtin "object.__setattr__")))
    (mk : PySem.W.makesIn K C = true)
    (kc : PySem.W.keepIn K (.ref C) = true)
    (n_flags : PySem.W.findIn K (.ref C) "_flags" = some none)
    (n_odd : PySem.W.findIn K (.ref C) "_odd" = some none)
    (sf : PySem.W.selfFirst K C = true)
    (cr1 : PySem.W.readsIn K C (.type "type") = true)
    (cr2 : PySem.W.specialIn K (.ref C) "__getattribute__" = some (some (.builtin "type.__getattribute__")))
    (hne : PySem.W.findIn K (.ref C) "__ne__" = some (some (.builtin "object.__ne__")))
    (hcl : PySem.W.findIn K (.ref C) "__class__" = some (some (.builtin "object.__class__")))
    (hgs : PySem.W.specialIn K (.builtin "object.__class__") "__get__" = some (some (.builtin "getset_descriptor.__get__")))
    (htk : PySem.W.takesIn K (.builtin "object.__class__") = some true)
    (hmr : PySem.W.mroIn K C (.type "object") = some true)
    (kCC : PySem.W.kitOne K (.ref C) (.ref C) = some true)
    (qC : PySem.W.clsIn K C = some q_C)
    (wC : q_C.mro = [.ref C, .type "object"])
    (io_BitAnd : PySem.W.findIn K (.ref C) "__iand__" = some none)
    (ib_BitAnd : PySem.W.findIn K (.type "object") "__iand__" = some none)
    (io_BitOr : PySem.W.findIn K (.ref C) "__ior__" = some none)
    (ib_BitOr : PySem.W.findIn K (.type "object") "__ior__" = some none)
    (io_Sub : PySem.W.findIn K (.ref C) "__isub__" = some none)
    (ib_Sub : PySem.W.findIn K (.type "object") "__isub__" = some none)
    (io_BitXor : PySem.W.findIn K (.ref C) "__ixor__" = some none)
    (ib_BitXor : PySem.W.findIn K (.type "object") "__ixor__" = some none)
    (aCR : PySem.W.nsIn K mainGlobals "Ratio" = some (some (.ref CR)))
    (a_R_init : PySem.W.findIn K (.ref CR) "__init__" = some (some (.ref f_R_init)))
    (i_R_init : PySem.W.isFn K (.ref f_R_init) = true)
    (l_R_init : K.lookup f_R_init = some ⟨oc_R_init, od_R_init, .func (PySem.W.fnOf "__init__" "Ratio.__init__" (defArgs s_R_init) (defBody s_R_init) (defScope s_R_init) (.ref T_i) kV_R_init dc_R_init pm_R_init an_R_init cd_R_init ct_R_init), sl_R_init⟩)
    (c_R_init : PySem.W.codeIn K cd_R_init "Ratio.__init__" = true)
    (k_R_init : PySem.W.keepIn K (.ref f_R_init) = true)
    (lT : K.lookup T_i = some ⟨oc_T, od_T, .seq #[.int 1 tk_T] n_T, sl_T⟩)
    (pgR : PySem.W.plainGet K CR Str.empty = true)
    (hdR : PySem.W.hasDictIn K CR = true)
    (poR : PySem.W.plainOver K CR = true)
    (saR : PySem.W.findIn K (.ref CR) "__setattr__" = some (some (.builtin "object.__setattr__")))
    (mkR : PySem.W.makesIn K CR = true)
    (kcR : PySem.W.keepIn K (.ref CR) = true)
    (n_top : PySem.W.findIn K (.ref CR) "_top" = some none)
    (n_bot : PySem.W.findIn K (.ref CR) "_bottom" = some none)
    (hclR : PySem.W.findIn K (.ref CR) "__class__" = some (some (.builtin "object.__class__")))
    (hmrR : PySem.W.mroIn K CR (.type "object") = some true)
    (kRT : PySem.W.kitOne K (.ref CR) (.type "int") = some false)
    (gk_MOST_MODULUS : PySem.W.nsIn K mainGlobals "MOST_MODULUS" = some (some (.int 5040 tk_MOST_MODULUS)))
    (gk_MOST_MEMBER : PySem.W.nsIn K mainGlobals "MOST_MEMBER" = some (some (.int 1000000 tk_MOST_MEMBER)))
    (gk_MOST_FIRST : PySem.W.nsIn K mainGlobals "MOST_FIRST" = some (some (.int 1000000000 tk_MOST_FIRST)))
    (gk_MOST_YIELDED : PySem.W.nsIn K mainGlobals "MOST_YIELDED" = some (some (.int 1000 tk_MOST_YIELDED)))
    (ga_IN_BOTH : PySem.W.nsIn K mainGlobals "IN_BOTH" = some (some (.ref a_IN_BOTH)))
    (lt_IN_BOTH : K.lookup a_IN_BOTH = some ⟨.type "tuple", od_IN_BOTH, .seq #[.bool false, .bool false, .bool false, .bool true] n_IN_BOTH, sl_IN_BOTH⟩)
    (ga_IN_ONE_AT_LEAST : PySem.W.nsIn K mainGlobals "IN_ONE_AT_LEAST" = some (some (.ref a_IN_ONE_AT_LEAST)))
    (lt_IN_ONE_AT_LEAST : K.lookup a_IN_ONE_AT_LEAST = some ⟨.type "tuple", od_IN_ONE_AT_LEAST, .seq #[.bool false, .bool true, .bool true, .bool true] n_IN_ONE_AT_LEAST, sl_IN_ONE_AT_LEAST⟩)
    (ga_IN_THE_FIRST_ONLY : PySem.W.nsIn K mainGlobals "IN_THE_FIRST_ONLY" = some (some (.ref a_IN_THE_FIRST_ONLY)))
    (lt_IN_THE_FIRST_ONLY : K.lookup a_IN_THE_FIRST_ONLY = some ⟨.type "tuple", od_IN_THE_FIRST_ONLY, .seq #[.bool false, .bool false, .bool true, .bool false] n_IN_THE_FIRST_ONLY, sl_IN_THE_FIRST_ONLY⟩)
    (ga_IN_JUST_ONE : PySem.W.nsIn K mainGlobals "IN_JUST_ONE" = some (some (.ref a_IN_JUST_ONE)))
    (lt_IN_JUST_ONE : K.lookup a_IN_JUST_ONE = some ⟨.type "tuple", od_IN_JUST_ONE, .seq #[.bool false, .bool true, .bool true, .bool false] n_IN_JUST_ONE, sl_IN_JUST_ONE⟩)
    (gm_gcd : PySem.W.nsIn K mainGlobals "gcd" = some (some (.builtin "math.gcd")))
    (gm_lcm : PySem.W.nsIn K mainGlobals "lcm" = some (some (.builtin "math.lcm")))
    (z_isinstance : PySem.W.nsIn K mainGlobals "isinstance" = some none)
    (z_int : PySem.W.nsIn K mainGlobals "int" = some none)
    (z_bool : PySem.W.nsIn K mainGlobals "bool" = some none)
    (z_abs : PySem.W.nsIn K mainGlobals "abs" = some none)
    (z_len : PySem.W.nsIn K mainGlobals "len" = some none)
    (z_max : PySem.W.nsIn K mainGlobals "max" = some none)
    (z_min : PySem.W.nsIn K mainGlobals "min" = some none)
    (z_all : PySem.W.nsIn K mainGlobals "all" = some none)
    (z_any : PySem.W.nsIn K mainGlobals "any" = some none)
    (z_range : PySem.W.nsIn K mainGlobals "range" = some none)
    (z_enumerate : PySem.W.nsIn K mainGlobals "enumerate" = some none)
    (z_zip : PySem.W.nsIn K mainGlobals "zip" = some none)
    (z_list : PySem.W.nsIn K mainGlobals "list" = some none)
    (z_sorted : PySem.W.nsIn K mainGlobals "sorted" = some none)
    (z_repr : PySem.W.nsIn K mainGlobals "repr" = some none) :
    ∃ fd : FuncData, (∀ (s : Shared) (v : Value), BindsTo s fd ⟨[v], []⟩ [("cells", v)]) ∧ ∀ base : Heap, K.In base → base.Ns mainGlobals mg → FnG l.prog w K mg base 15 fa fd ["cells"] (spW ⟨K, mg⟩ 1 w_law) := by
  have e := hfa.symm.trans (PySem.W.mg_of X G a_law)
  cases e
  have gC : mg "Rounds" = some (.ref C) := PySem.W.mg_of X G aC
  have F_is_int := fun_mk (x := "is_int") (qual := "is_int") (st := s_is_int) l_is_int c_is_int k_is_int
  have b_is_int := F_is_int.binds (ps := ["value"]) fun _ _ _ _ _ _ us hl => match us, hl with | [_], _ => rfl
  have F_is_int_within := fun_mk (x := "is_int_within") (qual := "is_int_within") (st := s_is_int_within) l_is_int_within c_is_int_within k_is_int_within
  have b_is_int_within := F_is_int_within.binds (ps := ["value", "least", "most"]) fun _ _ _ _ _ _ us hl => match us, hl with | [_, _, _], _ => rfl
  have F_check_ascending := fun_mk (x := "check_ascending") (qual := "check_ascending") (st := s_check_ascending) l_check_ascending c_check_ascending k_check_ascending
  have b_check_ascending := F_check_ascending.binds (ps := ["values", "most"]) fun _ _ _ _ _ _ us hl => match us, hl with | [_, _], _ => rfl
  have F_check_first := fun_mk (x := "check_first") (qual := "check_first") (st := s_check_first) l_check_first c_check_first k_check_first
  have b_check_first := F_check_first.binds (ps := ["first"]) fun _ _ _ _ _ _ us hl => match us, hl with | [_], _ => rfl
  have F_index_from := fun_mk (x := "index_from") (qual := "index_from") (st := s_index_from) l_index_from c_index_from k_index_from
  have b_index_from := F_index_from.binds (ps := ["numbers", "least"]) fun _ _ _ _ _ _ us hl => match us, hl with | [_, _], _ => rfl
  have F_next_flagged := fun_mk (x := "next_flagged") (qual := "next_flagged") (st := s_next_flagged) l_next_flagged c_next_flagged k_next_flagged
  have b_next_flagged := F_next_flagged.binds (ps := ["flags", "first"]) fun _ _ _ _ _ _ us hl => match us, hl with | [_, _], _ => rfl
  have F_next_member := fun_mk (x := "next_member") (qual := "next_member") (st := s_next_member) l_next_member c_next_member k_next_member
  have b_next_member := F_next_member.binds (ps := ["flags", "odd", "first"]) fun _ _ _ _ _ _ us hl => match us, hl with | [_, _, _], _ => rfl
  have F_chosen := fun_mk (x := "chosen") (qual := "chosen") (st := s_chosen) l_chosen c_chosen k_chosen
  have b_chosen := F_chosen.binds (ps := ["table", "in_one", "in_two"]) fun _ _ _ _ _ _ us hl => match us, hl with | [_, _, _], _ => rfl
  have F_combined := fun_mk (x := "combined") (qual := "combined") (st := s_combined) l_combined c_combined k_combined
  have b_combined := F_combined.binds (ps := ["one", "two", "table"]) fun _ _ _ _ _ _ us hl => match us, hl with | [_, _, _], _ => rfl
  have F_have_same_members := fun_mk (x := "have_same_members") (qual := "have_same_members") (st := s_have_same_members) l_have_same_members c_have_same_members k_have_same_members
  have b_have_same_members := F_have_same_members.binds (ps := ["one", "two"]) fun _ _ _ _ _ _ us hl => match us, hl with | [_, _], _ => rfl
  have F__law_purse := fun_mk (x := "_law_purse") (qual := "_law_purse") (st := s__law_purse) l__law_purse c__law_purse k__law_purse
  have b__law_purse := F__law_purse.binds (ps := ["cells", "at"]) fun _ _ _ _ _ _ us hl => match us, hl with | [_, _], _ => rfl
  have F__law_take := fun_mk (x := "_law_take") (qual := "_law_take") (st := s__law_take) l__law_take c__law_take k__law_take
  have b__law_take := F__law_take.binds (ps := ["draws", "many"]) fun _ _ _ _ _ _ us hl => match us, hl with | [_, _], _ => rfl
  have F__law_set := fun_mk (x := "_law_set") (qual := "_law_set") (st := s__law_set) l__law_set c__law_set k__law_set
  have b__law_set := F__law_set.binds (ps := ["draws", "moduli"]) fun _ _ _ _ _ _ us hl => match us, hl with | [_, _], _ => rfl
  have F__law_holds := fun_mk (x := "_law_holds") (qual := "_law_holds") (st := s__law_holds) l__law_holds c__law_holds k__law_holds
  have b__law_holds := F__law_holds.binds (ps := ["model", "number"]) fun _ _ _ _ _ _ us hl => match us, hl with | [_, _], _ => rfl
  have F__law_formed := fun_mk (x := "_law_formed") (qual := "_law_formed") (st := s__law_formed) l__law_formed c__law_formed k__law_formed
  have b__law_formed := F__law_formed.binds (ps := ["model"]) fun _ _ _ _ _ _ us hl => match us, hl with | [_], _ => rfl
  have F__law_members := fun_mk (x := "_law_members") (qual := "_law_members") (st := s__law_members) l__law_members c__law_members k__law_members
  have b__law_members := F__law_members.binds (ps := ["model", "first", "many"]) fun _ _ _ _ _ _ us hl => match us, hl with | [_, _, _], _ => rfl
  have F__law_whole := fun_mk (x := "_law_whole") (qual := "_law_whole") (st := s__law_whole) l__law_whole c__law_whole k__law_whole
  have b__law_whole := F__law_whole.binds (ps := ["model"]) fun _ _ _ _ _ _ us hl => match us, hl with | [_], _ => rfl
  have F__law_right := fun_mk (x := "_law_right") (qual := "_law_right") (st := s__law_right) l__law_right c__law_right k__law_right
  have b__law_right := F__law_right.binds (ps := ["draws"]) fun _ _ _ _ _ _ us hl => match us, hl with | [_], _ => rfl
  have F__law_several_right := fun_mk (x := "_law_several_right") (qual := "_law_several_right") (st := s__law_several_right) l__law_several_right c__law_several_right k__law_several_right
  have b__law_several_right := F__law_several_right.binds (ps := ["draws"]) fun _ _ _ _ _ _ us hl => match us, hl with | [_], _ => rfl
  have F_law := fun_mk (x := "law") (qual := "law") (st := s_law) l_law c_law k_law
  have b_law := F_law.binds (ps := ["cells"]) fun _ _ _ _ _ _ us hl => match us, hl with | [_], _ => rfl
  have F_init := fun_mk (x := "__init__") (qual := "Rounds.__init__") (st := s_init) l_init c_init k_init
  have b_init := F_init.binds (ps := ["self", "flags", "odd"]) fun _ _ _ _ _ _ us hl => match us, hl with | [_, _, _], _ => rfl
  have F_told := fun_mk (x := "told") (qual := "Rounds.told") (st := s_told) l_told c_told k_told
  have F_rests := fun_mk (x := "rests") (qual := "Rounds.rests") (st := s_rests) l_rests c_rests k_rests
  have F_modulus := fun_mk (x := "modulus") (qual := "Rounds.modulus") (st := s_modulus) l_modulus c_modulus k_modulus
  have b_modulus := F_modulus.binds (ps := ["self"]) fun _ _ _ _ _ _ us hl => match us, hl with | [_], _ => rfl
  have F_whole_from := fun_mk (x := "whole_from") (qual := "Rounds.whole_from") (st := s_whole_from) l_whole_from c_whole_from k_whole_from
  have b_whole_from := F_whole_from.binds (ps := ["self"]) fun _ _ _ _ _ _ us hl => match us, hl with | [_], _ => rfl
  have F_after := fun_mk (x := "after") (qual := "Rounds.after") (st := s_after) l_after c_after k_after
  have b_after := F_after.binds (ps := ["self", "first"]) fun _ _ _ _ _ _ us hl => match us, hl with | [_, _], _ => rfl
  have F_members := fun_mk (x := "members") (qual := "Rounds.members") (st := s_members) l_members c_members k_members
  have b_members := F_members.binds (ps := ["self", "first", "many"]) fun _ _ _ _ _ _ us hl => match us, hl with | [_, _, _], _ => rfl
  have F_and := fun_mk (x := "__and__") (qual := "Rounds.__and__") (st := s_and) l_and c_and k_and
  have b_and := F_and.binds (ps := ["self", "other"]) fun _ _ _ _ _ _ us hl => match us, hl with | [_, _], _ => rfl
  have F_or := fun_mk (x := "__or__") (qual := "Rounds.__or__") (st := s_or) l_or c_or k_or
  have b_or := F_or.binds (ps := ["self", "other"]) fun _ _ _ _ _ _ us hl => match us, hl with | [_, _], _ => rfl
  have F_sub := fun_mk (x := "__sub__") (qual := "Rounds.__sub__") (st := s_sub) l_sub c_sub k_sub
  have b_sub := F_sub.binds (ps := ["self", "other"]) fun _ _ _ _ _ _ us hl => match us, hl with | [_, _], _ => rfl
  have F_xor := fun_mk (x := "__xor__") (qual := "Rounds.__xor__") (st := s_xor) l_xor c_xor k_xor
  have b_xor := F_xor.binds (ps := ["self", "other"]) fun _ _ _ _ _ _ us hl => match us, hl with | [_, _], _ => rfl
  have F_contains := fun_mk (x := "__contains__") (qual := "Rounds.__contains__") (st := s_contains) l_contains c_contains k_contains
  have b_contains := F_contains.binds (ps := ["self", "value"]) fun _ _ _ _ _ _ us hl => match us, hl with | [_, _], _ => rfl
  have F_eq := fun_mk (x := "__eq__") (qual := "Rounds.__eq__") (st := s_eq) l_eq c_eq k_eq
  have b_eq := F_eq.binds (ps := ["self", "other"]) fun _ _ _ _ _ _ us hl => match us, hl with | [_, _], _ => rfl
  have F_le := fun_mk (x := "__le__") (qual := "Rounds.__le__") (st := s_le) l_le c_le k_le
  have b_le := F_le.binds (ps := ["self", "other"]) fun _ _ _ _ _ _ us hl => match us, hl with | [_, _], _ => rfl
  have F_bool := fun_mk (x := "__bool__") (qual := "Rounds.__bool__") (st := s_bool) l_bool c_bool k_bool
  have b_bool := F_bool.binds (ps := ["self"]) fun _ _ _ _ _ _ us hl => match us, hl with | [_], _ => rfl
  have gCR : mg "Ratio" = some (.ref CR) := PySem.W.mg_of X G aCR
  have F_R_init : FunD K "__init__" "Ratio.__init__" (defArgs s_R_init) (defBody s_R_init) (defScope s_R_init) [.int 1] [] f_R_init (PySem.W.fnOf "__init__" "Ratio.__init__" (defArgs s_R_init) (defBody s_R_init) (defScope s_R_init) (.ref T_i) kV_R_init dc_R_init pm_R_init an_R_init cd_R_init ct_R_init) := ⟨⟨_, _, _, _, _, _, _, _, _, _, rfl, l_R_init, c_R_init, .inr ⟨by simp, T_i, _, [.int 1 tk_T], n_T, rfl, lT, rfl, .cons ⟨_, rfl⟩ .nil⟩, .inl rfl⟩, k_R_init⟩
  obtain ⟨ds1, v1, b1⟩ := F_R_init.binds1 (ps := ["self", "top", "bottom"]) 2 0 (by simp) rfl fun _ _ _ _ _ _ _ us its hl hi => match us, its, hl, hi with | [_, _], [_], _, _ => ⟨_, rfl, rfl⟩
  have I : IsiT K ⟨K, mg⟩ kt := by
    refine ⟨fun a b r va vb hk ha hb => ?_, fun c b r C' hk hc => ?_⟩
    · cases a with
      | ty a =>
        cases b with
        | ty b =>
          have ha : va = .type a := ha
          have hb : vb = .type b := hb
          subst ha hb
          exact kit_ty hk
        | cls d => cases hk
      | cls c =>
        cases b with
        | ty b =>
          have hk : (if c = "Ratio" ∧ b = "int" then some false else none) = some r := hk
          obtain ⟨⟨rfl, rfl⟩, rfl⟩ := if_some hk
          obtain ⟨ha, _⟩ := ha
          have hb : vb = .type "int" := hb
          subst hb
          have e : va = .ref CR := Option.some.inj (ha.symm.trans gCR)
          subst e
          exact kRT
        | cls d =>
          have hk : (if c = "Rounds" ∧ d = "Rounds" then some true else none) = some r := hk
          · obtain ⟨⟨rfl, rfl⟩, rfl⟩ := if_some hk
            obtain ⟨ha, _⟩ := ha
            obtain ⟨hb, _⟩ := hb
            have e : va = .ref C := Option.some.inj (ha.symm.trans gC)
            subst e
            have e : vb = .ref C := Option.some.inj (hb.symm.trans gC)
            subst e
            exact kCC
    · have hc : mg c = some (.ref C') := hc
      cases b with
      | ty b =>
        have hk : (if c = "Ratio" ∧ b = "int" then some false else none) = some r := hk
        have ec := (if_some hk).1.1
        subst ec
        have e := Option.some.inj (hc.symm.trans gCR)
        cases e
        exact ⟨⟨pgR, hdR, poR, saR⟩, hclR, hgs, htk, hmrR⟩
      | cls d =>
        have hk : (if c = "Rounds" ∧ d = "Rounds" then some true else none) = some r := hk
        have ec := (if_some hk).1.1
        subst ec
        have e := Option.some.inj (hc.symm.trans gC)
        cases e
        exact ⟨⟨pg, hd, po, sa⟩, hcl, hgs, htk, hmr⟩
  let T : Tx K mg := {
    f_is_int := f_is_int
    fd_is_int := _
    F_is_int := F_is_int
    b_is_int := b_is_int
    m_is_int := PySem.W.mg_of X G a_is_int
    f_is_int_within := f_is_int_within
    fd_is_int_within := _
    F_is_int_within := F_is_int_within
    b_is_int_within := b_is_int_within
    m_is_int_within := PySem.W.mg_of X G a_is_int_within
    f_check_ascending := f_check_ascending
    fd_check_ascending := _
    F_check_ascending := F_check_ascending
    b_check_ascending := b_check_ascending
    m_check_ascending := PySem.W.mg_of X G a_check_ascending
    f_check_first := f_check_first
    fd_check_first := _
    F_check_first := F_check_first
    b_check_first := b_check_first
    m_check_first := PySem.W.mg_of X G a_check_first
    f_index_from := f_index_from
    fd_index_from := _
    F_index_from := F_index_from
    b_index_from := b_index_from
    m_index_from := PySem.W.mg_of X G a_index_from
    f_next_flagged := f_next_flagged
    fd_next_flagged := _
    F_next_flagged := F_next_flagged
    b_next_flagged := b_next_flagged
    m_next_flagged := PySem.W.mg_of X G a_next_flagged
    f_next_member := f_next_member
    fd_next_member := _
    F_next_member := F_next_member
    b_next_member := b_next_member
    m_next_member := PySem.W.mg_of X G a_next_member
    f_chosen := f_chosen
    fd_chosen := _
    F_chosen := F_chosen
    b_chosen := b_chosen
    m_chosen := PySem.W.mg_of X G a_chosen
    f_combined := f_combined
    fd_combined := _
    F_combined := F_combined
    b_combined := b_combined
    m_combined := PySem.W.mg_of X G a_combined
    f_have_same_members := f_have_same_members
    fd_have_same_members := _
    F_have_same_members := F_have_same_members
    b_have_same_members := b_have_same_members
    m_have_same_members := PySem.W.mg_of X G a_have_same_members
    f__law_purse := f__law_purse
    fd__law_purse := _
    F__law_purse := F__law_purse
    b__law_purse := b__law_purse
    m__law_purse := PySem.W.mg_of X G a__law_purse
    f__law_take := f__law_take
    fd__law_take := _
    F__law_take := F__law_take
    b__law_take := b__law_take
    m__law_take := PySem.W.mg_of X G a__law_take
    f__law_set := f__law_set
    fd__law_set := _
    F__law_set := F__law_set
    b__law_set := b__law_set
    m__law_set := PySem.W.mg_of X G a__law_set
    f__law_holds := f__law_holds
    fd__law_holds := _
    F__law_holds := F__law_holds
    b__law_holds := b__law_holds
    m__law_holds := PySem.W.mg_of X G a__law_holds
    f__law_formed := f__law_formed
    fd__law_formed := _
    F__law_formed := F__law_formed
    b__law_formed := b__law_formed
    m__law_formed := PySem.W.mg_of X G a__law_formed
    f__law_members := f__law_members
    fd__law_members := _
    F__law_members := F__law_members
    b__law_members := b__law_members
    m__law_members := PySem.W.mg_of X G a__law_members
    f__law_whole := f__law_whole
    fd__law_whole := _
    F__law_whole := F__law_whole
    b__law_whole := b__law_whole
    m__law_whole := PySem.W.mg_of X G a__law_whole
    f__law_right := f__law_right
    fd__law_right := _
    F__law_right := F__law_right
    b__law_right := b__law_right
    m__law_right := PySem.W.mg_of X G a__law_right
    f__law_several_right := f__law_several_right
    fd__law_several_right := _
    F__law_several_right := F__law_several_right
    b__law_several_right := b__law_several_right
    m__law_several_right := PySem.W.mg_of X G a__law_several_right
    f_law := fa
    fd_law := _
    F_law := F_law
    b_law := b_law
    m_law := PySem.W.mg_of X G a_law
    f_init := f_init
    fd_init := _
    F_init := F_init
    b_init := b_init
    mkk := ⟨mk, a_init, i_init, kc⟩
    f_told := f_told
    fd_told := _
    F_told := F_told
    pa_told := p_told
    sm_told := ⟨a_told, ⟨_, r_told⟩, k_told⟩
    f_rests := f_rests
    fd_rests := _
    F_rests := F_rests
    pa_rests := p_rests
    sm_rests := ⟨a_rests, ⟨_, r_rests⟩, k_rests⟩
    f_modulus := f_modulus
    fd_modulus := _
    F_modulus := F_modulus
    b_modulus := b_modulus
    pa_modulus := p_modulus
    p_modulus := ⟨a_modulus, g_modulus, t_modulus, _, r_modulus⟩
    f_whole_from := f_whole_from
    fd_whole_from := _
    F_whole_from := F_whole_from
    b_whole_from := b_whole_from
    pa_whole_from := p_whole_from
    p_whole_from := ⟨a_whole_from, g_whole_from, t_whole_from, _, r_whole_from⟩
    f_after := f_after
    fd_after := _
    F_after := F_after
    b_after := b_after
    M_after := ⟨a_after, i_after, k_after⟩
    f_members := f_members
    fd_members := _
    F_members := F_members
    b_members := b_members
    M_members := ⟨a_members, i_members, k_members⟩
    f_and := f_and
    fd_and := _
    F_and := F_and
    b_and := b_and
    M_and := ⟨(by rw [dun_and]; exact a_and), i_and⟩
    f_or := f_or
    fd_or := _
    F_or := F_or
    b_or := b_or
    M_or := ⟨(by rw [dun_or]; exact a_or), i_or⟩
    f_sub := f_sub
    fd_sub := _
    F_sub := F_sub
    b_sub := b_sub
    M_sub := ⟨(by rw [dun_sub]; exact a_sub), i_sub⟩
    f_xor := f_xor
    fd_xor := _
    F_xor := F_xor
    b_xor := b_xor
    M_xor := ⟨(by rw [dun_xor]; exact a_xor), i_xor⟩
    f_contains := f_contains
    fd_contains := _
    F_contains := F_contains
    b_contains := b_contains
    M_contains := ⟨a_contains, i_contains⟩
    f_eq := f_eq
    fd_eq := _
    F_eq := F_eq
    b_eq := b_eq
    M_eq := ⟨a_eq, i_eq⟩
    f_le := f_le
    fd_le := _
    F_le := F_le
    b_le := b_le
    M_le := ⟨a_le, i_le⟩
    f_bool := f_bool
    fd_bool := _
    F_bool := F_bool
    b_bool := b_bool
    M_bool := ⟨a_bool, i_bool⟩
    ni_BitAnd := ⟨⟨_, qC, wC⟩, (by rw [dunI_and]; exact io_BitAnd), (by rw [dunI_and]; exact ib_BitAnd)⟩
    ni_BitOr := ⟨⟨_, qC, wC⟩, (by rw [dunI_or]; exact io_BitOr), (by rw [dunI_or]; exact ib_BitOr)⟩
    ni_Sub := ⟨⟨_, qC, wC⟩, (by rw [dunI_sub]; exact io_Sub), (by rw [dunI_sub]; exact ib_Sub)⟩
    ni_BitXor := ⟨⟨_, qC, wC⟩, (by rw [dunI_xor]; exact io_BitXor), (by rw [dunI_xor]; exact ib_BitXor)⟩
    CR := CR
    f_R_init := f_R_init
    fd_R_init := _
    ds_R_init1 := ds1
    F_R_init := F_R_init
    b_R_init1 := b1
    v_R_init1 := v1
    g_Ratio := gCR
    clR := ⟨pgR, hdR, poR, saR⟩
    na_top := n_top
    na_bottom := n_bot
    mkkR := ⟨mkR, a_R_init, i_R_init, kcR⟩
    tk_MOST_MODULUS := tk_MOST_MODULUS
    g_MOST_MODULUS := PySem.W.mg_of X G gk_MOST_MODULUS
    tk_MOST_MEMBER := tk_MOST_MEMBER
    g_MOST_MEMBER := PySem.W.mg_of X G gk_MOST_MEMBER
    tk_MOST_FIRST := tk_MOST_FIRST
    g_MOST_FIRST := PySem.W.mg_of X G gk_MOST_FIRST
    tk_MOST_YIELDED := tk_MOST_YIELDED
    g_MOST_YIELDED := PySem.W.mg_of X G gk_MOST_YIELDED
    a_IN_BOTH := a_IN_BOTH
    g_IN_BOTH := PySem.W.mg_of X G ga_IN_BOTH
    kt_IN_BOTH := ⟨⟨_, _, _, lt_IN_BOTH, rfl, rfl, (by show 4 ≤ sizeLine; decide), .cons rfl (.cons rfl (.cons rfl (.cons rfl .nil)))⟩⟩
    a_IN_ONE_AT_LEAST := a_IN_ONE_AT_LEAST
    g_IN_ONE_AT_LEAST := PySem.W.mg_of X G ga_IN_ONE_AT_LEAST
    kt_IN_ONE_AT_LEAST := ⟨⟨_, _, _, lt_IN_ONE_AT_LEAST, rfl, rfl, (by show 4 ≤ sizeLine; decide), .cons rfl (.cons rfl (.cons rfl (.cons rfl .nil)))⟩⟩
    a_IN_THE_FIRST_ONLY := a_IN_THE_FIRST_ONLY
    g_IN_THE_FIRST_ONLY := PySem.W.mg_of X G ga_IN_THE_FIRST_ONLY
    kt_IN_THE_FIRST_ONLY := ⟨⟨_, _, _, lt_IN_THE_FIRST_ONLY, rfl, rfl, (by show 4 ≤ sizeLine; decide), .cons rfl (.cons rfl (.cons rfl (.cons rfl .nil)))⟩⟩
    a_IN_JUST_ONE := a_IN_JUST_ONE
    g_IN_JUST_ONE := PySem.W.mg_of X G ga_IN_JUST_ONE
    kt_IN_JUST_ONE := ⟨⟨_, _, _, lt_IN_JUST_ONE, rfl, rfl, (by show 4 ≤ sizeLine; decide), .cons rfl (.cons rfl (.cons rfl (.cons rfl .nil)))⟩⟩
    g_gcd := PySem.W.mg_of X G gm_gcd
    g_lcm := PySem.W.mg_of X G gm_lcm
    z_isinstance := PySem.W.mg_none_of X G z_isinstance
    z_int := PySem.W.mg_none_of X G z_int
    z_bool := PySem.W.mg_none_of X G z_bool
    z_abs := PySem.W.mg_none_of X G z_abs
    z_len := PySem.W.mg_none_of X G z_len
    z_max := PySem.W.mg_none_of X G z_max
    z_min := PySem.W.mg_none_of X G z_min
    z_all := PySem.W.mg_none_of X G z_all
    z_any := PySem.W.mg_none_of X G z_any
    z_range := PySem.W.mg_none_of X G z_range
    z_enumerate := PySem.W.mg_none_of X G z_enumerate
    z_zip := PySem.W.mg_none_of X G z_zip
    z_list := PySem.W.mg_none_of X G z_list
    z_sorted := PySem.W.mg_none_of X G z_sorted
    z_repr := PySem.W.mg_none_of X G z_repr
    C := C
    mc := .type "type"
    g_Rounds := gC
    cl := ⟨pg, hd, po, sa⟩
    na_flags := n_flags
    na_odd := n_odd
    own := sf
    cr := ⟨cr1, cr2⟩
    hne := hne
    hmo := hmr
    isi := I }
  exact ⟨_, fun s v => .of_eq (fd := (PySem.W.fnOf "law" "law" (defArgs s_law) (defBody s_law) (defScope s_law) .none kV_law dc_law pm_law an_law cd_law ct_law)) rfl, fun base _ _ => ok_law T⟩
end K1
set_option Elab.async false
set_option linter.all false
set_option maxRecDepth 100000
namespace K1
open PySem PySem.Spec PyProof.Rows L2 DL
theorem ints_is {mg : MG} {H : Hp} : ∀ ns : List Int, IsL mg [] H (ns.map V.int) (ns.map D.int)
  | [] => .nil
  | n :: ns => .cons (.int n) (ints_is ns)
def spLaw (K : PySem.W.Frag) : Sp := fun vs H Q _ => ∃ (a : Addr) (ns : List Int), vs = [.ref a] ∧ SqL K H a (ns.map V.int) ∧ ∀ H', Q (.bl true) H'
theorem law_sp {K : PySem.W.Frag} {mg : Str → Option Value} {vs : List V} {H : Hp} {Q : VK} {E : XK} (h : spLaw K vs H Q E) : spW ⟨K, mg⟩ 1 w_law vs H Q E := by
  obtain ⟨a, ns, rfl, hs, k⟩ := h
  have hi : Is ⟨K, mg⟩ [] H (.ref a) (.scr (ns.map D.int)) := by
    rcases hs with r | r
    · exact .scr (by simp) r (ints_is ns)
    · exact .scrK (fun H' => .inr r) (ints_is ns)
  refine ⟨[], [], [.scr (ns.map D.int)], fun d _ => d = .bl true, ⟨rfl, List.nodup_nil, fun i a ds e => by simp at e⟩, .cons hi .nil, rfl, ⟨fun d hd => ?_, fun S' => rfl⟩, fun d S' A' v H' g R hd e => ?_⟩
  · obtain ⟨i, _, rfl⟩ := List.mem_map.mp hd
    exact ⟨i, rfl⟩
  · subst e
    cases hd
    exact k H'
theorem walk {l : PySem.W.OpenLaw} {q : Program} {loose : List Str} {XP : (Str → Option Value) → Heap → Prop} {YP : World → Heap → Prop} {d : DefRec} {K : Params → PySem.W.Frag} (hn : l.most = some 63) (hdf : d.params.defaults = [])
    (hY : ∀ (w : World) (h : Heap), YP w h → (K w.params).In h)
    (F : ∀ (w : World) (mg : Str → Option Value) (fa : Addr) (h : Heap), (K w.params).In h → h.Ns mainGlobals mg → mg d.name = some (.ref fa) →
      ∃ fd : FuncData, (∀ (s : Shared) (u : Value), BindsTo s fd ⟨[u], []⟩ [("cells", u)]) ∧ ∀ base : Heap, (K w.params).In base → base.Ns mainGlobals mg → FnG l.prog w (K w.params) mg base 15 fa fd ["cells"] (spW ⟨K w.params, mg⟩ 1 w_law)) :
    PySem.W.WalkO q loose XP YP l.row.toRowW d [] (fun f vs => PySem.call f vs) := by
  refine walkG (n := 63) (k := 15) (x := "cells") (sp := fun w => spLaw (K w.params)) hn (by decide) hdf ⟨rfl, by decide, by decide⟩ hY (fun w mg fa h a b c => ?_) (fun _ _ a ns hl _ hS => ⟨a, ns, rfl, hS, fun _ => rfl⟩)
  obtain ⟨fd, h1, h2⟩ := F w mg fa h a b c
  exact ⟨fd, h1, fun base h3 h4 => (h2 base h3 h4).impG fun vs H Q h => law_sp h⟩
end K1
open PySem PySem.W PyProof.Rows
set_option maxRecDepth 100000 in
set_option maxHeartbeats 0 in
theorem PySem.Challenge.cw_loopbounds_k57_rounds_asked_holds : PySem.Challenge.rw_loopbounds_k57_rounds_asked.Holds := by
  w_on; o_law; k_head; (case hw => w_witness2)
  k_fill
  refine K1.walk (l := PySem.Challenge.rw_loopbounds_k57_rounds_asked) rfl rfl (fun w h Y => PySem.W.kIn_of Y) ?F
  case F =>
    intro w mg fa h KX G hmg
    refine' K1.all_mk KX G hmg ?x_aC ?x_a_is_int ?x_l_is_int ?x_c_is_int ?x_k_is_int ?x_a_is_int_within ?x_l_is_int_within ?x_c_is_int_within ?x_k_is_int_within ?x_a_check_ascending ?x_l_check_ascending ?x_c_check_ascending ?x_k_check_ascending ?x_a_check_first ?x_l_check_first ?x_c_check_first ?x_k_check_first ?x_a_index_from ?x_l_index_from ?x_c_index_from ?x_k_index_from ?x_a_next_flagged ?x_l_next_flagged ?x_c_next_flagged ?x_k_next_flagged ?x_a_next_member ?x_l_next_member ?x_c_next_member ?x_k_next_member ?x_a_chosen ?x_l_chosen ?x_c_chosen ?x_k_chosen ?x_a_combined ?x_l_combined ?x_c_combined ?x_k_combined ?x_a_have_same_members ?x_l_have_same_members ?x_c_have_same_members ?x_k_have_same_members ?x_a__law_purse ?x_l__law_purse ?x_c__law_purse ?x_k__law_purse ?x_a__law_take ?x_l__law_take ?x_c__law_take ?x_k__law_take ?x_a__law_set ?x_l__law_set ?x_c__law_set ?x_k__law_set ?x_a__law_holds ?x_l__law_holds ?x_c__law_holds ?x_k__law_holds ?x_a__law_formed ?x_l__law_formed ?x_c__law_formed ?x_k__law_formed ?x_a__law_members ?x_l__law_members ?x_c__law_members ?x_k__law_members ?x_a__law_whole ?x_l__law_whole ?x_c__law_whole ?x_k__law_whole ?x_a__law_right ?x_l__law_right ?x_c__law_right ?x_k__law_right ?x_a__law_several_right ?x_l__law_several_right ?x_c__law_several_right ?x_k__law_several_right ?x_a_law ?x_l_law ?x_c_law ?x_k_law ?x_a_init ?x_i_init ?x_l_init ?x_c_init ?x_k_init ?x_a_told ?x_r_told ?x_l_told ?x_c_told ?x_k_told ?x_a_rests ?x_r_rests ?x_l_rests ?x_c_rests ?x_k_rests ?x_a_modulus ?x_g_modulus ?x_t_modulus ?x_r_modulus ?x_l_modulus ?x_c_modulus ?x_k_modulus ?x_a_whole_from ?x_g_whole_from ?x_t_whole_from ?x_r_whole_from ?x_l_whole_from ?x_c_whole_from ?x_k_whole_from ?x_a_after ?x_i_after ?x_l_after ?x_c_after ?x_k_after ?x_a_members ?x_i_members ?x_l_members ?x_c_members ?x_k_members ?x_a_and ?x_i_and ?x_l_and ?x_c_and ?x_k_and ?x_a_or ?x_i_or ?x_l_or ?x_c_or ?x_k_or ?x_a_sub ?x_i_sub ?x_l_sub ?x_c_sub ?x_k_sub ?x_a_xor ?x_i_xor ?x_l_xor ?x_c_xor ?x_k_xor ?x_a_contains ?x_i_contains ?x_l_contains ?x_c_contains ?x_k_contains ?x_a_eq ?x_i_eq ?x_l_eq ?x_c_eq ?x_k_eq ?x_a_le ?x_i_le ?x_l_le ?x_c_le ?x_k_le ?x_a_bool ?x_i_bool ?x_l_bool ?x_c_bool ?x_k_bool ?x_pg ?x_hd ?x_po ?x_sa ?x_mk ?x_kc ?x_n_flags ?x_n_odd ?x_sf ?x_cr1 ?x_cr2 ?x_hne ?x_hcl ?x_hgs ?x_htk ?x_hmr ?x_kCC ?x_qC ?x_wC ?x_io_BitAnd ?x_ib_BitAnd ?x_io_BitOr ?x_ib_BitOr ?x_io_Sub ?x_ib_Sub ?x_io_BitXor ?x_ib_BitXor ?x_aCR ?x_a_R_init ?x_i_R_init ?x_l_R_init ?x_c_R_init ?x_k_R_init ?x_lT ?x_pgR ?x_hdR ?x_poR ?x_saR ?x_mkR ?x_kcR ?x_n_top ?x_n_bot ?x_hclR ?x_hmrR ?x_kRT ?x_gk_MOST_MODULUS ?x_gk_MOST_MEMBER ?x_gk_MOST_FIRST ?x_gk_MOST_YIELDED ?x_ga_IN_BOTH ?x_lt_IN_BOTH ?x_ga_IN_ONE_AT_LEAST ?x_lt_IN_ONE_AT_LEAST ?x_ga_IN_THE_FIRST_ONLY ?x_lt_IN_THE_FIRST_ONLY ?x_ga_IN_JUST_ONE ?x_lt_IN_JUST_ONE ?x_gm_gcd ?x_gm_lcm ?x_z_isinstance ?x_z_int ?x_z_bool ?x_z_abs ?x_z_len ?x_z_max ?x_z_min ?x_z_all ?x_z_any ?x_z_range ?x_z_enumerate ?x_z_zip ?x_z_list ?x_z_sorted ?x_z_repr
    (case x_aC => k_is)
    (case x_a_is_int => k_is)
    (case x_l_is_int => k_is)
    (case x_c_is_int => k_is)
    (case x_k_is_int => k_is)
    (case x_a_is_int_within => k_is)
    (case x_l_is_int_within => k_is)
    (case x_c_is_int_within => k_is)
    (case x_k_is_int_within => k_is)
    (case x_a_check_ascending => k_is)
    (case x_l_check_ascending => k_is)
    (case x_c_check_ascending => k_is)
    (case x_k_check_ascending => k_is)
    (case x_a_check_first => k_is)
    (case x_l_check_first => k_is)
    (case x_c_check_first => k_is)
    (case x_k_check_first => k_is)
    (case x_a_index_from => k_is)
    (case x_l_index_from => k_is)
    (case x_c_index_from => k_is)
    (case x_k_index_from => k_is)
    (case x_a_next_flagged => k_is)
    (case x_l_next_flagged => k_is)
    (case x_c_next_flagged => k_is)
    (case x_k_next_flagged => k_is)
    (case x_a_next_member => k_is)
    (case x_l_next_member => k_is)
    (case x_c_next_member => k_is)
    (case x_k_next_member => k_is)
    (case x_a_chosen => k_is)
    (case x_l_chosen => k_is)
    (case x_c_chosen => k_is)
    (case x_k_chosen => k_is)
    (case x_a_combined => k_is)
    (case x_l_combined => k_is)
    (case x_c_combined => k_is)
    (case x_k_combined => k_is)
    (case x_a_have_same_members => k_is)
    (case x_l_have_same_members => k_is)
    (case x_c_have_same_members => k_is)
    (case x_k_have_same_members => k_is)
    (case x_a__law_purse => k_is)
    (case x_l__law_purse => k_is)
    (case x_c__law_purse => k_is)
    (case x_k__law_purse => k_is)
    (case x_a__law_take => k_is)
    (case x_l__law_take => k_is)
    (case x_c__law_take => k_is)
    (case x_k__law_take => k_is)
    (case x_a__law_set => k_is)
    (case x_l__law_set => k_is)
    (case x_c__law_set => k_is)
    (case x_k__law_set => k_is)
    (case x_a__law_holds => k_is)
    (case x_l__law_holds => k_is)
    (case x_c__law_holds => k_is)
    (case x_k__law_holds => k_is)
    (case x_a__law_formed => k_is)
    (case x_l__law_formed => k_is)
    (case x_c__law_formed => k_is)
    (case x_k__law_formed => k_is)
    (case x_a__law_members => k_is)
    (case x_l__law_members => k_is)
    (case x_c__law_members => k_is)
    (case x_k__law_members => k_is)
    (case x_a__law_whole => k_is)
    (case x_l__law_whole => k_is)
    (case x_c__law_whole => k_is)
    (case x_k__law_whole => k_is)
    (case x_a__law_right => k_is)
    (case x_l__law_right => k_is)
    (case x_c__law_right => k_is)
    (case x_k__law_right => k_is)
    (case x_a__law_several_right => k_is)
    (case x_l__law_several_right => k_is)
    (case x_c__law_several_right => k_is)
    (case x_k__law_several_right => k_is)
    (case x_a_law => k_is)
    (case x_l_law => k_is)
    (case x_c_law => k_is)
    (case x_k_law => k_is)
    (case x_a_init => k_is)
    (case x_i_init => k_is)
    (case x_l_init => k_is)
    (case x_c_init => k_is)
    (case x_k_init => k_is)
    (case x_a_told => k_is)
    (case x_r_told => k_is)
    (case x_l_told => k_is)
    (case x_c_told => k_is)
    (case x_k_told => k_is)
    (case x_a_rests => k_is)
    (case x_r_rests => k_is)
    (case x_l_rests => k_is)
    (case x_c_rests => k_is)
    (case x_k_rests => k_is)
    (case x_a_modulus => k_is)
    (case x_g_modulus => k_is)
    (case x_t_modulus => k_is)
    (case x_r_modulus => k_is)
    (case x_l_modulus => k_is)
    (case x_c_modulus => k_is)
    (case x_k_modulus => k_is)
    (case x_a_whole_from => k_is)
    (case x_g_whole_from => k_is)
    (case x_t_whole_from => k_is)
    (case x_r_whole_from => k_is)
    (case x_l_whole_from => k_is)
    (case x_c_whole_from => k_is)
    (case x_k_whole_from => k_is)
    (case x_a_after => k_is)
    (case x_i_after => k_is)
    (case x_l_after => k_is)
    (case x_c_after => k_is)
    (case x_k_after => k_is)
    (case x_a_members => k_is)
    (case x_i_members => k_is)
    (case x_l_members => k_is)
    (case x_c_members => k_is)
    (case x_k_members => k_is)
    (case x_a_and => k_is)
    (case x_i_and => k_is)
    (case x_l_and => k_is)
    (case x_c_and => k_is)
    (case x_k_and => k_is)
    (case x_a_or => k_is)
    (case x_i_or => k_is)
    (case x_l_or => k_is)
    (case x_c_or => k_is)
    (case x_k_or => k_is)
    (case x_a_sub => k_is)
    (case x_i_sub => k_is)
    (case x_l_sub => k_is)
    (case x_c_sub => k_is)
    (case x_k_sub => k_is)
    (case x_a_xor => k_is)
    (case x_i_xor => k_is)
    (case x_l_xor => k_is)
    (case x_c_xor => k_is)
    (case x_k_xor => k_is)
    (case x_a_contains => k_is)
    (case x_i_contains => k_is)
    (case x_l_contains => k_is)
    (case x_c_contains => k_is)
    (case x_k_contains => k_is)
    (case x_a_eq => k_is)
    (case x_i_eq => k_is)
    (case x_l_eq => k_is)
    (case x_c_eq => k_is)
    (case x_k_eq => k_is)
    (case x_a_le => k_is)
    (case x_i_le => k_is)
    (case x_l_le => k_is)
    (case x_c_le => k_is)
    (case x_k_le => k_is)
    (case x_a_bool => k_is)
    (case x_i_bool => k_is)
    (case x_l_bool => k_is)
    (case x_c_bool => k_is)
    (case x_k_bool => k_is)
    (case x_pg => k_is)
    (case x_hd => k_is)
    (case x_po => k_is)
    (case x_sa => k_is)
    (case x_mk => k_is)
    (case x_kc => k_is)
    (case x_n_flags => k_is)
    (case x_n_odd => k_is)
    (case x_sf => k_is)
    (case x_cr1 => k_is)
    (case x_cr2 => k_is)
    (case x_hne => k_is)
    (case x_hcl => k_is)
    (case x_hgs => k_is)
    (case x_htk => k_is)
    (case x_hmr => k_is)
    (case x_kCC => kit_is)
    (case x_qC => k_is)
    (case x_wC => rfl)
    (case x_io_BitAnd => k_is)
    (case x_ib_BitAnd => k_is)
    (case x_io_BitOr => k_is)
    (case x_ib_BitOr => k_is)
    (case x_io_Sub => k_is)
    (case x_ib_Sub => k_is)
    (case x_io_BitXor => k_is)
    (case x_ib_BitXor => k_is)
    (case x_aCR => k_is)
    (case x_a_R_init => k_is)
    (case x_i_R_init => k_is)
    (case x_l_R_init => k_is)
    (case x_c_R_init => k_is)
    (case x_k_R_init => k_is)
    (case x_lT => k_is)
    (case x_pgR => k_is)
    (case x_hdR => k_is)
    (case x_poR => k_is)
    (case x_saR => k_is)
    (case x_mkR => k_is)
    (case x_kcR => k_is)
    (case x_n_top => k_is)
    (case x_n_bot => k_is)
    (case x_hclR => k_is)
    (case x_hmrR => k_is)
    (case x_kRT => kit_is)
    (case x_gk_MOST_MODULUS => k_is)
    (case x_gk_MOST_MEMBER => k_is)
    (case x_gk_MOST_FIRST => k_is)
    (case x_gk_MOST_YIELDED => k_is)
    (case x_ga_IN_BOTH => k_is)
    (case x_lt_IN_BOTH => k_is)
    (case x_ga_IN_ONE_AT_LEAST => k_is)
    (case x_lt_IN_ONE_AT_LEAST => k_is)
    (case x_ga_IN_THE_FIRST_ONLY => k_is)
    (case x_lt_IN_THE_FIRST_ONLY => k_is)
    (case x_ga_IN_JUST_ONE => k_is)
    (case x_lt_IN_JUST_ONE => k_is)
    (case x_gm_gcd => k_is)
    (case x_gm_lcm => k_is)
    (case x_z_isinstance => k_is)
    (case x_z_int => k_is)
    (case x_z_bool => k_is)
    (case x_z_abs => k_is)
    (case x_z_len => k_is)
    (case x_z_max => k_is)
    (case x_z_min => k_is)
    (case x_z_all => k_is)
    (case x_z_any => k_is)
    (case x_z_range => k_is)
    (case x_z_enumerate => k_is)
    (case x_z_zip => k_is)
    (case x_z_list => k_is)
    (case x_z_sorted => k_is)
    (case x_z_repr => k_is)
