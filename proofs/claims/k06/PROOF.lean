import PyProof.Rows.All
import Wide.All
import OpenK.AllK
import Wide.FinOn
import HandS.ForMost
import HandS.ForExc
import HandS.ExcInit
import HandS.ExcField
import HandS.ExcIs
import HandS.IsInst
import HandS.TupAny
import HandS.Deep
import HandS.Conv
import HandS.Text
import HandS.Iter
import HandS.Style
import HandS.WordsExc
import KE.KExcIs
import PySem.Challenge.RW_stillrounds_k06_texts_of_worlds
set_option Elab.async false
set_option linter.all false
set_option maxRecDepth 100000
set_option maxHeartbeats 4000000
/-! Den: plain values and plain heaps beside the machine's own; a program's parts as plain functions over them. -/
namespace Den
open PySem L2

/-! ### 1. values, objects, states, results: nothing of the machine -/
inductive D where
  | non | bl (b : Bool) | int (i : Int) | str (x : Str) | tup (xs : List D) | ro (xs : List D) | ref (n : Nat) | ty (n : String) | cls (n : Str)
  deriving Inhabited
inductive Ob where
  | lst (xs : List D) | dct (kvs : List (Key × D)) | fdct (kvs : List (Key × D))
structure DS where
  loc : List (Option D)
  h : List Ob
structure Xn where
  cls : Str
  fs : List (Str × D)
inductive Res (α : Type) where
  | ok (a : α) (S : DS) | exc (e : Xn) (S : DS) | stuck
inductive Fl where
  | next | ret (d : D) | brk | cont
namespace Res
def bind {α β : Type} (r : Res α) (k : α → DS → Res β) : Res β := match r with
  | .ok a S => k a S
  | .exc e S => .exc e S
  | .stuck => .stuck
def map {α β : Type} (f : α → β) (r : Res α) : Res β := r.bind fun a S => .ok (f a) S
@[simp] theorem bind_ok {α β : Type} (a : α) (S : DS) (k : α → DS → Res β) : (Res.ok a S).bind k = k a S := rfl
@[simp] theorem bind_exc {α β : Type} (e : Xn) (S : DS) (k : α → DS → Res β) : (Res.exc e S : Res α).bind k = .exc e S := rfl
@[simp] theorem bind_stuck {α β : Type} (k : α → DS → Res β) : (Res.stuck : Res α).bind k = .stuck := rfl
end Res
abbrev DE := DS → Res D
abbrev DT := DS → Res Bool
abbrev DA := DS → Res (List D)
abbrev DSt := DS → Res Fl
/-- a def: its arguments, the objects; what it gives, with the objects behind it -/
abbrev Fn := List D → List Ob → Res D

/-! ### 2. how they stand in the machine -/
section
variable (K : PySem.W.Frag) (cm : Str → Value)
/-- a list that nobody writes -/
def SqR (H : Hp) (a : Addr) (xs : List V) : Prop :=
  (∃ o, H a = some (.frz o (.lst xs))) ∨
    ∃ (o : Obj) (its : Array Value) (n : Nat), K.lookup a = some o ∧ o.cls = .type "list" ∧ o.dict = none ∧ o.data = .seq its n ∧ its.size ≤ sizeLine ∧ Vals xs its.toList
mutual
inductive Rep (L : List Addr) (H : Hp) : D → V → Prop
  | non : Rep L H .non .non
  | bl (b : Bool) : Rep L H (.bl b) (.bl b)
  | int (i : Int) : Rep L H (.int i) (.int i)
  | str (x : Str) : Rep L H (.str x) (.str x)
  | ty (n : String) : Rep L H (.ty n) (.ty n)
  | cls {n : Str} {a : Addr} : cm n = .ref a → Rep L H (.cls n) (.ref a)
  | tup {xs : List D} {vs : List V} {a : Addr} : SqT K H a vs → Reps L H xs vs → Rep L H (.tup xs) (.ref a)
  | ro {xs : List D} {vs : List V} {a : Addr} : SqR K H a vs → Reps L H xs vs → Rep L H (.ro xs) (.ref a)
  | ref {n : Nat} {a : Addr} : L[n]? = some a → Rep L H (.ref n) (.ref a)
inductive Reps (L : List Addr) (H : Hp) : List D → List V → Prop
  | nil : Reps L H [] []
  | cons {d : D} {ds : List D} {v : V} {vs : List V} : Rep L H d v → Reps L H ds vs → Reps L H (d :: ds) (v :: vs)
end
/-- a dict's entries -/
inductive RepK (L : List Addr) (H : Hp) : List (Key × D) → List (Key × V) → Prop
  | nil : RepK L H [] []
  | cons {k : Key} {d : D} {v : V} {ds : List (Key × D)} {vs : List (Key × V)} : Rep K cm L H d v → RepK L H ds vs → RepK L H ((k, d) :: ds) ((k, v) :: vs)
def ObR (L : List Addr) (H : Hp) (a : Addr) : Ob → Prop
  | .lst ds => ∃ vs, H a = some (.lst vs) ∧ Reps K cm L H ds vs
  | .dct ds => ∃ vs, H a = some (.dK vs) ∧ RepK K cm L H ds vs
  | .fdct ds => ∃ o vs, H a = some (.frz o (.dK vs)) ∧ RepK K cm L H ds vs
structure HAb (L : List Addr) (H : Hp) (h : List Ob) : Prop where
  nd : L.Nodup
  len : L.length = h.length
  obs : ∀ (n : Nat) (ob : Ob) (a : Addr), h[n]? = some ob → L[n]? = some a → ObR K cm L H a ob
def LocR (L : List Addr) (H : Hp) (ls : List (Option D)) (σ : St) : Prop :=
  ls.length = σ.length ∧ ∀ (i : Nat) (d : D), ls[i]? = some (some d) → ∃ v, σ[i]? = some (some v) ∧ Rep K cm L H d v
structure AbS (L : List Addr) (H : Hp) (S : DS) (σ : St) : Prop where
  hp : HAb K cm L H S.h
  loc : LocR K cm L H S.loc σ
/-- the heap has gone on -/
structure Ext (L : List Addr) (H : Hp) (L' : List Addr) (H' : Hp) : Prop where
  pre : ∃ M, L' = L ++ M ∧ ∀ a ∈ M, H a = none
  tup : ∀ a vs, SqT K H a vs → SqT K H' a vs
  rol : ∀ a vs, SqR K H a vs → SqR K H' a vs
  oth : ∀ a o, a ∉ L → H a = some o → H' a = some o
  thr : ∀ a o, H a = some o → ∃ o', H' a = some o'
  frz : ∀ a o u, H a = some (.frz o u) → H' a = some (.frz o u)
/-- an exception: its class, its own dict -/
def XnR (L : List Addr) (H : Hp) (e : Xn) (c : Value) (dx : Option Addr) : Prop :=
  c = cm e.cls ∧ ((e.fs = [] ∧ dx = none) ∨ ∃ d vs, dx = some d ∧ H d = some (.xd vs) ∧ ∀ f x, e.fs.lookup f = some x → ∃ v, vs.lookup f = some v ∧ Rep K cm L H x v)
end

section
variable {K : PySem.W.Frag} {cm : Str → Value} {L L' L1 L2' : List Addr} {H H' H1 H2 : Hp} {S S' : DS} {σ : St}
theorem Ext.refl : Ext K L H L H := ⟨⟨[], by simp, by simp⟩, fun _ _ h => h, fun _ _ h => h, fun _ _ _ h => h, fun _ o h => ⟨o, h⟩, fun _ _ _ h => h⟩
theorem Ext.trans (a : Ext K L H L1 H1) (b : Ext K L1 H1 L' H') : Ext K L H L' H' := by
  obtain ⟨M1, e1, n1⟩ := a.pre
  obtain ⟨M2, e2, n2⟩ := b.pre
  have nn : ∀ x, H1 x = none → H x = none := fun x q => by
    cases z : H x with
    | none => rfl
    | some o =>
      obtain ⟨o', z'⟩ := a.thr x o z
      rw [q] at z'; cases z'
  refine ⟨⟨M1 ++ M2, by rw [e2, e1, List.append_assoc], fun x hx => ?_⟩, fun x vs h => b.tup x vs (a.tup x vs h), fun x vs h => b.rol x vs (a.rol x vs h), fun x o hx h => ?_, fun x o h => ?_, fun x o u h => b.frz x o u (a.frz x o u h)⟩
  · rcases List.mem_append.mp hx with q | q
    · exact n1 x q
    · exact nn x (n2 x q)
  · refine b.oth x o (fun q => ?_) (a.oth x o hx h)
    rw [e1] at q
    rcases List.mem_append.mp q with q | q
    · exact hx q
    · rw [n1 x q] at h; cases h
  · obtain ⟨o1, h1⟩ := a.thr x o h
    exact b.thr x o1 h1
theorem Ext.ix (a : Ext K L H L' H') {n : Nat} {x : Addr} (h : L[n]? = some x) : L'[n]? = some x := by
  obtain ⟨M, e, _⟩ := a.pre
  rw [e, List.getElem?_append_left (List.getElem?_eq_some_iff.mp h).1]
  exact h
/-- what values lean on -/
structure ExtW (K : PySem.W.Frag) (L : List Addr) (H : Hp) (L' : List Addr) (H' : Hp) : Prop where
  pre : ∃ M, L' = L ++ M
  tup : ∀ a vs, SqT K H a vs → SqT K H' a vs
  rol : ∀ a vs, SqR K H a vs → SqR K H' a vs
theorem Ext.w (e : Ext K L H L' H') : ExtW K L H L' H' := ⟨let ⟨M, q, _⟩ := e.pre; ⟨M, q⟩, e.tup, e.rol⟩
theorem ExtW.ix (a : ExtW K L H L' H') {n : Nat} {x : Addr} (h : L[n]? = some x) : L'[n]? = some x := by
  obtain ⟨M, e⟩ := a.pre
  rw [e, List.getElem?_append_left (List.getElem?_eq_some_iff.mp h).1]
  exact h
mutual
theorem Rep.monoW (e : ExtW K L H L' H') : ∀ {d : D} {v : V}, Rep K cm L H d v → Rep K cm L' H' d v
  | _, _, .non => .non
  | _, _, .bl b => .bl b
  | _, _, .int i => .int i
  | _, _, .str x => .str x
  | _, _, .ty n => .ty n
  | _, _, .cls h => .cls h
  | _, _, .tup h r => .tup (e.tup _ _ h) (Reps.monoW e r)
  | _, _, .ro h r => .ro (e.rol _ _ h) (Reps.monoW e r)
  | _, _, .ref h => .ref (e.ix h)
theorem Reps.monoW (e : ExtW K L H L' H') : ∀ {ds : List D} {vs : List V}, Reps K cm L H ds vs → Reps K cm L' H' ds vs
  | _, _, .nil => .nil
  | _, _, .cons r t => .cons (Rep.monoW e r) (Reps.monoW e t)
end
theorem RepK.monoW (e : ExtW K L H L' H') : ∀ {ds : List (Key × D)} {vs : List (Key × V)}, RepK K cm L H ds vs → RepK K cm L' H' ds vs
  | _, _, .nil => .nil
  | _, _, .cons r t => .cons (r.monoW e) (RepK.monoW e t)
theorem LocR.monoW {ls : List (Option D)} (e : ExtW K L H L' H') (h : LocR K cm L H ls σ) : LocR K cm L' H' ls σ :=
  ⟨h.1, fun i d q => let ⟨v, a, r⟩ := h.2 i d q; ⟨v, a, r.monoW e⟩⟩
mutual
theorem Rep.mono (e : Ext K L H L' H') : ∀ {d : D} {v : V}, Rep K cm L H d v → Rep K cm L' H' d v
  | _, _, .non => .non
  | _, _, .bl b => .bl b
  | _, _, .int i => .int i
  | _, _, .str x => .str x
  | _, _, .ty n => .ty n
  | _, _, .cls h => .cls h
  | _, _, .tup h r => .tup (e.tup _ _ h) (Reps.mono e r)
  | _, _, .ro h r => .ro (e.rol _ _ h) (Reps.mono e r)
  | _, _, .ref h => .ref (e.ix h)
theorem Reps.mono (e : Ext K L H L' H') : ∀ {ds : List D} {vs : List V}, Reps K cm L H ds vs → Reps K cm L' H' ds vs
  | _, _, .nil => .nil
  | _, _, .cons r t => .cons (Rep.mono e r) (Reps.mono e t)
end
theorem RepK.mono (e : Ext K L H L' H') : ∀ {ds : List (Key × D)} {vs : List (Key × V)}, RepK K cm L H ds vs → RepK K cm L' H' ds vs
  | _, _, .nil => .nil
  | _, _, .cons r t => .cons (r.mono e) (RepK.mono e t)
theorem LocR.mono {ls : List (Option D)} (e : Ext K L H L' H') (h : LocR K cm L H ls σ) : LocR K cm L' H' ls σ :=
  ⟨h.1, fun i d q => let ⟨v, a, r⟩ := h.2 i d q; ⟨v, a, r.mono e⟩⟩
theorem Reps.length : ∀ {ds : List D} {vs : List V}, Reps K cm L H ds vs → ds.length = vs.length
  | _, _, .nil => rfl
  | _, _, .cons _ t => by rw [List.length_cons, List.length_cons, Reps.length t]
theorem Reps.get : ∀ {ds : List D} {vs : List V} {i : Nat} {d : D}, Reps K cm L H ds vs → ds[i]? = some d → ∃ v, vs[i]? = some v ∧ Rep K cm L H d v
  | _, _, _, _, .nil, q => by simp at q
  | _, _, 0, _, .cons r _, q => by simp at q; subst q; exact ⟨_, rfl, r⟩
  | _, _, i + 1, _, .cons _ t, q => by
    obtain ⟨v, a, r⟩ := Reps.get (i := i) t (by simpa using q)
    exact ⟨v, by simpa using a, r⟩
theorem Reps.back : ∀ {ds : List D} {vs : List V} {i : Nat} {v : V}, Reps K cm L H ds vs → vs[i]? = some v → ∃ d, ds[i]? = some d ∧ Rep K cm L H d v
  | _, _, _, _, .nil, q => by simp at q
  | _, _, 0, _, .cons r _, q => by simp at q; subst q; exact ⟨_, rfl, r⟩
  | _, _, i + 1, _, .cons _ t, q => by
    obtain ⟨v, a, r⟩ := Reps.back (i := i) t (by simpa using q)
    exact ⟨v, by simpa using a, r⟩
theorem Reps.append : ∀ {ds es : List D} {vs ws : List V}, Reps K cm L H ds vs → Reps K cm L H es ws → Reps K cm L H (ds ++ es) (vs ++ ws)
  | _, _, _, _, .nil, q => q
  | _, _, _, _, .cons r t, q => .cons r (Reps.append t q)
theorem Reps.take : ∀ {ds : List D} {vs : List V} (n : Nat), Reps K cm L H ds vs → Reps K cm L H (ds.take n) (vs.take n)
  | _, _, 0, _ => .nil
  | _, _, _ + 1, .nil => .nil
  | _, _, n + 1, .cons r t => .cons r (Reps.take n t)
theorem Reps.drop : ∀ {ds : List D} {vs : List V} (n : Nat), Reps K cm L H ds vs → Reps K cm L H (ds.drop n) (vs.drop n)
  | _, _, 0, r => r
  | _, _, _ + 1, .nil => .nil
  | _, _, n + 1, .cons _ t => Reps.drop n t
theorem Reps.set {d : D} {v : V} (r : Rep K cm L H d v) : ∀ {ds : List D} {vs : List V} (n : Nat), Reps K cm L H ds vs → Reps K cm L H (ds.set n d) (vs.set n v)
  | _, _, _, .nil => .nil
  | _, _, 0, .cons _ t => .cons r t
  | _, _, n + 1, .cons q t => .cons q (Reps.set r n t)
theorem ints_reps : ∀ ns : List Int, Reps K cm L H (ns.map D.int) (ns.map V.int)
  | [] => .nil
  | n :: ns => .cons (.int n) (ints_reps ns)

/-- what is tracked of ours stands in the heap -/
theorem HAb.there {h : List Ob} (x : HAb K cm L H h) {a : Addr} (ha : a ∈ L) : ∃ o, H a = some o := by
  obtain ⟨n, hn, e⟩ := List.getElem_of_mem ha
  have hl : n < h.length := by rw [← x.len]; exact hn
  have q := x.obs n h[n] a (by simp [hl]) (by rw [List.getElem?_eq_getElem hn, e])
  generalize h[n] = ob at q
  cases ob with
  | lst ds => obtain ⟨vs, e, _⟩ := q; exact ⟨_, e⟩
  | dct ds => obtain ⟨vs, e, _⟩ := q; exact ⟨_, e⟩
  | fdct ds => obtain ⟨o, vs, e, _⟩ := q; exact ⟨_, e⟩
theorem HAb.fresh {h : List Ob} (x : HAb K cm L H h) {p : Addr} (hp : H p = none) : p ∉ L := fun q => by
  obtain ⟨o, e⟩ := x.there q
  rw [hp] at e; cases e
/-- an object beside ours -/
theorem Ext.beside {p : Addr} {o : HO} (hp : H p = none) : Ext K L H L (upd H p o) := by
  have k : ∀ a u, H a = some u → upd H p o a = some u := fun a u e => by rw [upd_ne (ne_of_none e hp)]; exact e
  refine ⟨⟨[], by simp, by simp⟩, fun a vs h => ?_, fun a vs h => ?_, fun a u _ e => k a u e, fun a u e => ⟨u, k a u e⟩, fun a q u e => k a _ e⟩
  · rcases h with (h | ⟨q, h⟩) | h
    · exact .inl (.inl (k _ _ h))
    · exact .inl (.inr ⟨q, k _ _ h⟩)
    · exact .inr h
  · rcases h with ⟨q, h⟩ | h
    · exact .inl ⟨q, k _ _ h⟩
    · exact .inr h
theorem ObR.mono {a : Addr} {ob : Ob} (e : Ext K L H L' H') (ha : ∀ o, H a = some o → H' a = some o) (h : ObR K cm L H a ob) : ObR K cm L' H' a ob := by
  cases ob with
  | lst ds => obtain ⟨vs, q, r⟩ := h; exact ⟨vs, ha _ q, r.mono e⟩
  | dct ds => obtain ⟨vs, q, r⟩ := h; exact ⟨vs, ha _ q, r.mono e⟩
  | fdct ds => obtain ⟨o, vs, q, r⟩ := h; exact ⟨o, vs, ha _ q, r.mono e⟩
theorem HAb.beside {h : List Ob} {p : Addr} {o : HO} (x : HAb K cm L H h) (hp : H p = none) : HAb K cm L (upd H p o) h :=
  ⟨x.nd, x.len, fun n ob a e1 e2 => (x.obs n ob a e1 e2).mono (Ext.beside hp) fun u q => by rw [upd_ne (ne_of_none q hp)]; exact q⟩
theorem AbS.beside {p : Addr} {o : HO} (x : AbS K cm L H S σ) (hp : H p = none) : AbS K cm L (upd H p o) S σ := ⟨x.hp.beside hp, x.loc.mono (Ext.beside hp)⟩
/-- a new object of ours -/
theorem Ext.new {p : Addr} {o : HO} (hp : H p = none) : Ext K L H (L ++ [p]) (upd H p o) := by
  have b : Ext K L H L (upd H p o) := Ext.beside hp
  exact ⟨⟨[p], rfl, fun a ha => by rw [List.mem_singleton.mp ha]; exact hp⟩, b.tup, b.rol, b.oth, b.thr, b.frz⟩
theorem HAb.new {h : List Ob} {p : Addr} {o : HO} {ob : Ob} (x : HAb K cm L H h) (hp : H p = none) (r : ObR K cm (L ++ [p]) (upd H p o) p ob) : HAb K cm (L ++ [p]) (upd H p o) (h ++ [ob]) := by
  have np := x.fresh hp
  refine ⟨?_, by rw [List.length_append, List.length_append, x.len]; rfl, fun n ob' a e1 e2 => ?_⟩
  · rw [List.nodup_append]
    exact ⟨x.nd, by simp, fun a ha b hb => by rw [List.mem_singleton.mp hb]; exact fun z => np (z ▸ ha)⟩
  · by_cases hn : n < h.length
    · rw [List.getElem?_append_left hn] at e1
      rw [List.getElem?_append_left (by rw [x.len]; exact hn)] at e2
      exact (x.obs n ob' a e1 e2).mono (Ext.new hp) fun u q => by rw [upd_ne (ne_of_none q hp)]; exact q
    · rw [List.getElem?_append_right (Nat.le_of_not_lt hn)] at e1
      rw [List.getElem?_append_right (by rw [x.len]; exact Nat.le_of_not_lt hn)] at e2
      have e0 : n - h.length = 0 := by
        cases z : n - h.length with
        | zero => rfl
        | succ m => rw [z] at e1; simp at e1
      rw [x.len, e0] at e2
      rw [e0] at e1
      simp at e1 e2
      subst e1; subst e2
      exact r
theorem AbS.new {p : Addr} {o : HO} {ob : Ob} (x : AbS K cm L H S σ) (hp : H p = none) (r : ObR K cm (L ++ [p]) (upd H p o) p ob) : AbS K cm (L ++ [p]) (upd H p o) { S with h := S.h ++ [ob] } σ :=
  ⟨x.hp.new hp r, x.loc.mono (Ext.new hp)⟩
theorem HAb.newIx {h : List Ob} (x : HAb K cm L H h) {p : Addr} : (L ++ [p])[h.length]? = some p := by
  rw [← x.len, List.getElem?_append_right (Nat.le_refl _)]; simp
theorem ObR.monoW {a : Addr} {ob : Ob} (e : ExtW K L H L' H') (ha : ∀ o, H a = some o → H' a = some o) (h : ObR K cm L H a ob) : ObR K cm L' H' a ob := by
  cases ob with
  | lst ds => obtain ⟨vs, q, r⟩ := h; exact ⟨vs, ha _ q, r.monoW e⟩
  | dct ds => obtain ⟨vs, q, r⟩ := h; exact ⟨vs, ha _ q, r.monoW e⟩
  | fdct ds => obtain ⟨o, vs, q, r⟩ := h; exact ⟨o, vs, ha _ q, r.monoW e⟩
/-- what we write on -/
def Wr (H : Hp) (a : Addr) : Prop := (∃ vs, H a = some (.lst vs)) ∨ ∃ vs, H a = some (.dK vs)
theorem Ext.put {h : List Ob} {n : Nat} {a : Addr} {o : HO} (x : HAb K cm L H h) (ha : L[n]? = some a) (hw : Wr H a) : Ext K L H L (upd H a o) := by
  have hm := List.mem_of_getElem? ha
  have k : ∀ b u, H b = some u → (∀ vs, u ≠ .lst vs) → (∀ vs, u ≠ .dK vs) → upd H a o b = some u := fun b u e h1 h2 => by
    by_cases z : b = a
    · subst z
      rcases hw with ⟨vs, q⟩ | ⟨vs, q⟩
      · rw [q] at e; cases e; exact absurd rfl (h1 vs)
      · rw [q] at e; cases e; exact absurd rfl (h2 vs)
    · rw [upd_ne z]; exact e
  refine ⟨⟨[], by simp, by simp⟩, fun b vs h => ?_, fun b vs h => ?_, fun b u nb e => ?_, fun b u e => ?_, fun b q u e => k _ _ e (fun _ z => nomatch z) fun _ z => nomatch z⟩
  · rcases h with (h | ⟨q, h⟩) | h
    · exact .inl (.inl (k _ _ h (fun _ z => nomatch z) fun _ z => nomatch z))
    · exact .inl (.inr ⟨q, k _ _ h (fun _ z => nomatch z) fun _ z => nomatch z⟩)
    · exact .inr h
  · rcases h with ⟨q, h⟩ | h
    · exact .inl ⟨q, k _ _ h (fun _ z => nomatch z) fun _ z => nomatch z⟩
    · exact .inr h
  · rw [upd_ne (fun z : b = a => nb (by rw [z]; exact hm))]; exact e
  · by_cases z : b = a
    · subst z; exact ⟨o, upd_same⟩
    · rw [upd_ne z]; exact ⟨u, e⟩
theorem HAb.put {h : List Ob} {n : Nat} {a : Addr} {o : HO} {ob : Ob} (x : HAb K cm L H h) (ha : L[n]? = some a) (hw : Wr H a) (r : ObR K cm L (upd H a o) a ob) : HAb K cm L (upd H a o) (h.set n ob) := by
  refine ⟨x.nd, by rw [List.length_set]; exact x.len, fun m ob' b e1 e2 => ?_⟩
  by_cases hm : m = n
  · subst hm
    have hl : m < h.length := by rw [← x.len]; exact (List.getElem?_eq_some_iff.mp ha).1
    rw [List.getElem?_set_self hl] at e1
    rw [ha] at e2
    cases e1; cases e2
    exact r
  · rw [List.getElem?_set_ne (Ne.symm hm)] at e1
    have nb : b ≠ a := fun z => by
      subst z
      obtain ⟨h1, q1⟩ := List.getElem?_eq_some_iff.mp e2
      obtain ⟨h2, q2⟩ := List.getElem?_eq_some_iff.mp ha
      exact hm ((List.getElem_inj x.nd).mp (q1.trans q2.symm))
    exact (x.obs m ob' b e1 e2).mono (Ext.put x ha hw) fun u q => by rw [upd_ne nb]; exact q
theorem AbS.put {n : Nat} {a : Addr} {o : HO} {ob : Ob} (x : AbS K cm L H S σ) (ha : L[n]? = some a) (hw : Wr H a) (r : ObR K cm L (upd H a o) a ob) : AbS K cm L (upd H a o) { S with h := S.h.set n ob } σ :=
  ⟨x.hp.put ha hw r, x.loc.mono (Ext.put x.hp ha hw)⟩
/-- an object beside ours becomes ours -/
theorem ExtW.adopt {p : Addr} {o : HO} (hw : Wr H p) : ExtW K L H (L ++ [p]) (upd H p o) := by
  have k : ∀ b u, H b = some u → (∀ vs, u ≠ .lst vs) → (∀ vs, u ≠ .dK vs) → upd H p o b = some u := fun b u e h1 h2 => by
    by_cases z : b = p
    · subst z
      rcases hw with ⟨vs, q⟩ | ⟨vs, q⟩
      · rw [q] at e; cases e; exact absurd rfl (h1 vs)
      · rw [q] at e; cases e; exact absurd rfl (h2 vs)
    · rw [upd_ne z]; exact e
  refine ⟨⟨[p], rfl⟩, fun b vs h => ?_, fun b vs h => ?_⟩
  · rcases h with (h | ⟨q, h⟩) | h
    · exact .inl (.inl (k _ _ h (fun _ z => nomatch z) fun _ z => nomatch z))
    · exact .inl (.inr ⟨q, k _ _ h (fun _ z => nomatch z) fun _ z => nomatch z⟩)
    · exact .inr h
  · rcases h with ⟨q, h⟩ | h
    · exact .inl ⟨q, k _ _ h (fun _ z => nomatch z) fun _ z => nomatch z⟩
    · exact .inr h
theorem HAb.adopt {h : List Ob} {p : Addr} {o : HO} {ob : Ob} (x : HAb K cm L H h) (np : p ∉ L) (hw : Wr H p) (r : ObR K cm (L ++ [p]) (upd H p o) p ob) : HAb K cm (L ++ [p]) (upd H p o) (h ++ [ob]) := by
  refine ⟨?_, by rw [List.length_append, List.length_append, x.len]; rfl, fun n ob' a e1 e2 => ?_⟩
  · rw [List.nodup_append]
    exact ⟨x.nd, by simp, fun a ha b hb => by rw [List.mem_singleton.mp hb]; exact fun z => np (z ▸ ha)⟩
  · by_cases hn : n < h.length
    · rw [List.getElem?_append_left hn] at e1
      rw [List.getElem?_append_left (by rw [x.len]; exact hn)] at e2
      have na : a ≠ p := fun z => np (z ▸ List.mem_of_getElem? e2)
      exact (x.obs n ob' a e1 e2).monoW (ExtW.adopt hw) fun u q => by rw [upd_ne na]; exact q
    · rw [List.getElem?_append_right (Nat.le_of_not_lt hn)] at e1
      rw [List.getElem?_append_right (by rw [x.len]; exact Nat.le_of_not_lt hn)] at e2
      have e0 : n - h.length = 0 := by
        cases z : n - h.length with
        | zero => rfl
        | succ m => rw [z] at e1; simp at e1
      rw [x.len, e0] at e2
      rw [e0] at e1
      simp at e1 e2
      subst e1; subst e2
      exact r
theorem Ext.adopt {p : Addr} {o1 o2 : HO} (hp : H p = none) (pf : p ∉ L) (e : Ext K L (upd H p o1) L1 H1) (hw : Wr (upd H p o1) p) : p ∉ L1 ∧ H1 p = some o1 ∧ Wr H1 p ∧ Ext K L H (L1 ++ [p]) (upd H1 p o2) := by
  obtain ⟨M, e1, nM⟩ := e.pre
  have h1 : H1 p = some o1 := e.oth p o1 pf upd_same
  have np : p ∉ L1 := fun q => by
    rw [e1] at q
    rcases List.mem_append.mp q with q | q
    · exact pf q
    · have z := nM p q
      rw [upd_same] at z; cases z
  have w1 : Wr H1 p := by
    rcases hw with ⟨vs, q⟩ | ⟨vs, q⟩
    · rw [upd_same] at q; cases q; exact .inl ⟨vs, h1⟩
    · rw [upd_same] at q; cases q; exact .inr ⟨vs, h1⟩
  have b : Ext K L H L (upd H p o1) := Ext.beside hp
  have aw : ExtW K L1 H1 (L1 ++ [p]) (upd H1 p o2) := ExtW.adopt w1
  have be := b.trans e
  refine ⟨np, h1, w1, ⟨M ++ [p], by rw [e1, List.append_assoc], fun a ha => ?_⟩, fun a vs h => aw.tup a vs (be.tup a vs h), fun a vs h => aw.rol a vs (be.rol a vs h), fun a o na h => ?_, fun a o h => ?_, fun a q u h => ?_⟩
  · rcases List.mem_append.mp ha with z | z
    · have q := nM a z
      by_cases ap : a = p
      · rw [ap]; exact hp
      · rw [upd_ne ap] at q; exact q
    · rw [List.mem_singleton.mp z]; exact hp
  · have ap : a ≠ p := fun z => by rw [z, hp] at h; cases h
    rw [upd_ne ap]; exact be.oth a o na h
  · have ap : a ≠ p := fun z => by rw [z, hp] at h; cases h
    rw [upd_ne ap]; exact be.thr a o h
  · have ap : a ≠ p := fun z => by rw [z, hp] at h; cases h
    rw [upd_ne ap]; exact be.frz a q u h
/-- an object of ours read -/
theorem AbS.lst {n : Nat} {v : V} {ds : List D} (x : AbS K cm L H S σ) (r : Rep K cm L H (.ref n) v) (h : S.h[n]? = some (.lst ds)) : ∃ a vs, v = .ref a ∧ L[n]? = some a ∧ H a = some (.lst vs) ∧ Reps K cm L H ds vs := by
  cases r with
  | ref ha =>
    obtain ⟨vs, q, r⟩ := x.hp.obs n _ _ h ha
    exact ⟨_, vs, rfl, ha, q, r⟩
theorem AbS.dct {n : Nat} {v : V} {ds : List (Key × D)} (x : AbS K cm L H S σ) (r : Rep K cm L H (.ref n) v) (h : S.h[n]? = some (.dct ds)) : ∃ a vs, v = .ref a ∧ L[n]? = some a ∧ H a = some (.dK vs) ∧ RepK K cm L H ds vs := by
  cases r with
  | ref ha =>
    obtain ⟨vs, q, r⟩ := x.hp.obs n _ _ h ha
    exact ⟨_, vs, rfl, ha, q, r⟩
end

/-! ### 3. readings: a plain function in place of a reading -/
section
variable (K : PySem.W.Frag) (cm : Str → Value) (W : WX)
/-- what is wanted behind a plain result -/
def Aft {α β : Type} (R : List Addr → Hp → α → β → Prop) (L : List Addr) (σ : St) (H : Hp) (r : Res α) (Q : β → Hp → Prop) : Prop := match r with
  | .ok d S' => ∀ L' H' v, Ext K L H L' H' → AbS K cm L' H' S' σ → R L' H' d v → Q v H'
  | .exc e S' => ∀ L' H' c dx, Ext K L H L' H' → AbS K cm L' H' S' σ → XnR K cm L' H' e c dx → W c dx σ H'
  | .stuck => False
def rd {α β : Type} (R : List Addr → Hp → α → β → Prop) (f : DS → Res α) : St → Hp → (β → Hp → Prop) → Prop := fun σ H Q =>
  ∃ L S, AbS K cm L H S σ ∧ Aft K cm W R L σ H (f S) Q
abbrev rdE (f : DE) : TE := rd K cm W (Rep K cm) f
abbrev rdT (f : DT) : TT := rd K cm W (fun _ _ (b c : Bool) => b = c) f
abbrev rdA (f : DA) : TA := rd K cm W (Reps K cm) f
abbrev rdO (f : DS → Res (Option Int)) : TO := rd K cm W (fun _ _ (b c : Option Int) => b = c) f
/-- a statement's -/
def AftS (L : List Addr) (H : Hp) (r : Res Fl) (E : Ends) : Prop := match r with
  | .ok .next S' => ∀ L' H' σ', Ext K L H L' H' → AbS K cm L' H' S' σ' → E.nx σ' H'
  | .ok .brk S' => ∀ L' H' σ', Ext K L H L' H' → AbS K cm L' H' S' σ' → E.bk σ' H'
  | .ok .cont S' => ∀ L' H' σ', Ext K L H L' H' → AbS K cm L' H' S' σ' → E.ct σ' H'
  | .ok (.ret d) S' => ∀ L' H' σ' v, Ext K L H L' H' → AbS K cm L' H' S' σ' → Rep K cm L' H' d v → E.rt v H'
  | .exc e S' => ∀ L' H' σ' c dx, Ext K L H L' H' → AbS K cm L' H' S' σ' → XnR K cm L' H' e c dx → W c dx σ' H'
  | .stuck => False
def rdS (f : DSt) : TS := fun E σ H => ∃ L S, AbS K cm L H S σ ∧ AftS K cm W L H (f S) E
end
section
variable {K : PySem.W.Frag} {cm : Str → Value} {W : WX} {L L1 : List Addr} {H H1 : Hp} {S : DS} {σ : St} {α β γ δ : Type} {R : List Addr → Hp → α → β → Prop} {R' : List Addr → Hp → γ → δ → Prop}
theorem Aft.ext {r : Res α} {Q : β → Hp → Prop} (e : Ext K L H L1 H1) (h : Aft K cm W R L σ H r Q) : Aft K cm W R L1 σ H1 r Q := by
  cases r with
  | ok d S' => exact fun L' H' v x y z => h L' H' v (e.trans x) y z
  | exc u S' => exact fun L' H' c dx x y z => h L' H' c dx (e.trans x) y z
  | stuck => exact h
/-- THE STEP: first r, then k -/
theorem Aft.step {r : Res α} {k : α → DS → Res γ} {Q : δ → Hp → Prop} (h : Aft K cm W R' L σ H (r.bind k) Q) :
    Aft K cm W R L σ H r (fun v H1 => ∃ L1 S1 d, Ext K L H L1 H1 ∧ AbS K cm L1 H1 S1 σ ∧ R L1 H1 d v ∧ Aft K cm W R' L1 σ H1 (k d S1) Q) := by
  cases r with
  | ok d S' => exact fun L' H' v x y z => ⟨L', S', d, x, y, z, Aft.ext x h⟩
  | exc u S' => exact h
  | stuck => exact h
theorem Aft.mono {r : Res α} {Q Q' : β → Hp → Prop} (h : Aft K cm W R L σ H r Q) (q : ∀ v H', Q v H' → Q' v H') : Aft K cm W R L σ H r Q' := by
  cases r with
  | ok d S' => exact fun L' H' v x y z => q _ _ (h L' H' v x y z)
  | exc u S' => exact h
  | stuck => exact h
/-- behind a value that is there -/
theorem Aft.give {d : α} {v : β} {Q : β → Hp → Prop} (h : Aft K cm W R L σ H (.ok d S) Q) (x : AbS K cm L H S σ) (r : R L H d v) : Q v H := h L H v Ext.refl x r
theorem Aft.giveE {d : α} {v : β} {Q : β → Hp → Prop} (h : Aft K cm W R L σ H (.ok d S) Q) (e : Ext K L H L1 H1) (x : AbS K cm L1 H1 S σ) (r : R L1 H1 d v) : Q v H1 := h L1 H1 v e x r
theorem AftS.ext {r : Res Fl} {E : Ends} (e : Ext K L H L1 H1) (h : AftS K cm W L H r E) : AftS K cm W L1 H1 r E := by
  cases r with
  | ok d S' =>
    cases d with
    | next => exact fun L' H' s x y => h L' H' s (e.trans x) y
    | brk => exact fun L' H' s x y => h L' H' s (e.trans x) y
    | cont => exact fun L' H' s x y => h L' H' s (e.trans x) y
    | ret d => exact fun L' H' s v x y z => h L' H' s v (e.trans x) y z
  | exc u S' => exact fun L' H' s c dx x y z => h L' H' s c dx (e.trans x) y z
  | stuck => exact h
theorem AftS.step {r : Res α} {k : α → DS → Res Fl} {E : Ends} (h : AftS K cm W L H (r.bind k) E) :
    Aft K cm W R L σ H r (fun v H1 => ∃ L1 S1 d, Ext K L H L1 H1 ∧ AbS K cm L1 H1 S1 σ ∧ R L1 H1 d v ∧ AftS K cm W L1 H1 (k d S1) E) := by
  cases r with
  | ok d S' => exact fun L' H' v x y z => ⟨L', S', d, x, y, z, AftS.ext x h⟩
  | exc u S' => exact fun L' H' c dx x y z => h L' H' σ c dx x y z
  | stuck => exact h
end
theorem weakE {X : Cx} {e : Expr} {t t' : TE} (h : PE X e t) (w : ∀ σ H Q, t' σ H Q → t σ H Q) : PE X e t' := ⟨fun pins s σ H Q I q => h.run pins s σ H Q I (w _ _ _ q)⟩
theorem weakT {X : Cx} {e : Expr} {t t' : TT} (h : PT X e t) (w : ∀ σ H Q, t' σ H Q → t σ H Q) : PT X e t' := ⟨fun pins s σ H Q I q => h.run pins s σ H Q I (w _ _ _ q)⟩
theorem weakW {X : Cx} {e : Expr} {t t' : TT} (h : PW X e t) (w : ∀ σ H Q, t' σ H Q → t σ H Q) : PW X e t' := ⟨fun wh pins s σ H Q I q => h.run wh pins s σ H Q I (w _ _ _ q)⟩
theorem weakA {X : Cx} {e : List Expr} {t t' : TA} (h : PA X e t) (w : ∀ σ H Q, t' σ H Q → t σ H Q) : PA X e t' := ⟨fun pos pins s σ H Q I q => h.run pos pins s σ H Q I (w _ _ _ q)⟩
theorem weakS {X : Cx} {e : Stmt} {t t' : TS} (h : PS X e t) (w : ∀ σ H Q, t' σ H Q → t σ H Q) : PS X e t' := ⟨fun pins s σ H Q I q => h.run pins s σ H Q I (w _ _ _ q)⟩
theorem weakSs {X : Cx} {e : List Stmt} {t t' : TS} (h : PSs X e t) (w : ∀ σ H Q, t' σ H Q → t σ H Q) : PSs X e t' := ⟨fun pins s σ H Q I q => h.run pins s σ H Q I (w _ _ _ q)⟩
end Den

namespace Den
open PySem L2

/-! ### 4. operators on plain values -/
def mxL : Nat := 1000000
theorem mx_line {n : Nat} (h : n ≤ mxL) : n ≤ sizeLine := Nat.le_trans h (by rw [sizeLine_eq]; decide)
theorem mx_lt {n : Nat} (h : n < mxL) : n < sizeLine := Nat.lt_of_lt_of_le h (by rw [sizeLine_eq]; decide)
def newO (ob : Ob) (S : DS) : Res D := .ok (.ref S.h.length) { S with h := S.h ++ [ob] }
def oAdd : D → D → DS → Res D := fun x y S => match x, y with
  | .int i, .int j => .ok (.int (i + j)) S
  | .str a, .str b => if a.length + b.length ≤ mxL then .ok (.str (a ++ b)) S else .stuck
  | .tup a, .tup b => if a.length + b.length ≤ mxL then .ok (.tup (a ++ b)) S else .stuck
  | .ref n, .ref m => match S.h[n]?, S.h[m]? with
    | some (.lst a), some (.lst b) => if a.length + b.length ≤ mxL then newO (.lst (a ++ b)) S else .stuck
    | _, _ => .stuck
  | _, _ => .stuck
def oSub : D → D → DS → Res D := fun x y S => match x, y with
  | .int i, .int j => .ok (.int (i - j)) S
  | _, _ => .stuck
def oMul : D → D → DS → Res D := fun x y S => match x, y with
  | .int i, .int j => if (-(2 ^ 64) < i ∧ i < 2 ^ 64) ∨ (-(2 ^ 64) < j ∧ j < 2 ^ 64) then .ok (.int (i * j)) S else .stuck
  | _, _ => .stuck
def oMod : D → D → DS → Res D := fun x y S => match x, y with
  | .int i, .int j => if 0 < j then .ok (.int (i % j)) S else .stuck
  | _, _ => .stuck
def oDiv : D → D → DS → Res D := fun x y S => match x, y with
  | .int i, .int j => if 0 < j ∧ j < 1073741824 then .ok (.int (i / j)) S else .stuck
  | _, _ => .stuck
def oPow : D → D → DS → Res D := fun x y S => match x, y with
  | .int i, .int j => if 0 ≤ j ∧ j ≤ 1000 ∧ i.natAbs < 2 ^ 64 then .ok (.int (i ^ j.toNat)) S else .stuck
  | _, _ => .stuck
def oLt : D → D → DS → Res D := fun x y S => match x, y with
  | .int i, .int j => .ok (.bl (decide (i < j))) S
  | _, _ => .stuck
def oLe : D → D → DS → Res D := fun x y S => match x, y with
  | .int i, .int j => .ok (.bl (decide (i ≤ j))) S
  | _, _ => .stuck
def oGt : D → D → DS → Res D := fun x y S => match x, y with
  | .int i, .int j => .ok (.bl (decide (j < i))) S
  | _, _ => .stuck
def oGe : D → D → DS → Res D := fun x y S => match x, y with
  | .int i, .int j => .ok (.bl (decide (j ≤ i))) S
  | _, _ => .stuck
def isNon : D → Bool
  | .non => true
  | _ => false
def oIsN : D → D → DS → Res D := fun x y S => match y with
  | .non => .ok (.bl (isNon x)) S
  | _ => .stuck
def oNotN : D → D → DS → Res D := fun x y S => match y with
  | .non => .ok (.bl (!isNon x)) S
  | _ => .stuck

/-- the library's data of a plain value -/
def toPy (h : List Ob) : Nat → D → Option PyData
  | _, .non => some .none
  | _, .bl b => some (.bool b)
  | _, .int i => some (.int i)
  | _, .str x => some (.str x)
  | n + 1, .tup xs => (xs.mapM (toPy h n)).map .tuple
  | n + 1, .ro xs => (xs.mapM (toPy h n)).map .list
  | n + 1, .ref k => match h[k]? with
    | some (.lst xs) => (xs.mapM (toPy h n)).map .list
    | _ => none
  | _, _ => none
def pyD (S : DS) (d : D) : Option PyData := toPy S.h 20 d
def oEq : D → D → DS → Res D := fun x y S => match pyD S x, pyD S y with
  | some p, some q => if SeqAt.shaped p && SeqAt.shaped q then .ok (.bl (PyData.eqv p q)) S else .stuck
  | _, _ => .stuck
def oNe : D → D → DS → Res D := fun x y S => match pyD S x, pyD S y with
  | some p, some q => if SeqAt.shaped p && SeqAt.shaped q then .ok (.bl (!PyData.eqv p q)) S else .stuck
  | _, _ => .stuck
def keyOf : D → Option Key
  | .int i => some (.inl i)
  | .str x => some (.inr x)
  | _ => none
def valD (kvs : List (Key × D)) (k : Key) : Option D := (kvs.find? fun p => decide (p.1 = k)).map fun p => p.2
def hasD (kvs : List (Key × D)) (k : Key) : Bool := kvs.any fun p => decide (p.1 = k)
def putD (kvs : List (Key × D)) (k : Key) (d : D) : List (Key × D) := if hasD kvs k = true then kvs.map (fun p => if p.1 = k then (p.1, d) else p) else kvs ++ [(k, d)]

section
variable (X : Cx) (cm : Str → Value) (W : WX)
def ROp (r : R2) (f : D → D → DS → Res D) : Prop := ∀ {L : List Addr} {H : Hp} {S : DS} {σ : St} {x y : V} {d e : D} {Q : VK}, AbS X.K cm L H S σ → Rep X.K cm L H d x → Rep X.K cm L H e y →
  Aft X.K cm W (Rep X.K cm) L σ H (f d e S) Q → r x y H Q
end
def dBin (f : D → D → DS → Res D) (a b : DE) : DE := fun S => (a S).bind fun x S1 => (b S1).bind fun y S2 => f x y S2
section
variable {X : Cx} {cm : Str → Value} {W : WX}
theorem rd_bin {r : R2} {f : D → D → DS → Res D} {fa fb : DE} (h : ROp X cm W r f) {σ : St} {H : Hp} {Q : VK} (q : rdE X.K cm W (dBin f fa fb) σ H Q) : tOp r (rdE X.K cm W fa) (rdE X.K cm W fb) σ H Q := by
  obtain ⟨L, S, x, q⟩ := q
  refine ⟨L, S, x, (Aft.step (R := Rep X.K cm) q).mono fun v H1 z => ?_⟩
  obtain ⟨L1, S1, d, e1, x1, r1, q1⟩ := z
  refine ⟨L1, S1, x1, (Aft.step (R := Rep X.K cm) q1).mono fun u H2 z => ?_⟩
  obtain ⟨L2, S2, d2, e2, x2, r2, q2⟩ := z
  exact h x2 (r1.mono e2) r2 q2

theorem rop_int {g : Int → Int → V} {g' : Int → Int → D} (hg : ∀ L H i j, Rep X.K cm L H (g' i j) (g i j)) {f : D → D → DS → Res D}
    (hf : ∀ d e S, (∃ i j, d = .int i ∧ e = .int j ∧ f d e S = .ok (g' i j) S) ∨ f d e S = .stuck) : ROp X cm W (rI0 g) f := by
  intro L H S σ x y d e Q a r1 r2 q
  rcases hf d e S with ⟨i, j, rfl, rfl, h⟩ | h
  · rw [h] at q
    cases r1; cases r2
    exact ⟨i, j, rfl, rfl, q.give a (hg ..)⟩
  · rw [h] at q
    exact q.elim
theorem rop_intC {C : Int → Int → Prop} {g : Int → Int → V} {g' : Int → Int → D} (hg : ∀ L H i j, Rep X.K cm L H (g' i j) (g i j)) {f : D → D → DS → Res D}
    (hf : ∀ d e S, (∃ i j, d = .int i ∧ e = .int j ∧ C i j ∧ f d e S = .ok (g' i j) S) ∨ f d e S = .stuck) : ROp X cm W (rI C g) f := by
  intro L H S σ x y d e Q a r1 r2 q
  rcases hf d e S with ⟨i, j, rfl, rfl, hc, h⟩ | h
  · rw [h] at q
    cases r1; cases r2
    exact ⟨i, j, rfl, rfl, hc, q.give a (hg ..)⟩
  · rw [h] at q
    exact q.elim
theorem ro_lt : ROp X cm W (rI0 fun i j => .bl (decide (i < j))) oLt := rop_int (g' := fun i j => .bl (decide (i < j))) (fun _ _ _ _ => .bl _) fun d e S => by
  unfold oLt; split
  · exact .inl ⟨_, _, rfl, rfl, rfl⟩
  · exact .inr rfl
theorem ro_le : ROp X cm W (rI0 fun i j => .bl (decide (i ≤ j))) oLe := rop_int (g' := fun i j => .bl (decide (i ≤ j))) (fun _ _ _ _ => .bl _) fun d e S => by
  unfold oLe; split
  · exact .inl ⟨_, _, rfl, rfl, rfl⟩
  · exact .inr rfl
theorem ro_gt : ROp X cm W (rI0 fun i j => .bl (decide (j < i))) oGt := rop_int (g' := fun i j => .bl (decide (j < i))) (fun _ _ _ _ => .bl _) fun d e S => by
  unfold oGt; split
  · exact .inl ⟨_, _, rfl, rfl, rfl⟩
  · exact .inr rfl
theorem ro_ge : ROp X cm W (rI0 fun i j => .bl (decide (j ≤ i))) oGe := rop_int (g' := fun i j => .bl (decide (j ≤ i))) (fun _ _ _ _ => .bl _) fun d e S => by
  unfold oGe; split
  · exact .inl ⟨_, _, rfl, rfl, rfl⟩
  · exact .inr rfl
theorem ro_sub : ROp X cm W (rI0 fun i j => .int (i - j)) oSub := rop_int (g' := fun i j => .int (i - j)) (fun _ _ _ _ => .int _) fun d e S => by
  unfold oSub; split
  · exact .inl ⟨_, _, rfl, rfl, rfl⟩
  · exact .inr rfl
theorem ro_mul : ROp X cm W (rI CMul fun i j => .int (i * j)) oMul := rop_intC (g' := fun i j => .int (i * j)) (fun _ _ _ _ => .int _) fun d e S => by
  unfold oMul; split
  · split
    · rename_i h; exact .inl ⟨_, _, rfl, rfl, h, rfl⟩
    · exact .inr rfl
  · exact .inr rfl
theorem ro_mod : ROp X cm W (rI (fun _ j => 0 < j) fun i j => .int (i % j)) oMod := rop_intC (g' := fun i j => .int (i % j)) (fun _ _ _ _ => .int _) fun d e S => by
  unfold oMod; split
  · split
    · rename_i h; exact .inl ⟨_, _, rfl, rfl, h, rfl⟩
    · exact .inr rfl
  · exact .inr rfl
theorem ro_div : ROp X cm W (rI CDiv fun i j => .int (i / j)) oDiv := rop_intC (g' := fun i j => .int (i / j)) (fun _ _ _ _ => .int _) fun d e S => by
  unfold oDiv; split
  · split
    · rename_i h; exact .inl ⟨_, _, rfl, rfl, h, rfl⟩
    · exact .inr rfl
  · exact .inr rfl
theorem ro_pow : ROp X cm W (rI CPow fun i j => .int (i ^ j.toNat)) oPow := rop_intC (g' := fun i j => .int (i ^ j.toNat)) (fun _ _ _ _ => .int _) fun d e S => by
  unfold oPow; split
  · split
    · rename_i h; exact .inl ⟨_, _, rfl, rfl, ⟨h.1, Int.le_trans h.2.1 (by decide), h.2.2⟩, rfl⟩
    · exact .inr rfl
  · exact .inr rfl
theorem isNon_iff {K : PySem.W.Frag} {L : List Addr} {H : Hp} {d : D} {v : V} (r : Rep K cm L H d v) : decide (v = .non) = isNon d := by
  cases r <;> simp [isNon]
theorem ro_isN : ROp X cm W (fun x y H Q => y = .non ∧ Q (.bl (decide (x = .non))) H) oIsN := by
  intro L H S σ x y d e Q a r1 r2 q
  unfold oIsN at q
  split at q
  · cases r2
    refine ⟨rfl, ?_⟩
    rw [isNon_iff r1]
    exact q.give a (.bl _)
  · exact q.elim
theorem ro_notN : ROp X cm W (fun x y H Q => y = .non ∧ Q (.bl (!decide (x = .non))) H) oNotN := by
  intro L H S σ x y d e Q a r1 r2 q
  unfold oNotN at q
  split at q
  · cases r2
    refine ⟨rfl, ?_⟩
    rw [isNon_iff r1]
    exact q.give a (.bl _)
  · exact q.elim
/-- a new list of ours -/
theorem give_new {L : List Addr} {H : Hp} {S : DS} {σ : St} {ds : List D} {vs : List V} {Q : VK} (a : AbS X.K cm L H S σ) (r : Reps X.K cm L H ds vs) (q : Aft X.K cm W (Rep X.K cm) L σ H (newO (.lst ds) S) Q) {p : Addr} (hp : H p = none) : Q (.ref p) (upd H p (.lst vs)) :=
  q.giveE (Ext.new hp) (a.new hp ⟨vs, upd_same, r.mono (Ext.new hp)⟩) (.ref a.hp.newIx)
theorem ro_add : ROp X cm W (fun x y H Q => (rI0 (fun i j => .int (i + j)) x y H Q ∨ (∃ i j, x = .str i ∧ y = .str j ∧ i.length + j.length ≤ sizeLine ∧ Q (.str (i ++ j)) H)) ∨ (rCatA X.K x y H Q ∨ rCat x y H Q)) oAdd := by
  intro L H S σ x y d e Q a r1 r2 q
  unfold oAdd at q
  split at q
  · cases r1; cases r2
    exact .inl (.inl ⟨_, _, rfl, rfl, q.give a (.int _)⟩)
  · split at q
    · rename_i h
      cases r1; cases r2
      exact .inl (.inr ⟨_, _, rfl, rfl, mx_line h, q.give a (.str _)⟩)
    · exact q.elim
  · split at q
    · rename_i h
      cases r1 with
      | tup h1 r1 =>
        cases r2 with
        | tup h2 r2 =>
          have rr := r1.append r2
          refine .inr (.inl ⟨_, _, _, _, rfl, rfl, h1, h2, mx_line (by rw [← r1.length, ← r2.length]; exact h), fun z => ?_, fun z1 z2 => ?_, fun _ _ p hp => ?_⟩)
          · subst z
            cases r1
            exact q.give a (.tup h2 r2)
          · subst z2
            cases r2
            rw [List.append_nil] at q
            exact q.give a (.tup h1 r1)
          · exact q.giveE (Ext.beside hp) (a.beside hp) (.tup (.inl (.inl upd_same)) (rr.mono (Ext.beside hp)))
    · exact q.elim
  · split at q
    · rename_i h1 h2
      split at q
      · rename_i h
        obtain ⟨p1, vs1, rfl, g1, e1, q1⟩ := a.lst r1 h1
        obtain ⟨p2, vs2, rfl, g2, e2, q2⟩ := a.lst r2 h2
        exact .inr (.inr ⟨_, _, _, _, rfl, rfl, e1, e2, mx_line (by rw [← q1.length, ← q2.length]; exact h), fun p hp => give_new a (q1.append q2) q hp⟩)
      · exact q.elim
    · exact q.elim
  · exact q.elim

/-! ### 5. data of any depth -/
theorem mapM_nil' {α β : Type} {f : α → Option β} : [].mapM f = some [] := rfl
theorem mapM_some {α β : Type} {f : α → Option β} {x : α} {xs : List α} {ys : List β} (h : (x :: xs).mapM f = some ys) : ∃ y r, f x = some y ∧ xs.mapM f = some r ∧ ys = y :: r := by
  rw [List.mapM_cons] at h
  cases e1 : f x with
  | none => rw [e1] at h; cases h
  | some y =>
    rw [e1] at h
    cases e2 : xs.mapM f with
    | none => simp [e2] at h
    | some r =>
      simp [e2] at h
      exact ⟨y, r, rfl, rfl, h.symm⟩
theorem SqR.sq {K : PySem.W.Frag} {H : Hp} {a : Addr} {xs : List V} (h : SqR K H a xs) : SqL K H a xs := by
  rcases h with ⟨o, h⟩ | h
  · exact .inl (.inr ⟨o, h⟩)
  · exact .inr h
theorem toPys_rep {K : PySem.W.Frag} {L : List Addr} {H : Hp} {f : D → Option PyData} (hf : ∀ d v p, Rep K cm L H d v → f d = some p → Dp K H v p) :
    ∀ {ds : List D} {vs : List V} {ps : List PyData}, Reps K cm L H ds vs → ds.mapM f = some ps → DpAll K H vs ps
  | _, _, _, .nil, h => by
    rw [mapM_nil'] at h; cases h; exact .nil
  | _, _, _, .cons r t, h => by
    obtain ⟨y, q, h1, h2, rfl⟩ := mapM_some h
    exact .cons (hf _ _ _ r h1) (toPys_rep hf t h2)
theorem toPy_rep {K : PySem.W.Frag} {L : List Addr} {H : Hp} {h : List Ob} (a : HAb K cm L H h) : ∀ (n : Nat) (d : D) (v : V) (p : PyData), Rep K cm L H d v → toPy h n d = some p → Dp K H v p := by
  intro n
  induction n with
  | zero =>
    intro d v p r e
    cases r <;> simp [toPy] at e <;> subst e
    · exact .non
    · exact .bl _
    · exact .int _
    · exact .str _
  | succ n ih =>
    intro d v p r e
    cases r with
    | non => simp [toPy] at e; subst e; exact .non
    | bl b => simp [toPy] at e; subst e; exact .bl _
    | int b => simp [toPy] at e; subst e; exact .int _
    | str b => simp [toPy] at e; subst e; exact .str _
    | ty b => simp [toPy] at e
    | cls b => simp [toPy] at e
    | tup hs r =>
      simp only [toPy, Option.map_eq_some_iff] at e
      obtain ⟨ps, e1, rfl⟩ := e
      exact .tup hs (toPys_rep ih r e1)
    | ro hs r =>
      simp only [toPy, Option.map_eq_some_iff] at e
      obtain ⟨ps, e1, rfl⟩ := e
      exact .lst hs.sq (toPys_rep ih r e1)
    | ref hL =>
      simp only [toPy] at e
      split at e
      · rename_i xs hx
        obtain ⟨ps, e1, rfl⟩ := Option.map_eq_some_iff.mp e
        obtain ⟨vs, q, r⟩ := a.obs _ _ _ hx hL
        exact .lst (SqL.of q) (toPys_rep ih r e1)
      · cases e
theorem pyD_rep {L : List Addr} {H : Hp} {S : DS} {σ : St} {K : PySem.W.Frag} (a : AbS K cm L H S σ) {d : D} {v : V} {p : PyData} (r : Rep K cm L H d v) (e : pyD S d = some p) : Dp K H v p := toPy_rep a.hp 20 d v p r e
theorem ro_eq : ROp X cm W (rEqD X.K) oEq := by
  intro L H S σ x y d e Q a r1 r2 q
  unfold oEq at q
  split at q
  · rename_i p1 p2 h1 h2
    split at q
    · rename_i h
      obtain ⟨s1, s2⟩ := Bool.and_eq_true_iff.mp h
      exact ⟨_, _, pyD_rep a r1 h1, pyD_rep a r2 h2, s1, s2, q.give a (.bl _)⟩
    · exact q.elim
  · exact q.elim
theorem ro_ne : ROp X cm W (rNeD X.K) oNe := by
  intro L H S σ x y d e Q a r1 r2 q
  unfold oNe at q
  split at q
  · rename_i p1 p2 h1 h2
    split at q
    · rename_i h
      obtain ⟨s1, s2⟩ := Bool.and_eq_true_iff.mp h
      exact ⟨_, _, pyD_rep a r1 h1, pyD_rep a r2 h2, s1, s2, q.give a (.bl _)⟩
    · exact q.elim
  · exact q.elim

/-! ### 6. expressions -/
def dVar (i : Nat) : DE := fun S => match S.loc[i]? with
  | some (some d) => .ok d S
  | _ => .stuck
def dC (d : D) : DE := fun S => .ok d S
def dNil : DA := fun S => .ok [] S
def dCons (a : DE) (r : DA) : DA := fun S => (a S).bind fun d S1 => (r S1).bind fun ds S2 => .ok (d :: ds) S2
def dTup (a : DA) : DE := fun S => (a S).bind fun ds S1 => if ds.length ≤ mxL then .ok (.tup ds) S1 else .stuck
def dLst (a : DA) : DE := fun S => (a S).bind fun ds S1 => if ds.length ≤ mxL then newO (.lst ds) S1 else .stuck
def toB : D → DS → Res Bool := fun d S => match d with
  | .bl b => .ok b S
  | _ => .stuck
def tV (a : DE) : DT := fun S => (a S).bind toB
def tAndD (a b : DT) : DT := fun S => (a S).bind fun c S1 => if c then b S1 else .ok false S1
def tOrD (a b : DT) : DT := fun S => (a S).bind fun c S1 => if c then .ok true S1 else b S1
def tNotD (a : DT) : DT := fun S => (a S).bind fun c S1 => .ok (!c) S1
def dAnd (a b : DE) : DE := fun S => (a S).bind fun d S1 => (toB d S1).bind fun c S2 => if c then b S2 else .ok (.bl false) S2
def dOr (a b : DE) : DE := fun S => (a S).bind fun d S1 => (toB d S1).bind fun c S2 => if c then .ok (.bl true) S2 else b S2
def dNot (a : DE) : DE := fun S => (a S).bind fun d S1 => (toB d S1).bind fun c S2 => .ok (.bl (!c)) S2
def dIf (t : DT) (a b : DE) : DE := fun S => (t S).bind fun c S1 => if c then a S1 else b S1

variable {e e1 e2 : Expr} {es : List Expr} {pos : Pos} {fa fb : DE} {ga : DA} {ta tb : DT}
theorem e_var (i : Nat) {x : Str} (hN : X.N[i]? = some x := by rfl) (hv : Vis X.env.scope x := by first | exact Or.inl rfl | exact Or.inr (Or.inl rfl) | exact Or.inr (Or.inr rfl)) (hd : (x == ("__debug__" : Str)) = false := by decide)
    (hcd : (x == ("__classdict__" : Str)) = false := by decide) : PE X (.Name x pos) (rdE X.K cm W (dVar i)) := weakE (pe_var hN hv hd hcd) fun σ H Q q => by
  obtain ⟨L, S, a, q⟩ := q
  unfold dVar at q
  split at q
  · rename_i d h
    obtain ⟨v, e, r⟩ := a.loc.2 i d h
    exact ⟨v, e, q.give a r⟩
  · exact q.elim
theorem rd_c {d : D} {v : V} (r : ∀ L H, Rep X.K cm L H d v) {σ : St} {H : Hp} {Q : VK} (q : rdE X.K cm W (dC d) σ H Q) : tC v σ H Q := by
  obtain ⟨L, S, a, q⟩ := q
  exact q.give a (r L H)
theorem e_int {i : Int} {j} : PE X (.Constant (.int i) j pos) (rdE X.K cm W (dC (.int i))) := weakE pe_int fun _ _ _ => rd_c fun _ _ => .int i
theorem e_str {i : Str} {j} : PE X (.Constant (.str i) j pos) (rdE X.K cm W (dC (.str i))) := weakE pe_str fun _ _ _ => rd_c fun _ _ => .str i
theorem e_bl {i : Bool} {j} : PE X (.Constant (.bool i) j pos) (rdE X.K cm W (dC (.bl i))) := weakE pe_bl fun _ _ _ => rd_c fun _ _ => .bl i
theorem e_non {j} : PE X (.Constant .none j pos) (rdE X.K cm W (dC .non)) := weakE pe_non fun _ _ _ => rd_c fun _ _ => .non
/-- a constant of the module -/
theorem e_glob {x : Str} {d : D} {v : V} {u : Value} (hg : Gl X x) (hm : X.mg x = some u) (ru : RelV v u) (r : ∀ L H, Rep X.K cm L H d v) (hd : (x == ("__debug__" : Str)) = false := by decide) : PE X (.Name x pos) (rdE X.K cm W (dC d)) :=
  weakE (pe_glob hg hm ru hd) fun _ _ _ => rd_c r
theorem e_op {op : Operator} {r : R2} {f : D → D → DS → Res D} (ho : OpR X (binaryOp op) r) (h : ROp X cm W r f) (ha : PE X e1 (rdE X.K cm W fa)) (hb : PE X e2 (rdE X.K cm W fb)) : PE X (.BinOp e1 op e2 pos) (rdE X.K cm W (dBin f fa fb)) :=
  weakE (pe_op ho ha hb) fun _ _ _ => rd_bin h
theorem e_cmp {op : CmpOp} {r : R2} {f : D → D → DS → Res D} (ho : OpR X (compareOp op) r) (h : ROp X cm W r f) (hm : behindInMarks op e2 = false) (ha : PE X e1 (rdE X.K cm W fa)) (hb : PE X e2 (rdE X.K cm W fb)) : PE X (.Compare e1 [op] [e2] pos) (rdE X.K cm W (dBin f fa fb)) :=
  weakE (pe_cmpR ho ha hb hm) fun _ _ _ => rd_bin h
theorem rd_test {f : DE} {t : TE} (h : ∀ σ H Q, rdE X.K cm W f σ H Q → t σ H Q) {σ : St} {H : Hp} {Q : Bool → Hp → Prop} (q : rdT X.K cm W (tV f) σ H Q) : tTest t σ H Q := by
  obtain ⟨L, S, a, q⟩ := q
  refine h _ _ _ ⟨L, S, a, (Aft.step (R := Rep X.K cm) q).mono fun v H1 z => ?_⟩
  obtain ⟨L1, S1, d, e1, x1, r1, q1⟩ := z
  unfold toB at q1
  split at q1
  · cases r1
    exact ⟨_, rfl, q1.give x1 rfl⟩
  · exact q1.elim
theorem t_cmp {op : CmpOp} {r : R2} {f : D → D → DS → Res D} (ho : OpR X (compareOp op) r) (h : ROp X cm W r f) (hm : behindInMarks op e2 = false) (ha : PE X e1 (rdE X.K cm W fa)) (hb : PE X e2 (rdE X.K cm W fb)) : PT X (.Compare e1 [op] [e2] pos) (rdT X.K cm W (tV (dBin f fa fb))) :=
  weakT (pt_cmpR ho ha hb hm) fun _ _ _ => rd_test fun _ _ _ => rd_bin h
theorem t_val (he : PE X e (rdE X.K cm W fa)) (hp : ∀ whole, isTrue e X.env whole = (do let v ← whole; standAt e.pos; holding [v] (truthy v)) := by intro _; rfl) : PT X e (rdT X.K cm W (tV fa)) :=
  weakT (pt_val he hp) fun _ _ _ => rd_test (t := rdE X.K cm W fa) fun _ _ _ q => q
theorem w_and1 (h : PT X e (rdT X.K cm W ta)) : PW X (.BoolOp .And [e] pos) (rdT X.K cm W ta) := pw_and1 h
theorem w_or1 (h : PT X e (rdT X.K cm W ta)) : PW X (.BoolOp .Or [e] pos) (rdT X.K cm W ta) := pw_or1 h
theorem w_and (h1 : PT X e1 (rdT X.K cm W ta)) (h2 : PW X (.BoolOp .And (e2 :: es) pos) (rdT X.K cm W tb)) : PW X (.BoolOp .And (e1 :: e2 :: es) pos) (rdT X.K cm W (tAndD ta tb)) := weakW (pw_and h1 h2) fun σ H Q q => by
  obtain ⟨L, S, a, q⟩ := q
  refine ⟨L, S, a, (Aft.step (R := fun _ _ (b c : Bool) => b = c) q).mono fun v H1 z => ?_⟩
  obtain ⟨L1, S1, d, e1, x1, r1, q1⟩ := z
  subst r1
  cases d with
  | true => rw [if_pos rfl]; exact ⟨L1, S1, x1, q1⟩
  | false => rw [if_neg (by decide)]; exact q1.give x1 rfl
theorem w_or (h1 : PT X e1 (rdT X.K cm W ta)) (h2 : PW X (.BoolOp .Or (e2 :: es) pos) (rdT X.K cm W tb)) : PW X (.BoolOp .Or (e1 :: e2 :: es) pos) (rdT X.K cm W (tOrD ta tb)) := weakW (pw_or h1 h2) fun σ H Q q => by
  obtain ⟨L, S, a, q⟩ := q
  refine ⟨L, S, a, (Aft.step (R := fun _ _ (b c : Bool) => b = c) q).mono fun v H1 z => ?_⟩
  obtain ⟨L1, S1, d, e1, x1, r1, q1⟩ := z
  subst r1
  cases d with
  | true => rw [if_pos rfl]; exact q1.give x1 rfl
  | false => rw [if_neg (by decide)]; exact ⟨L1, S1, x1, q1⟩
theorem t_not (h : PT X e (rdT X.K cm W ta)) : PT X (.UnaryOp .Not e pos) (rdT X.K cm W (tNotD ta)) := weakT (pt_not h) fun σ H Q q => by
  obtain ⟨L, S, a, q⟩ := q
  refine ⟨L, S, a, (Aft.step (R := fun _ _ (b c : Bool) => b = c) q).mono fun v H1 z => ?_⟩
  obtain ⟨L1, S1, d, e1, x1, r1, q1⟩ := z
  subst r1
  exact q1.give x1 rfl
theorem e_and1 {op} (h : PE X e (rdE X.K cm W fa)) : PE X (.BoolOp op [e] pos) (rdE X.K cm W fa) := pe_one h
theorem e_and (h1 : PE X e1 (rdE X.K cm W fa)) (h2 : PE X (.BoolOp .And (e2 :: es) pos) (rdE X.K cm W fb)) : PE X (.BoolOp .And (e1 :: e2 :: es) pos) (rdE X.K cm W (dAnd fa fb)) := weakE (pe_and h1 h2) fun σ H Q q => by
  obtain ⟨L, S, a, q⟩ := q
  refine ⟨L, S, a, (Aft.step (R := Rep X.K cm) q).mono fun v H1 z => ?_⟩
  obtain ⟨L1, S1, d, e1, x1, r1, q1⟩ := z
  unfold toB at q1
  split at q1
  · cases r1
    rename_i b
    refine ⟨b, rfl, ?_⟩
    cases b with
    | true => rw [if_pos rfl]; exact ⟨L1, S1, x1, q1⟩
    | false => rw [if_neg (by decide)]; exact q1.give x1 (.bl false)
  · exact q1.elim
theorem e_or (h1 : PE X e1 (rdE X.K cm W fa)) (h2 : PE X (.BoolOp .Or (e2 :: es) pos) (rdE X.K cm W fb)) : PE X (.BoolOp .Or (e1 :: e2 :: es) pos) (rdE X.K cm W (dOr fa fb)) := weakE (pe_or h1 h2) fun σ H Q q => by
  obtain ⟨L, S, a, q⟩ := q
  refine ⟨L, S, a, (Aft.step (R := Rep X.K cm) q).mono fun v H1 z => ?_⟩
  obtain ⟨L1, S1, d, e1, x1, r1, q1⟩ := z
  unfold toB at q1
  split at q1
  · cases r1
    rename_i b
    refine ⟨b, rfl, ?_⟩
    cases b with
    | true => rw [if_pos rfl]; exact q1.give x1 (.bl true)
    | false => rw [if_neg (by decide)]; exact ⟨L1, S1, x1, q1⟩
  · exact q1.elim
theorem e_not (h1 : PE X e1 (rdE X.K cm W fa)) : PE X (.UnaryOp .Not e1 pos) (rdE X.K cm W (dNot fa)) := weakE (pe_not h1) fun σ H Q q => by
  obtain ⟨L, S, a, q⟩ := q
  refine ⟨L, S, a, (Aft.step (R := Rep X.K cm) q).mono fun v H1 z => ?_⟩
  obtain ⟨L1, S1, d, e1, x1, r1, q1⟩ := z
  unfold toB at q1
  split at q1
  · cases r1
    exact ⟨_, rfl, q1.give x1 (.bl _)⟩
  · exact q1.elim
theorem e_if (ht : PT X e (rdT X.K cm W ta)) (h1 : PE X e1 (rdE X.K cm W fa)) (h2 : PE X e2 (rdE X.K cm W fb)) : PE X (.IfExp e e1 e2 pos) (rdE X.K cm W (dIf ta fa fb)) := weakE (pe_ifExp ht h1 h2) fun σ H Q q => by
  obtain ⟨L, S, a, q⟩ := q
  refine ⟨L, S, a, (Aft.step (R := fun _ _ (b c : Bool) => b = c) q).mono fun v H1 z => ?_⟩
  obtain ⟨L1, S1, d, e1, x1, r1, q1⟩ := z
  subst r1
  cases d with
  | true => rw [if_pos rfl]; exact ⟨L1, S1, x1, q1⟩
  | false => rw [if_neg (by decide)]; exact ⟨L1, S1, x1, q1⟩
theorem a_nil : PA X [] (rdA X.K cm W dNil) := weakA pa_nil fun σ H Q q => by
  obtain ⟨L, S, a, q⟩ := q
  exact q.give a .nil
theorem a_cons (h : PE X e (rdE X.K cm W fa)) (hr : PA X es (rdA X.K cm W ga)) (hs : starEach (e :: es) X.env = (false, eval e X.env) :: starEach es X.env := by rfl) : PA X (e :: es) (rdA X.K cm W (dCons fa ga)) := weakA (pa_cons h hr hs) fun σ H Q q => by
  obtain ⟨L, S, a, q⟩ := q
  refine ⟨L, S, a, (Aft.step (R := Rep X.K cm) q).mono fun v H1 z => ?_⟩
  obtain ⟨L1, S1, d, e1, x1, r1, q1⟩ := z
  refine ⟨L1, S1, x1, (Aft.step (R := Reps X.K cm) q1).mono fun u H2 z => ?_⟩
  obtain ⟨L2, S2, d2, e2, x2, r2, q2⟩ := z
  exact q2.give x2 (.cons (r1.mono e2) r2)
theorem e_tup {x1} (h : PA X es (rdA X.K cm W ga)) : PE X (.Tuple es x1 pos) (rdE X.K cm W (dTup ga)) := weakE (pe_tup h) fun σ H Q q => by
  obtain ⟨L, S, a, q⟩ := q
  refine ⟨L, S, a, (Aft.step (R := Reps X.K cm) q).mono fun v H1 z => ?_⟩
  obtain ⟨L1, S1, d, e1, x1, r1, q1⟩ := z
  split at q1
  · rename_i h
    refine ⟨mx_line (by rw [← r1.length]; exact h), fun p hp => ?_⟩
    exact q1.giveE (Ext.beside hp) (x1.beside hp) (.tup (.inl (.inl upd_same)) (r1.mono (Ext.beside hp)))
  · exact q1.elim
theorem e_lst (h : PA X es (rdA X.K cm W ga)) : PE X (.List es pos) (rdE X.K cm W (dLst ga)) := weakE (pe_lst h) fun σ H Q q => by
  obtain ⟨L, S, a, q⟩ := q
  refine ⟨L, S, a, (Aft.step (R := Reps X.K cm) q).mono fun v H1 z => ?_⟩
  obtain ⟨L1, S1, d, e1, x1, r1, q1⟩ := z
  split at q1
  · rename_i h
    exact ⟨mx_line (by rw [← r1.length]; exact h), fun p hp => give_new x1 r1 q1 hp⟩
  · exact q1.elim
end
end Den

namespace Den
open PySem L2

/-! ### 7. statements -/
def sNop : DSt := fun S => .ok .next S
def sSeq (a b : DSt) : DSt := fun S => (a S).bind fun f S1 => match f with
  | .next => b S1
  | f => .ok f S1
def sIf (t : DT) (a b : DSt) : DSt := fun S => (t S).bind fun c S1 => if c then a S1 else b S1
def sRet (e : DE) : DSt := fun S => (e S).bind fun d S1 => .ok (.ret d) S1
def sRetN : DSt := fun S => .ok (.ret .non) S
def sExpr (e : DE) : DSt := fun S => (e S).bind fun _ S1 => .ok .next S1
def sBrk : DSt := fun S => .ok .brk S
def sCont : DSt := fun S => .ok .cont S
abbrev DG := D → DS → Option DS
def gN (i : Nat) : DG := fun d S => some { S with loc := S.loc.set i (some d) }
def sAsg (e : DE) (g : DG) : DSt := fun S => (e S).bind fun d S1 => match g d S1 with
  | some S2 => .ok .next S2
  | none => .stuck
/-- targets one by one -/
abbrev DGs := List D → DS → Option DS
def gNil : DGs := fun ds S => match ds with
  | [] => some S
  | _ => none
def gCons (g : DG) (r : DGs) : DGs := fun ds S => match ds with
  | d :: t => (g d S).bind fun S1 => r t S1
  | [] => none
def gTup (n : Nat) (r : DGs) : DG := fun d S => match d with
  | .tup xs => if xs.length = n then r xs S else none
  | _ => none

section
variable (K : PySem.W.Frag) (cm : Str → Value) (W : WX)
/-- behind an assignment -/
def AftG (L : List Addr) (H : Hp) (r : Option DS) (Q : St → Hp → Prop) : Prop := match r with
  | some S' => ∀ L' H' σ', Ext K L H L' H' → AbS K cm L' H' S' σ' → Q σ' H'
  | none => False
def rdG (f : DG) : TG := fun v σ H Q => ∃ L S d, AbS K cm L H S σ ∧ Rep K cm L H d v ∧ AftG K cm L H (f d S) Q
def rdGs (f : DGs) : TGs := fun vs σ H Q => ∃ L S ds, AbS K cm L H S σ ∧ Reps K cm L H ds vs ∧ AftG K cm L H (f ds S) Q
end
section
variable {X : Cx} {cm : Str → Value} {W : WX} {e e1 e2 : Expr} {es : List Expr} {pos : Pos} {fa fb : DE} {ga : DA} {ta tb : DT} {sa sb : DSt} {st : Stmt} {rest rest2 : List Stmt}
theorem LocR.set {K : PySem.W.Frag} {L : List Addr} {H : Hp} {ls : List (Option D)} {σ : St} {d : D} {v : V} (h : LocR K cm L H ls σ) (r : Rep K cm L H d v) (i : Nat) : LocR K cm L H (ls.set i (some d)) (σ.set i (some v)) := by
  refine ⟨by rw [List.length_set, List.length_set]; exact h.1, fun j x q => ?_⟩
  by_cases hj : i = j
  · subst hj
    by_cases hl : i < ls.length
    · rw [List.getElem?_set_self hl] at q
      cases q
      exact ⟨v, List.getElem?_set_self (by rw [← h.1]; exact hl), r⟩
    · rw [List.getElem?_eq_none (by rw [List.length_set]; omega)] at q
      cases q
  · rw [List.getElem?_set_ne hj] at q
    rw [List.getElem?_set_ne hj]
    exact h.2 j x q
theorem AbS.set {K : PySem.W.Frag} {L : List Addr} {H : Hp} {S : DS} {σ : St} {d : D} {v : V} (a : AbS K cm L H S σ) (r : Rep K cm L H d v) (i : Nat) : AbS K cm L H { S with loc := S.loc.set i (some d) } (σ.set i (some v)) := ⟨a.hp, a.loc.set r i⟩
theorem AftG.ext {K : PySem.W.Frag} {L L1 : List Addr} {H H1 : Hp} {r : Option DS} {Q : St → Hp → Prop} (e : Ext K L H L1 H1) (h : AftG K cm L H r Q) : AftG K cm L1 H1 r Q := by
  cases r with
  | some S' => exact fun L' H' s x y => h L' H' s (e.trans x) y
  | none => exact h

theorem ss_nil : PSs X [] (rdS X.K cm W sNop) := weakSs pss_nil fun E σ H q => by
  obtain ⟨L, S, a, q⟩ := q
  exact q L H σ Ext.refl a
theorem rd_seq {E : Ends} {σ : St} {H : Hp} (q : rdS X.K cm W (sSeq sa sb) E σ H) : tSeq (rdS X.K cm W sa) (rdS X.K cm W sb) E σ H := by
  obtain ⟨L, S, a, q⟩ := q
  refine ⟨L, S, a, ?_⟩
  unfold sSeq at q
  generalize sa S = r at q
  cases r with
  | ok f S1 =>
    cases f with
    | next => exact fun L' H' σ' e x => ⟨L', S1, x, AftS.ext e q⟩
    | ret d => exact q
    | brk => exact q
    | cont => exact q
  | exc u S1 => exact q
  | stuck => exact q
theorem ss_cons (h1 : PS X st (rdS X.K cm W sa)) (h2 : PSs X rest (rdS X.K cm W sb)) : PSs X (st :: rest) (rdS X.K cm W (sSeq sa sb)) := weakSs (pss_cons h1 h2) fun _ _ _ => rd_seq
theorem ss_one (h1 : PS X st (rdS X.K cm W sa)) : PSs X [st] (rdS X.K cm W sa) := pss_one h1
theorem s_pass : PS X (.Pass pos) (rdS X.K cm W sNop) := weakS ps_pass fun E σ H q => by
  obtain ⟨L, S, a, q⟩ := q
  exact q L H σ Ext.refl a
theorem s_brk : PS X (.Break pos) (rdS X.K cm W sBrk) := weakS ps_break fun E σ H q => by
  obtain ⟨L, S, a, q⟩ := q
  exact q L H σ Ext.refl a
theorem s_cont : PS X (.Continue pos) (rdS X.K cm W sCont) := weakS ps_continue fun E σ H q => by
  obtain ⟨L, S, a, q⟩ := q
  exact q L H σ Ext.refl a
theorem s_expr (he : PE X e (rdE X.K cm W fa)) (hs : swapsWith e none pos.line X.env = pure false := by rfl) : PS X (.Expr e pos) (rdS X.K cm W (sExpr fa)) := weakS (ps_expr he hs) fun E σ H q => by
  obtain ⟨L, S, a, q⟩ := q
  refine ⟨L, S, a, (AftS.step (R := Rep X.K cm) q).mono fun v H1 z => ?_⟩
  obtain ⟨L1, S1, d, e1, x1, r1, q1⟩ := z
  exact q1 L1 H1 σ Ext.refl x1
theorem s_ret (he : PE X e (rdE X.K cm W fa)) : PS X (.Return (some e) pos) (rdS X.K cm W (sRet fa)) := weakS (ps_ret he) fun E σ H q => by
  obtain ⟨L, S, a, q⟩ := q
  refine ⟨L, S, a, (AftS.step (R := Rep X.K cm) q).mono fun v H1 z => ?_⟩
  obtain ⟨L1, S1, d, e1, x1, r1, q1⟩ := z
  exact q1 L1 H1 σ v Ext.refl x1 r1
theorem s_retN : PS X (.Return none pos) (rdS X.K cm W sRetN) := weakS ps_retN fun E σ H q => by
  obtain ⟨L, S, a, q⟩ := q
  exact q L H σ .non Ext.refl a .non
theorem s_if {c : Expr} {b1 b2 : List Stmt} (hc : PT X c (rdT X.K cm W ta)) (h1 : PSs X b1 (rdS X.K cm W sa)) (h2 : PSs X b2 (rdS X.K cm W sb)) : PS X (.If c b1 b2 pos) (rdS X.K cm W (sIf ta sa sb)) := weakS (ps_if hc h1 h2) fun E σ H q => by
  obtain ⟨L, S, a, q⟩ := q
  refine ⟨L, S, a, (AftS.step (R := fun _ _ (b c : Bool) => b = c) q).mono fun v H1 z => ?_⟩
  obtain ⟨L1, S1, d, e1, x1, r1, q1⟩ := z
  subst r1
  cases d with
  | true => rw [if_pos rfl]; exact ⟨L1, S1, x1, q1⟩
  | false => rw [if_neg (by decide)]; exact ⟨L1, S1, x1, q1⟩
theorem g_name {i : Nat} {x : Str} (hN : X.N.Nodup) (hi : X.N[i]? = some x) (hx : Loc X.env.scope x) (hf : X.fn x = true ∨ X.env.scope.names.lookup x = some .local := by first | exact .inl rfl | exact .inr rfl | assumption) : PG X (.Name x pos) (rdG X.K cm (gN i)) :=
  ⟨fun pins s σ H v u Q I r q => (pg_name hN hi hx hf).run pins s σ H v u Q I r (by
    obtain ⟨L, S, d, a, rd, q⟩ := q
    exact q L H _ Ext.refl (a.set rd i))⟩
theorem gs_nil : PGs X [] (rdGs X.K cm gNil) := ⟨fun pins s σ H vs us Q I r q => pgs_nil.run pins s σ H vs us Q I r (by
  obtain ⟨L, S, ds, a, rd, q⟩ := q
  cases rd with
  | nil => exact ⟨rfl, q L H _ Ext.refl a⟩
  | cons _ _ => exact q.elim)⟩
theorem gs_cons {g : DG} {gs : DGs} (h1 : PG X e (rdG X.K cm g)) (h2 : PGs X es (rdGs X.K cm gs)) (hs : (assignEach (e :: es) X.env).map (·.2) = assign e X.env :: (assignEach es X.env).map (·.2) := by rfl) : PGs X (e :: es) (rdGs X.K cm (gCons g gs)) :=
  ⟨fun pins s σ H vs us Q I r q => (pgs_cons h1 h2 hs).run pins s σ H vs us Q I r (by
    obtain ⟨L, S, ds, a, rd, q⟩ := q
    cases rd with
    | nil => exact q.elim
    | @cons d ds v vs r1 r2 =>
      refine ⟨v, vs, rfl, L, S, d, a, r1, ?_⟩
      unfold gCons at q
      dsimp only at q
      generalize g d S = z at q
      cases z with
      | some S1 => exact fun L' H' σ' e x => ⟨L', S1, ds, x, r2.mono e, AftG.ext e q⟩
      | none => exact q)⟩
theorem g_tup {n : Nat} {k : Nat} {gs : DGs} (hc : X.calm = true) (h : PGs X es (rdGs X.K cm gs)) (hn : (assignEach es X.env).length = n := by rfl) (hst : (assignEach es X.env).findIdx? (·.1) = none := by rfl) : PG X (.Tuple es k pos) (rdG X.K cm (gTup n gs)) :=
  ⟨fun pins s σ H v u Q I r q => (pg_tup hc h hn hst).run pins s σ H v u Q I r (by
    obtain ⟨L, S, d, a, rd, q⟩ := q
    unfold gTup at q
    split at q
    · split at q
      · rename_i hl
        cases rd with
        | tup hq rr => exact ⟨_, _, rfl, hq, by rw [← rr.length]; exact hl, L, S, _, a, rr, q⟩
      · exact q.elim
    · exact q.elim)⟩
theorem rd_asg {g : DG} {E : Ends} {σ : St} {H : Hp} (q : rdS X.K cm W (sAsg fa g) E σ H) : tAsg (rdE X.K cm W fa) (rdG X.K cm g) E σ H := by
  obtain ⟨L, S, a, q⟩ := q
  refine ⟨L, S, a, (AftS.step (R := Rep X.K cm) q).mono fun v H1 z => ?_⟩
  obtain ⟨L1, S1, d, e1, x1, r1, q1⟩ := z
  refine ⟨L1, S1, d, x1, r1, ?_⟩
  generalize g d S1 = z at q1
  cases z with
  | some S2 => exact fun L' H' σ' e x => q1 L' H' σ' e x
  | none => exact q1
theorem s_asg {tg : Expr} {g : DG} (he : PE X e (rdE X.K cm W fa)) (hg : PG X tg (rdG X.K cm g)) (hs : swapsWithSole [tg] e pos.line X.env = pure false := by rfl) (hw : swappedStores [tg] e X.env = pure none := by rfl)
    (h1 : (assignEach [tg] X.env).map (·.2) = [assign tg X.env] := by rfl) : PS X (.Assign [tg] e pos) (rdS X.K cm W (sAsg fa g)) := weakS (ps_asg he hg hs hw h1) fun _ _ _ => rd_asg
/-- a name -/
theorem s_set {i : Nat} {x : Str} {pos' : Pos} (hN : X.N.Nodup) (hi : X.N[i]? = some x) (hx : Loc X.env.scope x) (he : PE X e (rdE X.K cm W fa)) (hs : swapsWith e (some (.Name x pos')) pos.line X.env = pure false := by rfl)
    (hf : X.fn x = true ∨ X.env.scope.names.lookup x = some .local := by first | exact .inl rfl | exact .inr rfl | assumption) : PS X (.Assign [.Name x pos'] e pos) (rdS X.K cm W (sAsg fa (gN i))) := weakS (ps_set hN hi hx he hs hf) fun E σ H q => by
  obtain ⟨L, S, a, q⟩ := q
  refine ⟨L, S, a, (AftS.step (R := Rep X.K cm) q).mono fun v H1 z => ?_⟩
  obtain ⟨L1, S1, d, e1, x1, r1, q1⟩ := z
  exact q1 L1 H1 _ Ext.refl (x1.set r1 i)

/-! ### 8. loops over values that stand still -/
def forV (g : DG) (b : DSt) : List D → DSt
  | [] => fun S => .ok .next S
  | d :: ds => fun S => match g d S with
    | some S1 => (b S1).bind fun f S2 => match f with
      | .next => forV g b ds S2
      | .cont => forV g b ds S2
      | .brk => .ok .next S2
      | .ret d => .ok (.ret d) S2
    | none => .stuck
/-- what a for walks: values that stand still, or a list of ours -/
inductive Iter0 where
  | vals (xs : List D) | obj (n : Nat)
/-- a list of ours, as it stands at each turn -/
def forO (n : Nat) (g : DG) (b : DSt) : Nat → Nat → DSt
  | 0, _ => fun _ => .stuck
  | k + 1, i => fun S => match S.h[n]? with
    | some (.lst xs) => match xs[i]? with
      | none => .ok .next S
      | some d => match g d S with
        | some S1 => (b S1).bind fun f S2 => match f with
          | .next => forO n g b k (i + 1) S2
          | .cont => forO n g b k (i + 1) S2
          | .brk => .ok .next S2
          | .ret d => .ok (.ret d) S2
        | none => .stuck
    | _ => .stuck
def sFor (it : DS → Res Iter0) (g : DG) (b : DSt) : DSt := fun S => (it S).bind fun I S1 => match I with
  | .vals xs => forV g b xs S1
  | .obj n => forO n g b 100000 0 S1
section
variable (K : PySem.W.Frag) (cm : Str → Value)
/-- J walks the values xs -/
structure Walks0 (L : List Addr) (H : Hp) (xs : List D) (J : It) : Prop where
  go : ∀ L' H' i d, Ext K L H L' H' → xs[i]? = some d → J.go i H' ∧ ∀ x H2, J.yld i H' x H2 → Ext K L' H' L' H2 ∧ (∀ h, HAb K cm L' H' h → HAb K cm L' H2 h) ∧ Rep K cm L' H2 d x
  stop : ∀ L' H', Ext K L H L' H' → J.stop xs.length H'
def ItR (L : List Addr) (H : Hp) (I : Iter0) (J : It) : Prop := match I with
  | .vals xs => Walks0 K cm L H xs J
  | .obj n => ∃ a, L[n]? = some a ∧ J = Itl K a
end
/-- an iterable's reading -/
def rdI (K : PySem.W.Frag) (cm : Str → Value) (W : WX) (it : DS → Res Iter0) : TI := rd K cm W (ItR K cm) it
theorem for_vals {xs : List D} {J : It} {g : DG} {b : DSt} {E : Ends} {σ : St} {L1 : List Addr} {H1 : Hp} {S1 : DS} (wk : Walks0 X.K cm L1 H1 xs J) (x1 : AbS X.K cm L1 H1 S1 σ) (q1 : AftS X.K cm W L1 H1 (forV g b xs S1) E) :
    ∃ W' : Nat → Nat → St → Hp → Prop, (∃ m, W' 0 m σ H1) ∧ ∀ i m σ H, W' i m σ H → (J.stop i H ∧ E.nx σ H) ∨ (J.go i H ∧ ∃ N : St → Hp → Prop, (∀ σ' H', N σ' H' → ∃ m', m' < m ∧ W' (i + 1) m' σ' H') ∧
      ∀ x H', J.yld i H x H' → rdG X.K cm g x σ H' fun σ2 H2 => rdS X.K cm W b { E with nx := N, ct := N, bk := E.nx } σ2 H2) := by
  refine ⟨fun i m σ' H' => m = xs.length - i ∧ i ≤ xs.length ∧ ∃ L' S', Ext X.K L1 H1 L' H' ∧ AbS X.K cm L' H' S' σ' ∧ AftS X.K cm W L' H' (forV g b (xs.drop i) S') E, ⟨xs.length, by simp, Nat.zero_le _, L1, S1, Ext.refl, x1, q1⟩, ?_⟩
  rintro i m σ2 H2 ⟨rfl, hi, L2, S2, e2, x2, q2⟩
  by_cases hlt : i < xs.length
  · obtain ⟨go, yl⟩ := wk.go L2 H2 i xs[i] e2 (by simp [hlt])
    refine .inr ⟨go, fun σ' H' => i + 1 ≤ xs.length ∧ ∃ L' S', Ext X.K L1 H1 L' H' ∧ AbS X.K cm L' H' S' σ' ∧ AftS X.K cm W L' H' (forV g b (xs.drop (i + 1)) S') E, fun σ' H' z => ⟨xs.length - (i + 1), by omega, rfl, z⟩, fun x H3 y => ?_⟩
    obtain ⟨e3, hb, rx⟩ := yl x H3 y
    rw [List.drop_eq_getElem_cons hlt] at q2
    refine ⟨L2, S2, xs[i], ⟨hb _ x2.hp, x2.loc.mono e3⟩, rx, ?_⟩
    have q3 := AftS.ext e3 q2
    unfold forV at q3
    generalize g xs[i] S2 = z at q3
    cases z with
    | some S3 =>
      refine fun L4 H4 σ4 e4 x4 => ⟨L4, S3, x4, ?_⟩
      have q4 := AftS.ext e4 q3
      dsimp only at q4
      have e14 := (e2.trans e3).trans e4
      generalize b S3 = z at q4
      cases z with
      | ok f S5 =>
        cases f with
        | next => exact fun L' H' σ' e x => ⟨hlt, L', S5, e14.trans e, x, AftS.ext e q4⟩
        | cont => exact fun L' H' σ' e x => ⟨hlt, L', S5, e14.trans e, x, AftS.ext e q4⟩
        | brk => exact q4
        | ret d => exact q4
      | exc u S5 => exact q4
      | stuck => exact q4
    | none => exact q3
  · have e0 : i = xs.length := by omega
    subst e0
    rw [List.drop_length] at q2
    exact .inl ⟨wk.stop L2 H2 e2, q2 L2 H2 σ2 Ext.refl x2⟩
theorem for_core {it : DS → Res Iter0} {g : DG} {b : DSt} {E : Ends} {σ : St} {H : Hp} (q : rdS X.K cm W (sFor it g b) E σ H) : tFor (rdI X.K cm W it) (rdG X.K cm g) (rdS X.K cm W b) E σ H := by
  obtain ⟨L, S, a, q⟩ := q
  refine ⟨L, S, a, (AftS.step (R := ItR X.K cm) q).mono fun J H1 z => ?_⟩
  obtain ⟨L1, S1, I, e1, x1, r1, q1⟩ := z
  cases I with
  | vals xs =>
    exact for_vals r1 x1 q1
  | obj n =>
    obtain ⟨p, hp, rfl⟩ := r1
    refine ⟨fun i m σ' H' => ∃ L' S', Ext X.K L1 H1 L' H' ∧ AbS X.K cm L' H' S' σ' ∧ AftS X.K cm W L' H' (forO n g b m i S') E, ⟨100000, L1, S1, Ext.refl, x1, q1⟩, ?_⟩
    rintro i m σ2 H2 ⟨L2, S2, e2, x2, q2⟩
    cases m with
    | zero => exact q2.elim
    | succ m =>
      unfold forO at q2
      split at q2
      · rename_i xs hx
        obtain ⟨a2, vs, ea, hL, hH, rr⟩ := x2.lst (.ref (e2.ix hp)) hx
        obtain rfl : p = a2 := by cases ea; rfl
        split at q2
        · rename_i hn
          refine .inl ⟨⟨vs, SqL.of hH, ?_⟩, q2 L2 H2 σ2 Ext.refl x2⟩
          have := List.getElem?_eq_none_iff.mp hn
          rw [← rr.length]; exact this
        · rename_i d hd
          obtain ⟨v, hv, rv⟩ := rr.get hd
          refine .inr ⟨⟨vs, v, SqL.of hH, hv⟩, fun σ' H' => ∃ L' S', Ext X.K L1 H1 L' H' ∧ AbS X.K cm L' H' S' σ' ∧ AftS X.K cm W L' H' (forO n g b m (i + 1) S') E, fun σ' H' z => ⟨m, Nat.lt_succ_self _, z⟩, fun x H3 y => ?_⟩
          obtain ⟨eH, hy⟩ := y
          subst eH
          have ev := hy vs (SqL.of hH)
          rw [hv] at ev
          cases ev
          refine ⟨L2, S2, d, x2, rv, ?_⟩
          generalize g d S2 = z at q2
          cases z with
          | some S3 =>
            refine fun L4 H4 σ4 e4 x4 => ⟨L4, S3, x4, ?_⟩
            have q4 := AftS.ext e4 q2
            dsimp only at q4
            have e14 := e2.trans e4
            generalize b S3 = z at q4
            cases z with
            | ok f S5 =>
              cases f with
              | next => exact fun L' H' σ' e x => ⟨L', S5, e14.trans e, x, AftS.ext e q4⟩
              | cont => exact fun L' H' σ' e x => ⟨L', S5, e14.trans e, x, AftS.ext e q4⟩
              | brk => exact q4
              | ret d => exact q4
            | exc u S5 => exact q4
            | stuck => exact q4
          | none => exact q2
      · exact q2.elim
theorem s_for {tg iter : Expr} {body : List Stmt} {it : DS → Res Iter0} {g : DG} {b : DSt} (hp : PassesOwn (model X.prog X.w) X.A X.env X.xe) (hc : X.calm = true) (hi : PI X tg iter (rdI X.K cm W it)) (hg : PG X tg (rdG X.K cm g)) (hb : PSs X body (rdS X.K cm W b))
    (hs : ∀ x, foldedSetIterable iter X.env x = pure x := by intro _; rfl) : PS X (.For tg iter body [] pos) (rdS X.K cm W (sFor it g b)) := weakS (ps_for hp hc hi hg hb hs) fun _ _ _ => for_core
end
end Den

namespace Den
open PySem L2

/-! ### 9. defs: promises over plain values; nothing in the middle of being shown -/
/-- a def that keeps its promise wherever no display is under way -/
structure FnG (P : Program) (w : World) (K : PySem.W.Frag) (mg : Str → Option Value) (base : Heap) (k : Nat) (f : Addr) (fd : FuncData) (ps : List Str) (sp : Sp) : Prop where
  len : ∀ vs H Q E, sp vs H Q E → vs.length = ps.length
  run : ∀ (A : Around) (fr : List Env) (s : Shared) (H : Hp) (args : Args) (us : List Value) (vs : List V) (Q : VK) (E : XK), Room k A → A.guards = some [] → Env0 P w K mg base A fr s H →
    BindsTo s fd args (ps.zip us) → Vals vs us → sp vs H Q E → codeAny (model P w) A (.call (.ref f) args) (CR (L2.CX P w) fr P w H s Q E) s
theorem FnG.mono {P : Program} {w : World} {K : PySem.W.Frag} {mg : Str → Option Value} {base : Heap} {j k : Nat} {f : Addr} {fd : FuncData} {ps : List Str} {sp : Sp} (F : FnG P w K mg base j f fd ps sp) (h : j ≤ k) : FnG P w K mg base k f fd ps sp :=
  ⟨F.len, fun A fr s H args us vs Q E r => F.run A fr s H args us vs Q E (r.mono h)⟩
def wOf (E : XK) : WX := fun c d _ H => E c d H
/-- the promise of a plain def -/
def spD (K : PySem.W.Frag) (cm : Str → Value) (np : Nat) (F : Fn) : Sp := fun vs H Q E => ∃ L ds h, AbS K cm L H ⟨[], h⟩ [] ∧ Reps K cm L H ds vs ∧ ds.length = np ∧ Aft K cm (wOf E) (Rep K cm) L [] H (F ds h) Q
/-- a body as a plain def -/
def runB (n : Nat) (b : DSt) : Fn := fun ds h => match b ⟨ds.map some ++ List.replicate (n - ds.length) none, h⟩ with
  | .ok (.ret d) S => .ok d ⟨[], S.h⟩
  | .ok .next S => .ok .non ⟨[], S.h⟩
  | .ok _ _ => .stuck
  | .exc e S => .exc e ⟨[], S.h⟩
  | .stuck => .stuck
theorem AbS.bare {K : PySem.W.Frag} {cm : Str → Value} {L : List Addr} {H : Hp} {S : DS} {σ : L2.St} (a : AbS K cm L H S σ) : AbS K cm L H ⟨[], S.h⟩ [] := ⟨a.hp, rfl, fun i d h => by simp at h⟩
theorem loc_start {K : PySem.W.Frag} {cm : Str → Value} {L : List Addr} {H : Hp} {ds : List D} {vs : List V} (N : List Str) (r : Reps K cm L H ds vs) : LocR K cm L H (ds.map some ++ List.replicate (N.length - ds.length) none) (L2.start N vs) := by
  unfold L2.start
  refine ⟨by simp [r.length], fun i d h => ?_⟩
  by_cases hi : i < ds.length
  · rw [List.getElem?_append_left (by simpa using hi), List.getElem?_map] at h
    cases q : ds[i]? with
    | none => rw [q] at h; cases h
    | some x =>
      rw [q] at h
      cases h
      obtain ⟨v, hv, rv⟩ := r.get q
      refine ⟨v, ?_, rv⟩
      rw [List.getElem?_append_left (by simpa [← r.length] using hi), List.getElem?_map, hv]
      rfl
  · rw [List.getElem?_append_right (by simpa using hi), List.getElem?_replicate] at h
    split at h <;> cases h
section
variable {P : Program} {w : World} {K : PySem.W.Frag} {mg : Str → Option Value} {base : Heap} {cm : Str → Value}
theorem aft_run {L : List Addr} {H : Hp} {Q : VK} {E : XK} {n : Nat} {b : DSt} {ds : List D} {h : List Ob} (q : Aft K cm (wOf E) (Rep K cm) L [] H (runB n b ds h) Q) :
    AftS K cm (wOf E) L H (b ⟨ds.map some ++ List.replicate (n - ds.length) none, h⟩) { nx := fun _ H' => Q .non H', rt := Q } := by
  unfold runB at q
  generalize b ⟨ds.map some ++ List.replicate (n - ds.length) none, h⟩ = r at q
  cases r with
  | ok f S =>
    cases f with
    | next => exact fun L' H' σ' e x => q L' H' .non e x.bare .non
    | ret d => exact fun L' H' σ' v e x r => q L' H' v e x.bare r
    | brk => exact q.elim
    | cont => exact q.elim
  | exc e S => exact fun L' H' σ' c dx e x r => q L' H' c dx e x.bare r
  | stuck => exact q
/-- THE RULE of a def: from its body's plain form -/
theorem FnG.of {x qual : Str} {st : Stmt} {f : Addr} {fd : FuncData} {N ps : List Str} {k : Nat} {b : DSt} (F : Fun K x qual st f fd) (S : FnScope N ps (defScope st))
    (hbody : ∀ (cdv : Value) (A : Around) (fr : List Env) (s : Shared) (H : Hp) (E : XK), Room k (A.deeper (PyProof.Rows.envOfC qual (defScope st) s.heap.objs.size f cdv)) → (A.deeper (PyProof.Rows.envOfC qual (defScope st) s.heap.objs.size f cdv)).guards = some [] →
      PSs (cxOf (L2.CX P w) P w K mg base N qual (defScope st) f cdv A fr s H E) (defBody st) (rdS K cm (wOf E) b)) : FnG P w K mg base (k + 1) f fd ps (spD K cm ps.length (runB N.length b)) := by
  constructor
  · rintro vs H Q E ⟨L, ds, h, _, r, e, _⟩
    rw [← r.length, e]
  · rintro A fr s H args us vs Q E hr hg e0 hb rv ⟨L, ds, h, ab, rr, hn, q⟩
    obtain ⟨oc, od, kV, doc, pm, an, cdv, ct, osl, rfl, lk, hcd⟩ := F.ex
    have keep : ∀ (b : Addr) (o : Obj), base.get? b = some o → s.heap.get? b = some o := fun b o z => (e0.bs b o z).1
    have inK : K.In s.heap := e0.mod.kin.keeps keep
    have free : s.heap.NoLimit := e0.mod.nolimit.keeps keep
    have hl : vs.length = ps.length := by rw [← rr.length]; exact hn
    have kinds : ∀ z ∈ ps.zip us, (defScope st).names.lookup z.1 = some .local ∨ ((defScope st).names.lookup z.1 = some .cell ∧ ((cellsFrom (s.heap.objs.size + 1) (defScope st).names []).lookup z.1).isSome = true) := by
      rintro ⟨y, v⟩ hz
      rcases S.par y (List.of_mem_zip hz).1 with q | q
      · exact Or.inl q
      · exact Or.inr ⟨q, PySem.W.cellsFrom_some _ _ _ (Or.inl q)⟩
    apply codeAny_call_function hr.depth (inK _ _ lk) rfl S.co S.gen rfl (PySem.W.codeRec_of inK hcd)
    apply hb
    apply wpAny_newFunctionEnv_cells S.kind kinds
    rintro env rfl s1 x1
    refine ⟨free.keeps x1.toInCall.keep, codeAny_func ?_⟩
    have B := hbody cdv A fr s H E (hr.deeper _) hg
    have I := inv_start (CX := L2.CX P w) (E := E) S hr.hd e0 hl rv x1
    have start0 : AbS K cm L H ⟨ds.map some ++ List.replicate (N.length - ds.length) none, h⟩ (L2.start N vs) := ⟨ab.hp, loc_start N rr⟩
    apply wpAny_mono (B.run [] s1 (L2.start N vs) H { nx := fun _ H' => Q .non H', rt := Q } I ⟨L, _, start0, aft_run q⟩)
    · intro fl s2 h2
      cases fl with
      | ret u =>
        obtain ⟨v, σ2, H2, J, ru, q2⟩ := h2
        exact ⟨v, H2, J.os, J.bare, J.base, J.hok, ru, q2⟩
      | next =>
        obtain ⟨σ2, H2, J, q2⟩ := h2
        exact ⟨V.non, H2, J.os, J.bare, J.base, J.hok, rfl, q2⟩
      | brk => obtain ⟨_, _, _, q2⟩ := h2; exact q2.elim
      | cont => obtain ⟨_, _, _, q2⟩ := h2; exact q2.elim
    · exact fun _ _ z => z
end

/-! ### 10. calls -/
def dCall (F : Fn) (a : DA) : DE := fun S => (a S).bind fun ds S1 => match F ds S1.h with
  | .ok d S2 => .ok d ⟨S1.loc, S2.h⟩
  | .exc e S2 => .exc e ⟨S1.loc, S2.h⟩
  | .stuck => .stuck
section
variable {X : Cx} {cm : Str → Value} {W : WX} {k : Nat} {f : Addr} {fd : FuncData} {ps : List Str} {sp : Sp} {x : Str} {p pos : Pos} {e : Expr} {es : List Expr} {F0 : Fn} {ga : DA} {np : Nat}
theorem run_g {pins : List (Addr × Obj)} {σ : L2.St} {H : Hp} {s : Shared} {Q : VK} {us : List Value} {vs : List V} {args : Args} (F : FnG X.prog X.w X.K X.mg X.base k f fd ps sp) (hr : Room k X.A) (hg : X.A.guards = some []) (tk : Takes X W)
    (hb : BindsTo s fd args (ps.zip us)) (I : Inv X pins σ H s) (r : Vals vs us) (h : sp vs H Q (WE W σ)) : codeAny (model X.prog X.w) X.A (.call (.ref f) args) (callEnd (EP X pins σ Q) X.xe) s := by
  refine codeAny_mono (F.run X.A X.stack s H args us vs Q (WE W σ) hr hg I.env0 hb r h) fun r' s' hq => ?_
  cases r' with
  | error er => exact passAt tk σ pins H s er s' I hq
  | ok fl =>
    cases fl with
    | ret u => exact I.after hq
    | next => exact hq.elim
    | brk => exact hq.elim
    | cont => exact hq.elim
/-- a call's reading over a promise -/
theorem rd_call {σ : L2.St} {H : Hp} {Q : VK} (q : rdE X.K cm W (dCall F0 ga) σ H Q) (hn : ∀ ds S S1, ga S = .ok ds S1 → ds.length = np) : rdA X.K cm W ga σ H (fun vs H1 => spD X.K cm np F0 vs H1 Q (WE W σ)) := by
  obtain ⟨L, S, a, q⟩ := q
  refine ⟨L, S, a, ?_⟩
  unfold dCall at q
  have hl : ∀ ds S1, ga S = .ok ds S1 → ds.length = _ := fun ds S1 h => hn ds S S1 h
  generalize hr : ga S = r at q hl
  cases r with
  | ok ds S1 =>
    intro L1 H1 vs e1 x1 r1
    refine ⟨L1, ds, S1.h, x1.bare, r1, hl _ _ rfl, ?_⟩
    rw [Res.bind_ok] at q
    have q1 := Aft.ext e1 q
    generalize F0 ds S1.h = z at q1
    cases z with
    | ok d S2 => exact fun L2 H2 v e2 x2 r2 => q1 L2 H2 v e2 ⟨x2.hp, x1.loc.mono e2⟩ r2
    | exc u S2 => exact fun L2 H2 c dx e2 x2 r2 => q1 L2 H2 c dx e2 ⟨x2.hp, x1.loc.mono e2⟩ r2
    | stuck => exact q1
  | exc u S1 => exact q
  | stuck => exact q
/-- how many values an argument list gives -/
def Cnt (ga : DA) (n : Nat) : Prop := ∀ ds S S1, ga S = .ok ds S1 → ds.length = n
theorem cnt_nil : Cnt dNil 0 := fun ds S S1 h => by
  cases h; rfl
theorem cnt_cons {fa : DE} {ga : DA} {n : Nat} (h : Cnt ga n) : Cnt (dCons fa ga) (n + 1) := fun ds S S1 q => by
  unfold dCons at q
  cases e1 : fa S with
  | ok d S2 =>
    rw [e1, Res.bind_ok] at q
    cases e2 : ga S2 with
    | ok es S3 =>
      rw [e2, Res.bind_ok] at q
      cases q
      rw [List.length_cons, h _ _ _ e2]
    | exc u S3 => rw [e2] at q; cases q
    | stuck => rw [e2] at q; cases q
  | exc u S2 => rw [e1] at q; cases q
  | stuck => rw [e1] at q; cases q
theorem e_call (F : FnG X.prog X.w X.K X.mg X.base k f fd ps (spD X.K cm np F0)) (hr : Room k X.A) (hg : X.A.guards = some []) (tk : Takes X W) (hx : Gl X x) (hm : X.mg x = some (.ref f)) (hk : PySem.W.keepIn X.K (.ref f) = true) (hb : Binds X.K fd ps [])
    (ha : PA X (e :: es) (rdA X.K cm W ga)) (hn : Cnt ga np) (hdb : (x == ("__debug__" : Str)) = false := by decide) (he : starEach (e :: es) X.env = (false, eval e X.env) :: starEach es X.env := by rfl) (hpl : (backTo pos (starEach es X.env)).any (·.1) = false := by rfl) :
    PE X (.Call (.Name x p) (e :: es) [] pos) (rdE X.K cm W (dCall F0 ga)) := by
  constructor
  intro pins s σ H Q I q
  apply wpAny_Call_Name_kw
  apply ld_glob I hx hm _ hdb
  apply PySem.W.callWith_K (h₀ := X.base) I.ok.mod.kin hk _ he hpl
  apply thn (ha.run pos pins s σ H _ I (rd_call q hn))
  intro us s1 h1
  obtain ⟨vs, H1, I1, r1, q1⟩ := h1
  have hl : us.length = ps.length := by rw [← r1.length]; exact F.len _ _ _ _ q1
  have b := hb s1 us I1.kIn (by simpa using hl)
  rw [List.append_nil] at b
  exact ⟨I1.kIn, wpAny_call (run_g F hr hg tk b I1 r1 q1)⟩
theorem e_call0 (F : FnG X.prog X.w X.K X.mg X.base k f fd ps (spD X.K cm 0 F0)) (hr : Room k X.A) (hg : X.A.guards = some []) (tk : Takes X W) (hx : Gl X x) (hm : X.mg x = some (.ref f)) (hk : PySem.W.keepIn X.K (.ref f) = true) (hb : Binds X.K fd ps [])
    (hdb : (x == ("__debug__" : Str)) = false := by decide) : PE X (.Call (.Name x p) [] [] pos) (rdE X.K cm W (dCall F0 dNil)) := by
  constructor
  intro pins s σ H Q I q
  apply wpAny_Call_Name_kw
  apply ld_glob I hx hm _ hdb
  obtain ⟨L, S, a, q1⟩ := rd_call (np := 0) q cnt_nil
  have q2 := q1.give a .nil
  have hl : ([] : List Value).length = ps.length := F.len _ _ _ _ q2
  have b := hb s [] I.kIn (by simpa using hl)
  exact PySem.W.callWith_K0 I.kIn hk (wpAny_call (run_g F hr hg tk b I .nil q2))
/-- values by their places -/
def pick {α : Type} (perm : List Nat) (l : List α) : List α := perm.filterMap fun i => l[i]?
theorem pick_reps {K : PySem.W.Frag} {L : List Addr} {H : Hp} {ds : List D} {vs : List V} (r : Reps K cm L H ds vs) : ∀ perm : List Nat, Reps K cm L H (pick perm ds) (pick perm vs)
  | [] => .nil
  | i :: p => by
    unfold pick
    rw [List.filterMap_cons, List.filterMap_cons]
    cases hd : ds[i]? with
    | none =>
      have hv : vs[i]? = none := by
        rw [List.getElem?_eq_none_iff] at hd ⊢
        rw [← r.length]; exact hd
      rw [hv]
      exact pick_reps r p
    | some d =>
      obtain ⟨v, hv, rv⟩ := r.get hd
      rw [hv]
      exact .cons rv (pick_reps r p)
theorem pick_vals {vs : List V} {us : List Value} (r : Vals vs us) : ∀ perm : List Nat, Vals (pick perm vs) (pick perm us)
  | [] => .nil
  | i :: p => by
    unfold pick
    rw [List.filterMap_cons, List.filterMap_cons]
    cases hv : vs[i]? with
    | none =>
      rw [r.none_of hv]
      exact pick_vals r p
    | some v =>
      obtain ⟨u, hu, ru⟩ := r.get hv
      rw [hu]
      exact .cons ru (pick_vals r p)
def dCallK (F : Fn) (perm : List Nat) (a z : DA) : DE := fun S => (a S).bind fun ds S1 => (z S1).bind fun es S2 => match F (pick perm (ds ++ es)) S2.h with
  | .ok d S3 => .ok d ⟨S2.loc, S3.h⟩
  | .exc e S3 => .exc e ⟨S2.loc, S3.h⟩
  | .stuck => .stuck
/-- keywords: n positional values, the keywords ks; where each parameter's value stands -/
def KB (fd : FuncData) (ps : List Str) (n : Nat) (ks : List Str) (perm : List Nat) : Prop := ∀ us ws : List Value, us.length = n → ws.length = ks.length → bindArgs fd ⟨us, ks.zip ws⟩ = pure (ps.zip (pick perm (us ++ ws)))
theorem kb_of {y qual : Str} {st : Stmt} {n : Nat} {ks : List Str} {perm : List Nat} {K : PySem.W.Frag} (F : Fun K y qual st f fd) (h : ∀ (kV doc pm : Value) (an : Option Addr) (cdv ct : Value) (us ws : List Value), us.length = n → ws.length = ks.length →
    bindArgs (PySem.W.fnOf y qual (defArgs st) (defBody st) (defScope st) .none kV doc pm an cdv ct) ⟨us, ks.zip ws⟩ = pure (ps.zip (pick perm (us ++ ws)))) : KB fd ps n ks perm := by
  obtain ⟨oc, od, kV, doc, pm, an, cdv, ct, osl, rfl, _, _⟩ := F.ex
  exact h kV doc pm an cdv ct
theorem k_nil : PK X [] (rdA X.K cm W dNil) := ⟨fun pos pins s σ H Q I q => pk_nil.run pos pins s σ H Q I (by
  obtain ⟨L, S, a, q⟩ := q
  exact q.give a .nil)⟩
theorem k_cons {nm : Option Str} {kpos : Pos} {kws : List Keyword} {fa : DE} (h : PE X e (rdE X.K cm W fa)) (hr : PK X kws (rdA X.K cm W ga)) : PK X (⟨nm, e, kpos⟩ :: kws) (rdA X.K cm W (dCons fa ga)) := ⟨fun pos pins s σ H Q I q => (pk_cons h hr).run pos pins s σ H Q I (by
  obtain ⟨L, S, a, q⟩ := q
  refine ⟨L, S, a, (Aft.step (R := Rep X.K cm) q).mono fun v H1 z => ?_⟩
  obtain ⟨L1, S1, d, e1, x1, r1, q1⟩ := z
  refine ⟨L1, S1, x1, (Aft.step (R := Reps X.K cm) q1).mono fun u H2 z => ?_⟩
  obtain ⟨L2, S2, d2, e2, x2, r2, q2⟩ := z
  exact q2.give x2 (.cons (r1.mono e2) r2))⟩
theorem rd_callK {gz : DA} {perm : List Nat} {σ : L2.St} {H : Hp} {Q : VK} {n m : Nat} (q : rdE X.K cm W (dCallK F0 perm ga gz) σ H Q) (hn : Cnt ga n) (hm : Cnt gz m) (hp : ∀ l : List D, l.length = n + m → (pick perm l).length = np) :
    rdA X.K cm W ga σ H (fun vs H1 => vs.length = n ∧ rdA X.K cm W gz σ H1 (fun zs H2 => zs.length = m ∧ spD X.K cm np F0 (pick perm (vs ++ zs)) H2 Q (WE W σ))) := by
  obtain ⟨L, S, a, q⟩ := q
  refine ⟨L, S, a, ?_⟩
  unfold dCallK at q
  have hl : ∀ ds S1, ga S = .ok ds S1 → ds.length = _ := fun ds S1 h => hn ds S S1 h
  generalize hr : ga S = r at q hl
  cases r with
  | ok ds S1 =>
    intro L1 H1 vs e1 x1 r1
    refine ⟨by rw [← r1.length]; exact hl _ _ rfl, L1, S1, x1, ?_⟩
    rw [Res.bind_ok] at q
    have q1 := Aft.ext e1 q
    have hl2 : ∀ es S2, gz S1 = .ok es S2 → es.length = _ := fun es S2 h => hm es S1 S2 h
    generalize hr2 : gz S1 = r at q1 hl2
    cases r with
    | ok es S2 =>
      intro L2 H2 zs e2 x2 r2
      refine ⟨by rw [← r2.length]; exact hl2 _ _ rfl, ?_⟩
      rw [Res.bind_ok] at q1
      have q2 := Aft.ext e2 q1
      refine ⟨L2, pick perm (ds ++ es), S2.h, x2.bare, pick_reps ((r1.mono e2).append r2) perm, hp _ (by rw [List.length_append, hl _ _ rfl, hl2 _ _ rfl]), ?_⟩
      generalize F0 (pick perm (ds ++ es)) S2.h = z at q2
      cases z with
      | ok d S3 => exact fun L3 H3 v e3 x3 r3 => q2 L3 H3 v e3 ⟨x3.hp, x2.loc.mono e3⟩ r3
      | exc u S3 => exact fun L3 H3 c dx e3 x3 r3 => q2 L3 H3 c dx e3 ⟨x3.hp, x2.loc.mono e3⟩ r3
      | stuck => exact q2
    | exc u S2 => exact q1
    | stuck => exact q1
  | exc u S1 => exact q
  | stuck => exact q
/-- f(e, .., k = v, ..) -/
theorem e_callK {gz : DA} {perm : List Nat} {n m : Nat} {ks : List Str} {kws : List Keyword} (F : FnG X.prog X.w X.K X.mg X.base k f fd ps (spD X.K cm np F0)) (hr : Room k X.A) (hg : X.A.guards = some []) (tk : Takes X W) (hx : Gl X x) (hm : X.mg x = some (.ref f)) (hk : PySem.W.keepIn X.K (.ref f) = true)
    (hb : KB fd ps n ks perm) (ha : PA X (e :: es) (rdA X.K cm W ga)) (hz : PK X kws (rdA X.K cm W gz)) (hn : Cnt ga n) (hmm : Cnt gz m) (hp : ∀ l : List D, l.length = n + m → (pick perm l).length = np) (hkm : ks.length = m := by rfl)
    (hall : (backToKw pos (keywordEach kws X.env)).all (·.1.isSome) = true := by rfl) (hks : (backToKw pos (keywordEach kws X.env)).filterMap (·.1) = ks := by rfl) (hdb : (x == ("__debug__" : Str)) = false := by decide)
    (he : starEach (e :: es) X.env = (false, eval e X.env) :: starEach es X.env := by rfl) (hpl : ((backTo pos (starEach (e :: es) X.env)).any (·.1) || (backToKw pos (keywordEach kws X.env)).any (·.1.isNone)) = false := by rfl) :
    PE X (.Call (.Name x p) (e :: es) kws pos) (rdE X.K cm W (dCallK F0 perm ga gz)) := by
  constructor
  intro pins s σ H Q I q
  apply wpAny_Call_Name_kw
  apply ld_glob I hx hm _ hdb
  apply PySem.W.callWith_KW (h₀ := X.base) I.ok.mod.kin hk hall _ hpl he
  apply thn (ha.run pos pins s σ H _ I (rd_callK q hn hmm hp))
  rintro us s1 ⟨vs, H1, I1, r1, l1, q1⟩
  apply thn (hz.run pos pins s1 σ H1 _ I1 q1)
  rintro ws s2 ⟨zs, H2, I2, r2, l2, q2⟩
  have b : BindsTo s2 fd ⟨us, ks.zip ws⟩ (ps.zip (pick perm (us ++ ws))) := .of_eq (hb us ws (by rw [← r1.length]; exact l1) (by rw [← r2.length, hkm]; exact l2))
  rw [hks]
  exact ⟨I2.kIn, wpAny_call (run_g F hr hg tk b I2 (pick_vals (r1.append r2) perm) q2)⟩
theorem e_callK0 {gz : DA} {perm : List Nat} {m : Nat} {ks : List Str} {kws : List Keyword} (F : FnG X.prog X.w X.K X.mg X.base k f fd ps (spD X.K cm np F0)) (hr : Room k X.A) (hg : X.A.guards = some []) (tk : Takes X W) (hx : Gl X x) (hm : X.mg x = some (.ref f)) (hk : PySem.W.keepIn X.K (.ref f) = true)
    (hb : KB fd ps 0 ks perm) (hz : PK X kws (rdA X.K cm W gz)) (hmm : Cnt gz m) (hp : ∀ l : List D, l.length = 0 + m → (pick perm l).length = np) (hkm : ks.length = m := by rfl)
    (hall : (backToKw pos (keywordEach kws X.env)).all (·.1.isSome) = true := by rfl) (hks : (backToKw pos (keywordEach kws X.env)).filterMap (·.1) = ks := by rfl) (hdb : (x == ("__debug__" : Str)) = false := by decide)
    (hpl : ((backTo pos (starEach [] X.env)).any (·.1) || (backToKw pos (keywordEach kws X.env)).any (·.1.isNone)) = false := by rfl) :
    PE X (.Call (.Name x p) [] kws pos) (rdE X.K cm W (dCallK F0 perm dNil gz)) := by
  constructor
  intro pins s σ H Q I q
  apply wpAny_Call_Name_kw
  apply ld_glob I hx hm _ hdb
  apply PySem.W.callWith_KW0 (h₀ := X.base) I.ok.mod.kin hk hall _ hpl
  obtain ⟨L, S, a, q0⟩ := rd_callK q cnt_nil hmm hp
  obtain ⟨_, q1⟩ := q0.give a .nil
  apply thn (hz.run pos pins s σ H _ I q1)
  rintro ws s2 ⟨zs, H2, I2, r2, l2, q2⟩
  have b : BindsTo s2 fd ⟨[], ks.zip ws⟩ (ps.zip (pick perm ([] ++ ws))) := .of_eq (hb [] ws rfl (by rw [← r2.length, hkm]; exact l2))
  rw [hks]
  exact ⟨I2.kIn, wpAny_call (run_g F hr hg tk b I2 (pick_vals (.append .nil r2) perm) q2)⟩
end
end Den

namespace Den
open PySem L2

/-! ### 11. built-in calls -/
theorem callR_or {X : Cx} {f : Value} {r r' : List V → Hp → VK → Prop} (h : CallR X f r) (h' : CallR X f r') : CallR X f (fun xs H Q => r xs H Q ∨ r' xs H Q) := by
  intro pins s σ H xs us Q I rv q
  rcases q with q | q
  · exact h pins s σ H xs us Q I rv q
  · exact h' pins s σ H xs us Q I rv q
section
variable (X : Cx) (cm : Str → Value) (W : WX)
def COp (r : List V → Hp → VK → Prop) (f : List D → DS → Res D) : Prop := ∀ {L : List Addr} {H : Hp} {S : DS} {σ : L2.St} {xs : List V} {ds : List D} {Q : VK}, AbS X.K cm L H S σ → Reps X.K cm L H ds xs →
  Aft X.K cm W (Rep X.K cm) L σ H (f ds S) Q → r xs H Q
/-- a method of a built-in's instance -/
def MOp (r : V → List V → Hp → VK → Prop) (f : D → List D → DS → Res D) : Prop := ∀ {L : List Addr} {H : Hp} {S : DS} {σ : L2.St} {x : V} {xs : List V} {d : D} {ds : List D} {Q : VK}, AbS X.K cm L H S σ → Rep X.K cm L H d x → Reps X.K cm L H ds xs →
  Aft X.K cm W (Rep X.K cm) L σ H (f d ds S) Q → r x xs H Q
end
def dCB (f : List D → DS → Res D) (a : DA) : DE := fun S => (a S).bind fun ds S1 => f ds S1
def cLen : List D → DS → Res D := fun ds S => match ds with
  | [.str x] => if x.length ≤ mxL then .ok (.int x.length) S else .stuck
  | [.tup xs] => .ok (.int xs.length) S
  | [.ro xs] => .ok (.int xs.length) S
  | [.ref n] => match S.h[n]? with
    | some (.lst xs) => .ok (.int xs.length) S
    | some (.dct kvs) => .ok (.int kvs.length) S
    | _ => .stuck
  | _ => .stuck
def cAbs : List D → DS → Res D := fun ds S => match ds with
  | [.int i] => .ok (.int (if i < 0 then -i else i)) S
  | _ => .stuck
def cInt : List D → DS → Res D := fun ds S => match ds with
  | [.int i] => .ok (.int i) S
  | [.bl b] => .ok (.int (if b then 1 else 0)) S
  | _ => .stuck
def cTuple : List D → DS → Res D := fun ds S => match ds with
  | [.tup xs] => .ok (.tup xs) S
  | [.ro xs] => .ok (.tup xs) S
  | [.ref n] => match S.h[n]? with
    | some (.lst xs) => .ok (.tup xs) S
    | _ => .stuck
  | _ => .stuck
def keyD : Key → D
  | .inl i => .int i
  | .inr x => .str x
def cList : List D → DS → Res D := fun ds S => match ds with
  | [.tup xs] => newO (.lst xs) S
  | [.ro xs] => newO (.lst xs) S
  | [.ref n] => match S.h[n]? with
    | some (.lst xs) => newO (.lst xs) S
    | some (.dct kvs) => newO (.lst (kvs.map fun kv => keyD kv.1)) S
    | _ => .stuck
  | _ => .stuck
/-- the built-in type's name -/
def tyName (S : DS) : D → Option String
  | .non => some "NoneType"
  | .bl _ => some "bool"
  | .int _ => some "int"
  | .str _ => some "str"
  | .tup _ => some "tuple"
  | .ro _ => some "list"
  | .ref n => match S.h[n]? with
    | some (.lst _) => some "list"
    | some (.dct _) => some "dict"
    | some (.fdct _) => some "dict"
    | none => none
  | _ => none
def isaB (a b : String) : Option Bool :=
  if ["NoneType", "bool", "int", "str", "tuple", "list", "dict"].contains a && ["bool", "int", "str", "tuple", "list", "dict"].contains b then some (a == b || (a == "bool" && b == "int")) else none
theorem isaB_ok {a b : String} {r : Bool} (h : isaB a b = some r) : kitB a b = some r := by
  unfold isaB at h
  split at h
  · rename_i hc
    obtain ⟨h1, h2⟩ := Bool.and_eq_true_iff.mp hc
    have m1 : a ∈ ["NoneType", "bool", "int", "str", "tuple", "list", "dict"] := by simpa using h1
    have m2 : b ∈ ["bool", "int", "str", "tuple", "list", "dict"] := by simpa using h2
    rw [← h]
    simp only [List.mem_cons, List.not_mem_nil, or_false] at m1 m2
    rcases m1 with rfl | rfl | rfl | rfl | rfl | rfl | rfl <;> rcases m2 with rfl | rfl | rfl | rfl | rfl | rfl <;> decide +kernel
  · cases h
def cIsi : List D → DS → Res D := fun ds S => match ds with
  | [d, .ty n] => match tyName S d with
    | some m => match isaB m n with
      | some b => .ok (.bl b) S
      | none => .stuck
    | none => .stuck
  | _ => .stuck
def cRepr : List D → DS → Res D := fun ds S => match ds with
  | [d] => match pyD S d with
    | some p => if PyData.showable p && !p.hasDict && decide (p.depth ≤ 30) && decide (p.shown.length ≤ mxL) then .ok (.str p.shown) S else .stuck
    | none => .stuck
  | _ => .stuck

section
variable {X : Cx} {cm : Str → Value} {W : WX} {e e1 e2 o : Expr} {es : List Expr} {x : Str} {p pos apos cpos : Pos} {fa fb fo : DE} {ga : DA}
theorem rd_cb {r : List V → Hp → VK → Prop} {f : List D → DS → Res D} (h : COp X cm W r f) {σ : L2.St} {H : Hp} {Q : VK} (q : rdE X.K cm W (dCB f ga) σ H Q) : tCB r (rdA X.K cm W ga) σ H Q := by
  obtain ⟨L, S, a, q⟩ := q
  refine ⟨L, S, a, (Aft.step (R := Reps X.K cm) q).mono fun v H1 z => ?_⟩
  obtain ⟨L1, S1, d, e1, x1, r1, q1⟩ := z
  exact h x1 r1 q1
theorem e_cb {id : String} {r : List V → Hp → VK → Prop} {f : List D → DS → Res D} (hc : CallR X (.builtin id) r) (h : COp X cm W r f) (hg : Gl X x) (hm : X.mg x = none) (hv : bootBuiltins x = some (.builtin id)) (ha : PA X (e :: es) (rdA X.K cm W ga))
    (hn : x ≠ "__name__" := by decide) (hdb : (x == ("__debug__" : Str)) = false := by decide) (he : starEach (e :: es) X.env = (false, eval e X.env) :: starEach es X.env := by rfl) (hpl : (backTo pos (starEach es X.env)).any (·.1) = false := by rfl) :
    PE X (.Call (.Name x p) (e :: es) [] pos) (rdE X.K cm W (dCB f ga)) := weakE (pe_callB hc hg hm hv ha hn hdb he hpl) fun _ _ _ => rd_cb h
theorem e_ct {T : String} {r : List V → Hp → VK → Prop} {f : List D → DS → Res D} (hc : CallR X (.type T) r) (h : COp X cm W r f) (hg : Gl X x) (hm : X.mg x = none) (hv : bootBuiltins x = some (.type T)) (ha : PA X (e :: es) (rdA X.K cm W ga))
    (hn : x ≠ "__name__" := by decide) (hdb : (x == ("__debug__" : Str)) = false := by decide) (he : starEach (e :: es) X.env = (false, eval e X.env) :: starEach es X.env := by rfl) (hpl : (backTo pos (starEach es X.env)).any (·.1) = false := by rfl) :
    PE X (.Call (.Name x p) (e :: es) [] pos) (rdE X.K cm W (dCB f ga)) := weakE (pe_callTy hc hg hm hv ha hn hdb he hpl) fun _ _ _ => rd_cb h
/-- a built-in class as a value -/
theorem e_ty {n : String} (hg : Gl X x) (hm : X.mg x = none) (hv : bootBuiltins x = some (.type n)) (hn : x ≠ "__name__" := by decide) (hd : (x == ("__debug__" : Str)) = false := by decide) : PE X (.Name x pos) (rdE X.K cm W (dC (.ty n))) :=
  weakE (pe_bltn (v := .ty n) hg hm hv rfl hn hd) fun _ _ _ => rd_c fun _ _ => .ty n
theorem repK_length {K : PySem.W.Frag} {L : List Addr} {H : Hp} : ∀ {ds : List (Key × D)} {vs : List (Key × V)}, RepK K cm L H ds vs → ds.length = vs.length
  | _, _, .nil => rfl
  | _, _, .cons _ t => by rw [List.length_cons, List.length_cons, repK_length t]
theorem co_len : COp X cm W (fun xs H Q => ((∃ z, xs = [.str z] ∧ z.length ≤ sizeLine ∧ Q (.int z.length) H) ∨ (∃ p ys, xs = [.ref p] ∧ (SqL X.K H p ys ∨ SqT X.K H p ys) ∧ Q (.int ys.length) H)) ∨ (∃ a kvs, xs = [V.ref a] ∧ H a = some (.dK kvs) ∧ Q (.int kvs.length) H)) cLen := by
  intro L H S σ xs ds Q a r q
  unfold cLen at q
  split at q
  · split at q
    · rename_i h
      cases r with
      | cons r1 r2 => cases r2; cases r1; exact .inl (.inl ⟨_, rfl, mx_line h, q.give a (.int _)⟩)
    · exact q.elim
  · cases r with
    | cons r1 r2 =>
      cases r2
      cases r1 with
      | tup h rr => exact .inl (.inr ⟨_, _, rfl, .inr h, by rw [← rr.length]; exact q.give a (.int _)⟩)
  · cases r with
    | cons r1 r2 =>
      cases r2
      cases r1 with
      | ro h rr => exact .inl (.inr ⟨_, _, rfl, .inl h.sq, by rw [← rr.length]; exact q.give a (.int _)⟩)
  · cases r with
    | cons r1 r2 =>
      cases r2
      split at q
      · rename_i h
        obtain ⟨p1, vs1, rfl, g1, e1, q1⟩ := a.lst r1 h
        exact .inl (.inr ⟨_, _, rfl, .inl (SqL.of e1), by rw [← q1.length]; exact q.give a (.int _)⟩)
      · rename_i h
        obtain ⟨p1, vs1, rfl, g1, e1, q1⟩ := a.dct r1 h
        exact .inr ⟨_, _, rfl, e1, by rw [← repK_length q1]; exact q.give a (.int _)⟩
      · exact q.elim
  · exact q.elim
theorem call_len_any : CallR X (.builtin "len") (fun xs H Q => ((∃ z, xs = [.str z] ∧ z.length ≤ sizeLine ∧ Q (.int z.length) H) ∨ (∃ p ys, xs = [.ref p] ∧ (SqL X.K H p ys ∨ SqT X.K H p ys) ∧ Q (.int ys.length) H)) ∨ (∃ a kvs, xs = [V.ref a] ∧ H a = some (.dK kvs) ∧ Q (.int kvs.length) H)) :=
  callR_or (callR_or call_len_str call_len_seq) call_lenD
theorem co_abs : COp X cm W (fun xs H Q => ∃ i, xs = [.int i] ∧ Q (.int (if i < 0 then -i else i)) H) cAbs := by
  intro L H S σ xs ds Q a r q
  unfold cAbs at q
  split at q
  · cases r with
    | cons r1 r2 => cases r2; cases r1; exact ⟨_, rfl, q.give a (.int _)⟩
  · exact q.elim
theorem co_int : COp X cm W (fun xs H Q => (∃ i, xs = [.int i] ∧ Q (.int i) H) ∨ ∃ k, xs = [.bl k] ∧ Q (.int (if k then 1 else 0)) H) cInt := by
  intro L H S σ xs ds Q a r q
  unfold cInt at q
  split at q
  · cases r with
    | cons r1 r2 => cases r2; cases r1; exact .inl ⟨_, rfl, q.give a (.int _)⟩
  · cases r with
    | cons r1 r2 => cases r2; cases r1; exact .inr ⟨_, rfl, q.give a (.int _)⟩
  · exact q.elim
theorem co_tuple : COp X cm W (fun xs H Q => ∃ p ys, xs = [.ref p] ∧ ((SqL X.K H p ys ∧ ∀ l, H l = none → Q (.ref l) (upd H l (.tup ys))) ∨ (SqT X.K H p ys ∧ Q (.ref p) H))) cTuple := by
  intro L H S σ xs ds Q a r q
  unfold cTuple at q
  split at q
  · cases r with
    | cons r1 r2 =>
      cases r2
      cases r1 with
      | tup h rr => exact ⟨_, _, rfl, .inr ⟨h, q.give a (.tup h rr)⟩⟩
  · cases r with
    | cons r1 r2 =>
      cases r2
      cases r1 with
      | ro h rr => exact ⟨_, _, rfl, .inl ⟨h.sq, fun l hl => q.giveE (Ext.beside hl) (a.beside hl) (.tup (.inl (.inl upd_same)) (rr.mono (Ext.beside hl)))⟩⟩
  · cases r with
    | cons r1 r2 =>
      cases r2
      split at q
      · rename_i h
        obtain ⟨p1, vs1, rfl, g1, e1, q1⟩ := a.lst r1 h
        exact ⟨_, _, rfl, .inl ⟨SqL.of e1, fun l hl => q.giveE (Ext.beside hl) (a.beside hl) (.tup (.inl (.inl upd_same)) (q1.mono (Ext.beside hl)))⟩⟩
      · exact q.elim
  · exact q.elim
theorem keys_reps {K : PySem.W.Frag} {L : List Addr} {H : Hp} : ∀ {ds : List (Key × D)} {vs : List (Key × V)}, RepK K cm L H ds vs → Reps K cm L H (ds.map fun kv => keyD kv.1) (vs.map fun kv => kV kv.1)
  | _, _, .nil => .nil
  | _, _, .cons (k := k) _ t => .cons (by cases k with
    | inl i => exact .int i
    | inr x => exact .str x) (keys_reps t)
theorem co_list : COp X cm W (fun xs H Q => (∃ p ys, xs = [.ref p] ∧ (SqL X.K H p ys ∨ SqT X.K H p ys) ∧ ∀ l, H l = none → Q (.ref l) (upd H l (.lst ys))) ∨ rListD xs H Q) cList := by
  intro L H S σ xs ds Q a r q
  unfold cList at q
  split at q
  · cases r with
    | cons r1 r2 =>
      cases r2
      cases r1 with
      | tup h rr => exact .inl ⟨_, _, rfl, .inr h, fun l hl => give_new a rr q hl⟩
  · cases r with
    | cons r1 r2 =>
      cases r2
      cases r1 with
      | ro h rr => exact .inl ⟨_, _, rfl, .inl h.sq, fun l hl => give_new a rr q hl⟩
  · cases r with
    | cons r1 r2 =>
      cases r2
      split at q
      · rename_i h
        obtain ⟨p1, vs1, rfl, g1, e1, q1⟩ := a.lst r1 h
        exact .inl ⟨_, _, rfl, .inl (SqL.of e1), fun l hl => give_new a q1 q hl⟩
      · rename_i h
        obtain ⟨p1, vs1, rfl, g1, e1, q1⟩ := a.dct r1 h
        exact .inr ⟨_, _, rfl, e1, fun l hl => give_new a (keys_reps q1) q hl⟩
      · exact q.elim
  · exact q.elim
theorem call_list_any (hc : X.calm = true) : CallR X (.type "list") (fun xs H Q => (∃ p ys, xs = [.ref p] ∧ (SqL X.K H p ys ∨ SqT X.K H p ys) ∧ ∀ l, H l = none → Q (.ref l) (upd H l (.lst ys))) ∨ rListD xs H Q) :=
  callR_or call_list_of (call_list_dK hc)
theorem ty_tup {K : PySem.W.Frag} {H : Hp} {a : Addr} {vs : List V} (h : SqT K H a vs) : TyX K H (.ref a) (.type "tuple") := by
  rcases h with (h | ⟨o, h⟩) | ⟨o, its, n, h, c, _⟩
  · exact .base (.tup h)
  · exact .fTuple h
  · exact .kTuple h c
theorem ty_lst {K : PySem.W.Frag} {H : Hp} {a : Addr} {vs : List V} (h : SqR K H a vs) : TyX K H (.ref a) (.type "list") := by
  rcases h with ⟨o, h⟩ | ⟨o, its, n, h, c, _⟩
  · exact .base (.frz h)
  · exact .kList h c
theorem ty_of {L : List Addr} {H : Hp} {S : DS} {σ : L2.St} {K : PySem.W.Frag} (a : AbS K cm L H S σ) {d : D} {v : V} (r : Rep K cm L H d v) {m : String} (h : tyName S d = some m) : TyX K H v (.type m) := by
  cases r with
  | non => cases h; exact .base .non
  | bl b => cases h; exact .base (.bl b)
  | int b => cases h; exact .base (.int b)
  | str b => cases h; exact .base (.str b)
  | ty n => cases h
  | cls n => cases h
  | tup hs _ => cases h; exact ty_tup hs
  | ro hs _ => cases h; exact ty_lst hs
  | @ref n p hL =>
    unfold tyName at h
    dsimp only at h
    split at h
    · rename_i xs hx
      cases h
      obtain ⟨vs, q, _⟩ := a.hp.obs _ _ _ hx hL
      exact .base (.lst q)
    · rename_i xs hx
      cases h
      obtain ⟨vs, q, _⟩ := a.hp.obs _ _ _ hx hL
      exact .base (.dK q)
    · rename_i xs hx
      cases h
      obtain ⟨o, vs, q, _⟩ := a.hp.obs _ _ _ hx hL
      exact .fDict q
    · cases h
theorem co_isi : COp X cm W (rIsi X.K) cIsi := by
  intro L H S σ xs ds Q a r q
  unfold cIsi at q
  split at q
  · split at q
    · rename_i m hm
      split at q
      · rename_i b hb
        cases r with
        | cons r1 r2 =>
          cases r2 with
          | cons r2 r3 =>
            cases r3
            cases r2
            exact ⟨_, _, _, _, b, rfl, .ty _, ty_of a r1 hm, kit_ty (isaB_ok hb), q.give a (.bl b)⟩
      · exact q.elim
    · exact q.elim
  · exact q.elim
/-- repr of data of any depth -/
def rReprD (K : PySem.W.Frag) : List V → Hp → VK → Prop := fun xs H Q => ∃ v p, xs = [v] ∧ Dp K H v p ∧ PyData.showable p = true ∧ p.hasDict = false ∧ p.depth ≤ 30 ∧ p.shown.length ≤ sizeLine ∧ Q (.str p.shown) H
theorem call_reprD (hu : X.A.units + 64 < cLine) (hg : X.A.guards = some []) : CallR X (.builtin "repr") (rReprD X.K) := by
  intro pins s σ H xs us Q I r h
  obtain ⟨v, p, rfl, hd, hs, hnd, hdp, hz, q⟩ := h
  obtain ⟨u, rfl, ru⟩ := vals1 r
  obtain ⟨as, rr⟩ := Dp.reads I p v u hd ru
  have big : ∀ a, Reads s.heap (.ref a) p as → wpAny (model X.prog X.w) X.A (call (.builtin "repr") [.ref a]) (EP X pins σ Q) X.xe s := fun a rr =>
    repr_of_reads' rr hs (PyData.noDict_hsm hnd) hg (by omega) (fun _ _ z => z) (fun h' t tk k => ⟨.str p.shown, H, I.kept k, ⟨_, rfl⟩, q⟩) hz
  cases rr with
  | none =>
    rw [PyData.shown_none] at q
    exact PySem.P.repr_of_none ⟨.str _, H, I.tok _, ⟨_, rfl⟩, q⟩
  | bool b =>
    rw [PyData.shown_bool] at q
    exact PySem.P.repr_of_bool ⟨.str _, H, I.tok _, ⟨_, rfl⟩, q⟩
  | int i t =>
    rw [PyData.shown_int] at q
    exact PySem.P.repr_of_int (by simpa [PyData.showable] using hs) ⟨.str _, H, I.tok _, ⟨_, rfl⟩, q⟩
  | str x t =>
    rw [PyData.shown_str] at q hz
    exact PySem.P.repr_of_str ⟨.str _, H, I.tok _, ⟨_, rfl⟩, q⟩ hz
  | list h1 h2 h3 h4 => exact big _ (.list h1 h2 h3 h4)
  | tuple h1 h2 h3 h4 => exact big _ (.tuple h1 h2 h3 h4)
  | dict h1 h2 h3 h4 h5 => exact big _ (.dict h1 h2 h3 h4 h5)
theorem co_repr : COp X cm W (rReprD X.K) cRepr := by
  intro L H S σ xs ds Q a r q
  unfold cRepr at q
  split at q
  · split at q
    · rename_i p hp
      split at q
      · rename_i h
        simp only [Bool.and_eq_true, Bool.not_eq_true', decide_eq_true_eq] at h
        obtain ⟨⟨⟨h1, h2⟩, h3⟩, h4⟩ := h
        cases r with
        | cons r1 r2 =>
          cases r2
          exact ⟨_, p, rfl, pyD_rep a r1 hp, h1, h2, h3, mx_line h4, q.give a (.str _)⟩
      · exact q.elim
    · exact q.elim
  · exact q.elim
end
end Den

namespace Den
open PySem L2

/-! ### 12. subscripts, slices, in -/
def oIx : D → D → DS → Res D := fun x y S => match x, y with
  | .tup xs, .int i => match atI xs i with
    | some d => .ok d S
    | none => .stuck
  | .ro xs, .int i => match atI xs i with
    | some d => .ok d S
    | none => .stuck
  | .str z, .int i => if z.length ≤ mxL then match atI z.cps.toList i with
    | some c => .ok (.str ⟨#[c]⟩) S
    | none => .stuck else .stuck
  | .ref n, y => match S.h[n]?, y with
    | some (.lst xs), .int i => match atI xs i with
      | some d => .ok d S
      | none => .stuck
    | some (.dct kvs), y => match keyOf y with
      | some k => match valD kvs k with
        | some d => .ok d S
        | none => .stuck
      | none => .stuck
    | some (.fdct kvs), y => match keyOf y with
      | some k => match valD kvs k with
        | some d => .ok d S
        | none => .stuck
      | none => .stuck
    | _, _ => .stuck
  | _, _ => .stuck
def rIxD : R2 := fun x y H Q => ∃ a v, x = .ref a ∧ DGet H a y (some v) ∧ Q v H
section
variable {X : Cx} {cm : Str → Value} {W : WX} {e e1 e2 o : Expr} {es : List Expr} {x : Str} {p pos apos cpos : Pos} {fa fb fo : DE} {ga : DA} {K : PySem.W.Frag} {L : List Addr} {H : Hp} {S : DS} {σ : L2.St}
theorem ix_dct (hu : X.A.units + 1 < cLine) : IxR X rIxD := by
  intro value slice pins s σ H x y v u Q I rx ry h hs
  obtain ⟨a, z, rfl, g, q⟩ := h
  cases rx
  exact PyProof.Rows.tail_any (dict_typeIs I g) PySem.F.slot_dict_getitem.lookup (d_getItem hu I g ry fun w' s3 I3 rw' => ⟨z, H, I3, rw', q⟩) hs
theorem reps_at {ds : List D} {vs : List V} {i : Int} {d : D} (r : Reps K cm L H ds vs) (h : atI ds i = some d) : ∃ v, atI vs i = some v ∧ Rep K cm L H d v := by
  unfold atI at h ⊢
  rw [← r.length]
  cases e : ixN ds.length i with
  | none => rw [e] at h; cases h
  | some j =>
    rw [e] at h
    exact r.get h
theorem repK_find {f : Key → Bool} : ∀ {ds : List (Key × D)} {vs : List (Key × V)}, RepK K cm L H ds vs → (∀ p, ds.find? (fun p => f p.1) = some p → ∃ q, vs.find? (fun p => f p.1) = some q ∧ q.1 = p.1 ∧ Rep K cm L H p.2 q.2) ∧ (ds.find? (fun p => f p.1) = none → vs.find? (fun p => f p.1) = none)
  | [], [], .nil => ⟨fun _ h => (by cases h), fun _ => rfl⟩
  | (j, d0) :: ds, (_, v0) :: vs, .cons r t => by
    obtain ⟨h1, h2⟩ := repK_find (f := f) t
    rw [List.find?_cons, List.find?_cons]
    cases f j with
    | true => exact ⟨fun p h => (by cases h; exact ⟨_, rfl, rfl, r⟩), fun h => (by cases h)⟩
    | false => exact ⟨h1, h2⟩
theorem repK_val {ds : List (Key × D)} {vs : List (Key × V)} (k : Key) (r : RepK K cm L H ds vs) : (∀ d, valD ds k = some d → ∃ v, valV vs k = some v ∧ Rep K cm L H d v) ∧ (valD ds k = none → valV vs k = none) := by
  obtain ⟨h1, h2⟩ := repK_find (f := fun j => decide (j = k)) r
  unfold valD valV
  refine ⟨fun d h => ?_, fun h => ?_⟩
  · obtain ⟨p, hp, rfl⟩ := Option.map_eq_some_iff.mp h
    obtain ⟨q, hq, _, rq⟩ := h1 p hp
    exact ⟨q.2, by rw [hq]; rfl, rq⟩
  · rw [h2 (Option.map_eq_none_iff.mp h)]
    rfl
theorem repK_any {f : Key → Bool} : ∀ {ds : List (Key × D)} {vs : List (Key × V)}, RepK K cm L H ds vs → ds.any (fun p => f p.1) = vs.any (fun p => f p.1)
  | _, _, .nil => rfl
  | _, _, .cons _ t => by rw [List.any_cons, List.any_cons, repK_any t]
theorem repK_append : ∀ {ds es : List (Key × D)} {vs ws : List (Key × V)}, RepK K cm L H ds vs → RepK K cm L H es ws → RepK K cm L H (ds ++ es) (vs ++ ws)
  | _, _, _, _, .nil, q => q
  | _, _, _, _, .cons r t, q => .cons r (repK_append t q)
theorem repK_map {k : Key} {d : D} {v : V} (r0 : Rep K cm L H d v) : ∀ {ds : List (Key × D)} {vs : List (Key × V)}, RepK K cm L H ds vs → RepK K cm L H (ds.map fun p => if p.1 = k then (p.1, d) else p) (vs.map fun p => if p.1 = k then (p.1, v) else p)
  | [], [], .nil => .nil
  | (j, d1) :: _, (_, v1) :: _, .cons r t => by
    rw [List.map_cons, List.map_cons]
    by_cases z : j = k
    · rw [if_pos (show (j, d1).1 = k from z), if_pos (show (j, v1).1 = k from z)]
      exact .cons r0 (repK_map r0 t)
    · rw [if_neg (show ¬ (j, d1).1 = k from z), if_neg (show ¬ (j, v1).1 = k from z)]
      exact .cons r (repK_map r0 t)
theorem repK_put {ds : List (Key × D)} {vs : List (Key × V)} {k : Key} {d : D} {v : V} (r : RepK K cm L H ds vs) (r0 : Rep K cm L H d v) : RepK K cm L H (putD ds k d) (putK vs k v) := by
  unfold putD putK hasD
  rw [repK_any (f := fun j => decide (j = k)) r]
  split
  · exact repK_map r0 r
  · exact repK_append r (.cons r0 .nil)
theorem keyOf_rep {d : D} {v : V} {k : Key} (r : Rep K cm L H d v) (h : keyOf d = some k) : v = kV k := by
  cases r <;> simp [keyOf] at h <;> subst h <;> rfl
theorem AbS.dget {n : Nat} {v : V} {kvs : List (Key × D)} (a : AbS K cm L H S σ) (r : Rep K cm L H (.ref n) v) (h : S.h[n]? = some (.dct kvs) ∨ S.h[n]? = some (.fdct kvs)) : ∃ p vs, v = .ref p ∧ Rd H p (.dK vs) ∧ RepK K cm L H kvs vs := by
  cases r with
  | ref ha =>
    rcases h with h | h
    · obtain ⟨vs, q, r⟩ := a.hp.obs _ _ _ h ha
      exact ⟨_, vs, rfl, .inl q, r⟩
    · obtain ⟨o, vs, q, r⟩ := a.hp.obs _ _ _ h ha
      exact ⟨_, vs, rfl, .inr ⟨o, q⟩, r⟩
theorem ro_ix : ROp X cm W (fun x y H Q => rIx X.K x y H Q ∨ rIxD x y H Q) oIx := by
  intro L H S σ x y d e Q a r1 r2 q
  unfold oIx at q
  split at q
  · split at q
    · rename_i h
      cases r1 with
      | tup hs rr =>
        cases r2
        obtain ⟨v, hv, rv⟩ := reps_at rr h
        exact .inl (.inr (.inl ⟨_, _, _, _, rfl, rfl, hs, hv, q.give a rv⟩))
    · exact q.elim
  · split at q
    · rename_i h
      cases r1 with
      | ro hs rr =>
        cases r2
        obtain ⟨v, hv, rv⟩ := reps_at rr h
        exact .inl (.inl ⟨_, _, _, _, rfl, rfl, hs.sq, hv, q.give a rv⟩)
    · exact q.elim
  · split at q
    · rename_i hz
      split at q
      · rename_i h
        cases r1; cases r2
        exact .inl (.inr (.inr ⟨_, _, _, rfl, rfl, mx_line hz, h, q.give a (.str _)⟩))
      · exact q.elim
    · exact q.elim
  · split at q
    · rename_i hx
      split at q
      · rename_i h
        obtain ⟨p1, vs1, rfl, g1, e1, q1⟩ := a.lst r1 hx
        cases r2
        obtain ⟨v, hv, rv⟩ := reps_at q1 h
        exact .inl (.inl ⟨_, _, _, _, rfl, rfl, SqL.of e1, hv, q.give a rv⟩)
      · exact q.elim
    · rename_i hx
      split at q
      · rename_i k hk
        split at q
        · rename_i h
          obtain ⟨p, vs, rfl, g, rr⟩ := a.dget r1 (.inl hx)
          obtain ⟨v, hv, rv⟩ := (repK_val k rr).1 _ h
          exact .inr ⟨p, v, rfl, .inl ⟨vs, k, g, keyOf_rep r2 hk, hv.symm⟩, q.give a rv⟩
        · exact q.elim
      · exact q.elim
    · rename_i hx
      split at q
      · rename_i k hk
        split at q
        · rename_i h
          obtain ⟨p, vs, rfl, g, rr⟩ := a.dget r1 (.inr hx)
          obtain ⟨v, hv, rv⟩ := (repK_val k rr).1 _ h
          exact .inr ⟨p, v, rfl, .inl ⟨vs, k, g, keyOf_rep r2 hk, hv.symm⟩, q.give a rv⟩
        · exact q.elim
      · exact q.elim
    · exact q.elim
  · exact q.elim
theorem e_ix (hu : X.A.units + 1 < cLine) (ha : PE X e1 (rdE X.K cm W fa)) (hb : PE X e2 (rdE X.K cm W fb)) (hs : PlainIx e2 := by exact fun _ _ => rfl) : PE X (.Subscript e1 e2 pos) (rdE X.K cm W (dBin oIx fa fb)) :=
  weakE (pe_ix (ix_seq.or (ix_dct hu)) ha hb hs) fun _ _ _ => rd_bin ro_ix
end
end Den

namespace Den
open PySem L2

/-! ### 13. slices -/
def cutD (xs : List D) (lo hi : Option Int) : List D := (xs.drop (HT.sIx xs.length 0 lo)).take (HT.sIx xs.length xs.length hi - HT.sIx xs.length 0 lo)
def dPN : DS → Res (Option Int) := fun S => .ok none S
def dPS (a : DE) : DS → Res (Option Int) := fun S => (a S).bind fun d S1 => match d with
  | .int i => .ok (some i) S1
  | _ => .stuck
def oSl : D → Option Int → Option Int → DS → Res D := fun x lo hi S => match x with
  | .str z => if z.length ≤ mxL then .ok (.str (cutS z lo hi)) S else .stuck
  | .tup xs => .ok (.tup (cutD xs lo hi)) S
  | .ro xs => newO (.lst (cutD xs lo hi)) S
  | .ref n => match S.h[n]? with
    | some (.lst xs) => newO (.lst (cutD xs lo hi)) S
    | _ => .stuck
  | _ => .stuck
def dSl (a : DE) (lo hi : DS → Res (Option Int)) : DE := fun S => (a S).bind fun x S1 => (lo S1).bind fun l S2 => (hi S2).bind fun u S3 => oSl x l u S3
/-- x in y -/
def inD : D → D → DS → Option Bool := fun x y S => match y with
  | .str b => match x with
    | .str a => some (!(Builtin.Str.occurrences b a 0 b.length 1).isEmpty)
    | _ => none
  | .tup ys => match pyD S x, ys.mapM (pyD S) with
    | some p, some ps => if SeqAt.shaped p && SeqAt.shaped (.tuple ps) then some (ps.any fun z => PyData.eqv z p) else none
    | _, _ => none
  | .ro ys => match pyD S x, ys.mapM (pyD S) with
    | some p, some ps => if SeqAt.shaped p && SeqAt.shaped (.list ps) then some (ps.any fun z => PyData.eqv z p) else none
    | _, _ => none
  | .ref n => match S.h[n]? with
    | some (.lst ys) => match pyD S x, ys.mapM (pyD S) with
      | some p, some ps => if SeqAt.shaped p && SeqAt.shaped (.list ps) then some (ps.any fun z => PyData.eqv z p) else none
      | _, _ => none
    | some (.dct kvs) => (keyOf x).map fun k => (valD kvs k).isSome
    | some (.fdct kvs) => (keyOf x).map fun k => (valD kvs k).isSome
    | none => none
  | _ => none
def oIn : D → D → DS → Res D := fun x y S => match inD x y S with
  | some b => .ok (.bl b) S
  | none => .stuck
def oNotIn : D → D → DS → Res D := fun x y S => match inD x y S with
  | some b => .ok (.bl (!b)) S
  | none => .stuck
section
variable {X : Cx} {cm : Str → Value} {W : WX} {e e1 e2 o : Expr} {es : List Expr} {x : Str} {p pos apos cpos p2 : Pos} {fa fb fo : DE} {ga : DA} {K : PySem.W.Frag} {L : List Addr} {H : Hp} {S : DS} {σ : L2.St} {lo hi : Option Expr} {gl gh : DS → Res (Option Int)}
theorem p_none : PO X none (rdO X.K cm W dPN) := ⟨fun pins s σ H Q I q => po_none.run pins s σ H Q I (by
  obtain ⟨L, S, a, q⟩ := q
  exact q.give a rfl)⟩
theorem p_some (h : PE X e (rdE X.K cm W fa)) : PO X (some e) (rdO X.K cm W (dPS fa)) := ⟨fun pins s σ H Q I q => (po_some h).run pins s σ H Q I (by
  obtain ⟨L, S, a, q⟩ := q
  refine ⟨L, S, a, (Aft.step (R := Rep X.K cm) q).mono fun v H1 z => ?_⟩
  obtain ⟨L1, S1, d, e1, x1, r1, q1⟩ := z
  split at q1
  · cases r1
    exact ⟨_, rfl, q1.give x1 rfl⟩
  · exact q1.elim)⟩
theorem cut_reps {ds : List D} {vs : List V} (r : Reps K cm L H ds vs) (lo hi : Option Int) : Reps K cm L H (cutD ds lo hi) (cutV vs lo hi) := by
  unfold cutD cutV
  rw [← r.length]
  exact (r.drop _).take _
theorem cut_whole {ds : List D} {lo hi : Option Int} (h : HT.sIx ds.length 0 lo = 0 ∧ HT.sIx ds.length ds.length hi = ds.length) : cutD ds lo hi = ds := by
  unfold cutD
  rw [h.1, h.2, List.drop_zero, Nat.sub_zero, List.take_length]
theorem e_slice (ha : PE X e (rdE X.K cm W fa)) (hl : PO X lo (rdO X.K cm W gl)) (hh : PO X hi (rdO X.K cm W gh)) : PE X (.Subscript e (.Slice lo hi none p2) pos) (rdE X.K cm W (dSl fa gl gh)) := weakE (pe_slice (SlR.or (SlR.or sl_list sl_tupA) sl_str) ha hl hh) fun σ H Q q => by
  obtain ⟨L, S, a, q⟩ := q
  refine ⟨L, S, a, (Aft.step (R := Rep X.K cm) q).mono fun v H1 z => ?_⟩
  obtain ⟨L1, S1, d, e1, x1, r1, q1⟩ := z
  refine ⟨L1, S1, x1, (Aft.step (R := fun _ _ (b c : Option Int) => b = c) q1).mono fun l H2 z => ?_⟩
  obtain ⟨L2, S2, l', e2, x2, rfl, q2⟩ := z
  refine ⟨L2, S2, x2, (Aft.step (R := fun _ _ (b c : Option Int) => b = c) q2).mono fun u H3 z => ?_⟩
  obtain ⟨L3, S3, u', e3, x3, rfl, q3⟩ := z
  have r3 := r1.mono (e2.trans e3)
  unfold oSl at q3
  split at q3
  · split at q3
    · rename_i h
      cases r3
      exact .inr ⟨_, rfl, mx_line h, q3.give x3 (.str _)⟩
    · exact q3.elim
  · cases r3 with
    | tup hs rr =>
      refine .inl (.inr ⟨_, _, rfl, hs, fun h => ?_, fun _ p hp => ?_⟩)
      · rw [← rr.length] at h
        rw [cut_whole h] at q3
        exact q3.give x3 (.tup hs rr)
      · exact q3.giveE (Ext.beside hp) (x3.beside hp) (.tup (.inl (.inl upd_same)) ((cut_reps rr _ _).mono (Ext.beside hp)))
  · cases r3 with
    | ro hs rr => exact .inl (.inl ⟨_, _, rfl, hs.sq, fun p hp => give_new x3 (cut_reps rr _ _) q3 hp⟩)
  · split at q3
    · rename_i hx
      obtain ⟨p1, vs1, rfl, g1, e1, rr⟩ := x3.lst r3 hx
      exact .inl (.inl ⟨_, _, rfl, SqL.of e1, fun p hp => give_new x3 (cut_reps rr _ _) q3 hp⟩)
    · exact q3.elim
  · exact q3.elim

/-- what in asks, by the values -/
def rInA (K : PySem.W.Frag) (g : Bool → Bool) : R2 := fun x y H Q =>
  ((∃ i j, x = .str i ∧ y = .str j ∧ Q (.bl (g (!(Builtin.Str.occurrences j i 0 j.length 1).isEmpty))) H) ∨ (∃ d ds, Dp K H x d ∧ Dp K H y (.list ds) ∧ SeqAt.shaped d = true ∧ SeqAt.shaped (.list ds) = true ∧ Q (.bl (g (ds.any fun z => PyData.eqv z d))) H)) ∨
  ((∃ d ds, Dp K H x d ∧ Dp K H y (.tuple ds) ∧ SeqAt.shaped d = true ∧ SeqAt.shaped (.tuple ds) = true ∧ Q (.bl (g (ds.any fun z => PyData.eqv z d))) H) ∨ ∃ a o, y = .ref a ∧ DGet H a x o ∧ Q (.bl (g o.isSome)) H)
theorem room_in {A : Around} {ps : List PyData} {p : PyData} (hu : A.units + 66 < cLine) (h : SeqAt.shaped p = true) : A.units + 1 + min (PyData.depthAll ps) p.depth < cLine := by
  have h1 := SeqAt.depth_of_shaped h
  have h2 : min (PyData.depthAll ps) p.depth ≤ p.depth := Nat.min_le_right _ _
  omega
theorem op_inA (hu : X.A.units + 66 < cLine) : OpR X (compareOp .In) (rInA X.K id) := by
  refine OpR.or (OpR.or op_in_str (op_inD (by omega))) (OpR.or ?_ ?_)
  · intro pins s σ H x y v u Q I rx ry h
    obtain ⟨d, ds, hd, he, sd, se, q⟩ := h
    obtain ⟨as, r1⟩ := Dp.reads I d x v hd rx
    obtain ⟨bs, r2⟩ := Dp.reads I (.tuple ds) y u he ry
    have cl : PyData.canLayAll0 ds = true := by simpa [PyData.canLay0] using SeqAt.canLay_of_shaped se
    exact SeqAt.in_tuple_reads r2 r1 cl (SeqAt.canLay_of_shaped sd) (room_in hu sd) ⟨.bl _, H, I, rfl, q⟩
  · intro pins s σ H x y v u Q I rx ry h
    obtain ⟨a, ov, rfl, g, q⟩ := h
    cases ry
    exact d_in (by omega) I g rx fun s' I' => ⟨.bl _, H, I', rfl, q⟩
theorem op_notInA (hu : X.A.units + 66 < cLine) : OpR X (compareOp .NotIn) (rInA X.K not) := by
  refine OpR.or (OpR.or op_notIn_str (op_notInD (by omega))) (OpR.or ?_ ?_)
  · intro pins s σ H x y v u Q I rx ry h
    obtain ⟨d, ds, hd, he, sd, se, q⟩ := h
    obtain ⟨as, r1⟩ := Dp.reads I d x v hd rx
    obtain ⟨bs, r2⟩ := Dp.reads I (.tuple ds) y u he ry
    have cl : PyData.canLayAll0 ds = true := by simpa [PyData.canLay0] using SeqAt.canLay_of_shaped se
    exact SeqAt.notIn_tuple_reads r2 r1 cl (SeqAt.canLay_of_shaped sd) (room_in hu sd) ⟨.bl _, H, I, rfl, q⟩
  · intro pins s σ H x y v u Q I rx ry h
    obtain ⟨a, ov, rfl, g, q⟩ := h
    cases ry
    exact d_notIn (by omega) I g rx fun s' I' => ⟨.bl _, H, I', rfl, q⟩
theorem in_core {x y : V} {d e : D} (a : AbS K cm L H S σ) (r1 : Rep K cm L H d x) (r2 : Rep K cm L H e y) {b : Bool} (h : inD d e S = some b) {g : Bool → Bool} {Q : VK} (q : Q (.bl (g b)) H) : rInA K g x y H Q := by
  unfold inD at h
  split at h
  · split at h
    · cases r1; cases r2; cases h
      exact .inl (.inl ⟨_, _, rfl, rfl, q⟩)
    · cases h
  · split at h
    · rename_i p ps h1 h2
      split at h
      · rename_i hs
        cases h
        obtain ⟨s1, s2⟩ := Bool.and_eq_true_iff.mp hs
        cases r2 with
        | tup ht rr => exact .inr (.inl ⟨p, ps, pyD_rep a r1 h1, .tup ht (toPys_rep (fun _ _ _ r e => pyD_rep a r e) rr h2), s1, s2, q⟩)
      · cases h
    · cases h
  · split at h
    · rename_i p ps h1 h2
      split at h
      · rename_i hs
        cases h
        obtain ⟨s1, s2⟩ := Bool.and_eq_true_iff.mp hs
        cases r2 with
        | ro ht rr => exact .inl (.inr ⟨p, ps, pyD_rep a r1 h1, .lst ht.sq (toPys_rep (fun _ _ _ r e => pyD_rep a r e) rr h2), s1, s2, q⟩)
      · cases h
    · cases h
  · split at h
    · rename_i hx
      split at h
      · rename_i p ps h1 h2
        split at h
        · rename_i hs
          cases h
          obtain ⟨s1, s2⟩ := Bool.and_eq_true_iff.mp hs
          obtain ⟨p1, vs1, rfl, g1, e1, rr⟩ := a.lst r2 hx
          exact .inl (.inr ⟨p, ps, pyD_rep a r1 h1, .lst (SqL.of e1) (toPys_rep (fun _ _ _ r e => pyD_rep a r e) rr h2), s1, s2, q⟩)
        · cases h
      · cases h
    · rename_i kvs hx
      obtain ⟨k, hk, rfl⟩ := Option.map_eq_some_iff.mp h
      obtain ⟨p, vs, rfl, gd, rr⟩ := a.dget r2 (.inl hx)
      refine .inr (.inr ⟨p, valV vs k, rfl, .inl ⟨vs, k, gd, keyOf_rep r1 hk, rfl⟩, ?_⟩)
      have e : (valV vs k).isSome = (valD kvs k).isSome := by
        cases z : valD kvs k with
        | none => rw [(repK_val k rr).2 z] <;> rfl
        | some d => obtain ⟨v, hv, _⟩ := (repK_val k rr).1 d z; rw [hv]; rfl
      rw [e]; exact q
    · rename_i kvs hx
      obtain ⟨k, hk, rfl⟩ := Option.map_eq_some_iff.mp h
      obtain ⟨p, vs, rfl, gd, rr⟩ := a.dget r2 (.inr hx)
      refine .inr (.inr ⟨p, valV vs k, rfl, .inl ⟨vs, k, gd, keyOf_rep r1 hk, rfl⟩, ?_⟩)
      have e : (valV vs k).isSome = (valD kvs k).isSome := by
        cases z : valD kvs k with
        | none => rw [(repK_val k rr).2 z] <;> rfl
        | some d => obtain ⟨v, hv, _⟩ := (repK_val k rr).1 d z; rw [hv]; rfl
      rw [e]; exact q
    · cases h
  · cases h
theorem ro_in : ROp X cm W (rInA X.K id) oIn := by
  intro L H S σ x y d e Q a r1 r2 q
  unfold oIn at q
  split at q
  · rename_i b h
    exact in_core a r1 r2 h (q.give a (.bl _))
  · exact q.elim
theorem ro_notIn : ROp X cm W (rInA X.K not) oNotIn := by
  intro L H S σ x y d e Q a r1 r2 q
  unfold oNotIn at q
  split at q
  · rename_i b h
    exact in_core a r1 r2 h (q.give a (.bl _))
  · exact q.elim
end

/-! ### 14. dicts made and stored, lists stored -/
def evPairs : List (DE × DE) → DS → Res (List (D × D))
  | [] => fun S => .ok [] S
  | p :: r => fun S => (p.1 S).bind fun x S1 => (p.2 S1).bind fun y S2 => (evPairs r S2).bind fun ps S3 => .ok ((x, y) :: ps) S3
def keyPairs : List (D × D) → Option (List (Key × D))
  | [] => some []
  | p :: r => (keyOf p.1).bind fun k => (keyPairs r).map fun ks => (k, p.2) :: ks
def mergeD (kvs more : List (Key × D)) : List (Key × D) := more.foldl (fun acc p => putD acc p.1 p.2) kvs
def dDict (fs : List (DE × DE)) : DE := fun S => (evPairs fs S).bind fun ps S1 => match keyPairs ps with
  | some ks => if ks.length ≤ 15 then newO (.dct (mergeD [] ks)) S1 else .stuck
  | none => .stuck
def oPut : D → D → D → DS → Option DS := fun o i v S => match o with
  | .ref n => match S.h[n]? with
    | some (.lst xs) => match i with
      | .int k => match ixN xs.length k with
        | some j => some { S with h := S.h.set n (.lst (xs.set j v)) }
        | none => none
      | _ => none
    | some (.dct kvs) => match keyOf i with
      | some k => if kvs.length < mxL then some { S with h := S.h.set n (.dct (putD kvs k v)) } else none
      | none => none
    | _ => none
  | _ => none
def sPut (v o i : DE) : DSt := fun S => (v S).bind fun d S1 => (o S1).bind fun x S2 => (i S2).bind fun k S3 => match oPut x k d S3 with
  | some S4 => .ok .next S4
  | none => .stuck
section
variable {X : Cx} {cm : Str → Value} {W : WX} {e e1 e2 o : Expr} {es : List Expr} {x : Str} {p pos apos cpos p2 : Pos} {fa fb fo : DE} {ga : DA} {K : PySem.W.Frag} {L : List Addr} {H : Hp} {S : DS} {σ : L2.St}
def trsOf (K : PySem.W.Frag) (cm : Str → Value) (W : WX) (fs : List (DE × DE)) : List (TE × TE) := fs.map fun p => (rdE K cm W p.1, rdE K cm W p.2)
inductive Rep2 (K : PySem.W.Frag) (cm : Str → Value) (L : List Addr) (H : Hp) : List (D × D) → List (V × V) → Prop
  | nil : Rep2 K cm L H [] []
  | cons {a b : D} {x y : V} {ds : List (D × D)} {vs : List (V × V)} : Rep K cm L H a x → Rep K cm L H b y → Rep2 K cm L H ds vs → Rep2 K cm L H ((a, b) :: ds) ((x, y) :: vs)
theorem rd_pairs : ∀ (fs : List (DE × DE)) {L : List Addr} {H : Hp} {S : DS} {Q : List (V × V) → Hp → Prop}, AbS K cm L H S σ → Aft K cm W (Rep2 K cm) L σ H (evPairs fs S) Q → tPairs (trsOf K cm W fs) σ H Q
  | [], L, H, S, Q, a, q => q.give a .nil
  | f :: fs, L, H, S, Q, a, q => by
    refine ⟨L, S, a, (Aft.step (R := Rep K cm) q).mono fun v H1 z => ?_⟩
    obtain ⟨L1, S1, d, e1, x1, r1, q1⟩ := z
    refine ⟨L1, S1, x1, (Aft.step (R := Rep K cm) q1).mono fun u H2 z => ?_⟩
    obtain ⟨L2, S2, d2, e2, x2, r2, q2⟩ := z
    refine rd_pairs fs x2 ((Aft.step (R := Rep2 K cm) q2).mono fun w H3 z => ?_)
    obtain ⟨L3, S3, d3, e3, x3, r3, q3⟩ := z
    exact q3.give x3 (.cons (r1.mono (e2.trans e3)) (r2.mono e3) r3)
theorem keyPairs_rep : ∀ {ps : List (D × D)} {vs : List (V × V)} {ks : List (Key × D)}, Rep2 K cm L H ps vs → keyPairs ps = some ks → ∃ kvs : List (Key × V), vs = kvs.map (fun kv => (kV kv.1, kv.2)) ∧ RepK K cm L H ks kvs
  | _, _, _, .nil, h => by
    cases h
    exact ⟨[], rfl, .nil⟩
  | _, _, _, .cons r1 r2 t, h => by
    unfold keyPairs at h
    obtain ⟨k, hk, h⟩ := Option.bind_eq_some_iff.mp h
    obtain ⟨ks, hks, rfl⟩ := Option.map_eq_some_iff.mp h
    obtain ⟨kvs, rfl, rr⟩ := keyPairs_rep t hks
    exact ⟨(k, _) :: kvs, by rw [List.map_cons, keyOf_rep r1 hk], .cons r2 rr⟩
theorem merge_rep : ∀ {ms : List (Key × D)} {ns : List (Key × V)} {ks : List (Key × D)} {vs : List (Key × V)}, RepK K cm L H ms ns → RepK K cm L H ks vs → RepK K cm L H (mergeD ks ms) (mergeK vs ns)
  | _, _, _, _, .nil, r => r
  | _, _, ks, vs, .cons (k := k) (d := d) (v := v) r0 t, r => by
    show RepK K cm L H (mergeD (putD ks k d) _) (mergeK (putK vs k v) _)
    exact merge_rep t (repK_put r r0)
theorem e_dict {keys : List (Option Expr)} {values : List Expr} {fs : List (DE × DE)} (h : PPs X pos keys values (trsOf X.K cm W fs)) (hall : keys.all (·.isSome) = true := by rfl) (hl : keys.length = values.length := by rfl) (h0 : keys ≠ [] := by exact fun z => by cases z) (h15 : keys.length ≤ 15 := by decide) :
    PE X (.Dict keys values pos) (rdE X.K cm W (dDict fs)) := weakE (pe_disp h hall hl h0 h15) fun σ H Q q => by
  obtain ⟨L, S, a, q⟩ := q
  intro p hp
  have a1 := a.beside (o := .dK []) hp
  have pf := a.hp.fresh hp
  refine rd_pairs fs a1 ?_
  unfold dDict at q
  generalize hr : evPairs fs S = r at q
  cases r with
  | ok ps S1 =>
    intro L1 H1 vs e1 x1 r1
    obtain ⟨np, h1, w1, ea⟩ := Ext.adopt (o2 := .dK []) hp pf e1 (.inr ⟨[], upd_same⟩)
    refine ⟨h1, ?_⟩
    rw [Res.bind_ok] at q
    split at q
    · rename_i ks hk
      obtain ⟨kvs, rfl, rk⟩ := keyPairs_rep r1 hk
      split at q
      · rename_i hz
        refine ⟨kvs, rfl, by rw [← repK_length rk]; exact hz, ?_⟩
        obtain ⟨_, _, _, eb⟩ := Ext.adopt (o2 := .dK (mergeK [] kvs)) hp pf e1 (.inr ⟨[], upd_same⟩)
        have mw : ExtW X.K L1 H1 (L1 ++ [p]) (upd H1 p (.dK (mergeK [] kvs))) := ExtW.adopt w1
        have hb : HAb X.K cm (L1 ++ [p]) (upd H1 p (.dK (mergeK [] kvs))) (S1.h ++ [.dct (mergeD [] ks)]) := x1.hp.adopt np w1 ⟨_, upd_same, (merge_rep rk .nil).monoW mw⟩
        exact q _ _ _ eb ⟨hb, x1.loc.monoW mw⟩ (.ref x1.hp.newIx)
      · exact q.elim
    · exact q.elim
  | exc u S1 =>
    intro L1 H1 c dx e1 x1 r1
    exact q L1 H1 c dx ((Ext.beside hp).trans e1) x1 r1
  | stuck => exact q
def rSetDk : V → V → V → Hp → (Hp → Prop) → Prop := fun o i v H Q => ∃ a H', o = .ref a ∧ DPut H a i v H' ∧ Q H'
theorem pset_any (hu : X.A.units + 1 < cLine) : PSet X (fun o i v H Q => rSetL o i v H Q ∨ rSetDk o i v H Q) := by
  intro pins s σ H o i v ov iv u Q I ro ri rv h
  rcases h with h | ⟨a, H', rfl, g, q⟩
  · exact set_list pins s σ H o i v ov iv u Q I ro ri rv h
  · cases ro
    exact d_setItem hu I g ri rv fun s' I' => ⟨H', I', q⟩
theorem s_put {pos' : Pos} (hu : X.A.units + 1 < cLine) (hv : PE X e (rdE X.K cm W fa)) (ho : PE X o (rdE X.K cm W fo)) (hi : PE X e2 (rdE X.K cm W fb)) (hs : swapsWithSole [.Subscript o e2 pos'] e pos.line X.env = pure false := by rfl) (hw : swappedStores [.Subscript o e2 pos'] e X.env = pure none := by rfl)
    (h1 : (assignEach [.Subscript o e2 pos'] X.env).map (·.2) = [assign (.Subscript o e2 pos') X.env] := by rfl)
    (ha : ∀ v, assign (.Subscript o e2 pos') X.env v = (do
      let ov ← holding [v] (eval o X.env)
      let iv ← holding [v, ov] (eval e2 X.env)
      standAt pos'
      holding [v, ov, iv] (setItem ov iv v)
      release [v, ov, iv] []) := by intro _; rfl) : PS X (.Assign [.Subscript o e2 pos'] e pos) (rdS X.K cm W (sPut fa fo fb)) := weakS (ps_asg hv (pg_sub ho hi (pset_any hu) ha) hs hw h1) fun E σ H q => by
  obtain ⟨L, S, a, q⟩ := q
  refine ⟨L, S, a, (AftS.step (R := Rep X.K cm) q).mono fun v H1 z => ?_⟩
  obtain ⟨L1, S1, d, e1, x1, r1, q1⟩ := z
  refine ⟨L1, S1, x1, (AftS.step (R := Rep X.K cm) q1).mono fun ov H2 z => ?_⟩
  obtain ⟨L2, S2, d2, e2, x2, r2, q2⟩ := z
  refine ⟨L2, S2, x2, (AftS.step (R := Rep X.K cm) q2).mono fun iv H3 z => ?_⟩
  obtain ⟨L3, S3, d3, e3, x3, r3, q3⟩ := z
  have rv := r1.mono (e2.trans e3)
  have ro := r2.mono e3
  split at q3
  · rename_i S4 h4
    unfold oPut at h4
    split at h4
    · split at h4
      · rename_i xs hx
        obtain ⟨p1, vs1, rfl, g1, h1, rr⟩ := x3.lst ro hx
        split at h4
        · split at h4
          · rename_i j hj
            cases h4
            cases r3
            have ep := Ext.put (o := .lst (vs1.set j v)) x3.hp g1 (.inl ⟨_, h1⟩)
            exact .inl ⟨_, _, _, j, rfl, rfl, h1, by rw [← rr.length]; exact hj, q3 L3 _ σ ep (x3.put g1 (.inl ⟨_, h1⟩) ⟨_, upd_same, ((Reps.set rv j rr).mono ep)⟩)⟩
          · cases h4
        · cases h4
      · rename_i kvs hx
        obtain ⟨p1, vs1, rfl, g1, h1, rr⟩ := x3.dct ro hx
        split at h4
        · rename_i k hk
          split at h4
          · rename_i hz
            cases h4
            have ep := Ext.put (o := .dK (putK vs1 k v)) x3.hp g1 (.inr ⟨_, h1⟩)
            exact .inr ⟨_, _, rfl, .inl ⟨vs1, k, h1, keyOf_rep r3 hk, by rw [← repK_length rr]; exact mx_lt hz, rfl⟩, q3 L3 _ σ ep (x3.put g1 (.inr ⟨_, h1⟩) ⟨_, upd_same, (repK_put rr rv).mono ep⟩)⟩
          · cases h4
        · cases h4
      · cases h4
    · cases h4
  · exact q3.elim
end
end Den

namespace Den
open PySem L2

/-! ### 15. methods of lists and texts -/
def dMt (f : D → List D → DS → Res D) (o : DE) (a : DA) : DE := fun S => (o S).bind fun x S1 => (a S1).bind fun ds S2 => f x ds S2
/-- the receiver a list of ours (or a dict), ahead of the arguments too -/
def isLst (S : DS) : D → Bool
  | .ref n => match S.h[n]? with
    | some (.lst _) => true
    | _ => false
  | _ => false
def dMtL (f : D → List D → DS → Res D) (o : DE) (a : DA) : DE := fun S => (o S).bind fun x S1 => if isLst S1 x then (a S1).bind fun ds S2 => f x ds S2 else .stuck
def isStr : D → Bool
  | .str _ => true
  | _ => false
def dMtS (f : D → List D → DS → Res D) (o : DE) (a : DE) : DE := fun S => (o S).bind fun x S1 => if isStr x then (a S1).bind fun d S2 => f x [d] S2 else .stuck
def dMtS0 (f : D → List D → DS → Res D) (o : DE) : DE := fun S => (o S).bind fun x S1 => if isStr x then f x [] S1 else .stuck
def mAppend : D → List D → DS → Res D := fun x ds S => match x, ds with
  | .ref n, [d] => match S.h[n]? with
    | some (.lst xs) => if xs.length < mxL then .ok .non { S with h := S.h.set n (.lst (xs ++ [d])) } else .stuck
    | _ => .stuck
  | _, _ => .stuck
def mPop : D → List D → DS → Res D := fun x ds S => match x, ds with
  | .ref n, [] => match S.h[n]? with
    | some (.lst xs) => match xs[xs.length - 1]? with
      | some d => .ok d { S with h := S.h.set n (.lst xs.dropLast) }
      | none => .stuck
    | _ => .stuck
  | _, _ => .stuck
def mSplit : D → List D → DS → Res D := fun x ds S => match x, ds with
  | .str a, [.str b] => if b.length ≠ 0 ∧ a.length + 2 ≤ mxL then newO (.lst ((Txt.split a b).map .str)) S else .stuck
  | _, _ => .stuck
def mPart : D → List D → DS → Res D := fun x ds S => match x, ds with
  | .str a, [.str b] => if b.length ≠ 0 ∧ a.length ≤ mxL then .ok (.tup [.str (Txt.partition a b).1, .str (Txt.partition a b).2.1, .str (Txt.partition a b).2.2]) S else .stuck
  | _, _ => .stuck
def mStarts : D → List D → DS → Res D := fun x ds S => match x, ds with
  | .str a, [.str b] => .ok (.bl (Txt.startswith a b)) S
  | _, _ => .stuck
def strsOf : List D → Option (List Str)
  | [] => some []
  | .str x :: r => (strsOf r).map fun ys => x :: ys
  | _ => none
def joinOk (a : Str) (ys : List Str) : Bool := decide ((ys.map (·.length)).sum + ys.length * a.length ≤ mxL)
def mJoin : D → List D → DS → Res D := fun x ds S => match x, ds with
  | .str a, [.tup xs] => match strsOf xs with
    | some ys => if joinOk a ys then .ok (.str (Txt.join a ys)) S else .stuck
    | none => .stuck
  | .str a, [.ref n] => match S.h[n]? with
    | some (.lst xs) => match strsOf xs with
      | some ys => if joinOk a ys then .ok (.str (Txt.join a ys)) S else .stuck
      | none => .stuck
    | _ => .stuck
  | _, _ => .stuck
section
variable {X : Cx} {cm : Str → Value} {W : WX} {e e1 e2 o : Expr} {es : List Expr} {x name : Str} {p pos apos cpos p2 : Pos} {fa fb fo : DE} {ga : DA} {K : PySem.W.Frag} {L : List Addr} {H : Hp} {S : DS} {σ : L2.St}
theorem mo_append : MOp X cm W rAppend mAppend := by
  intro L H S σ x xs d ds Q a r1 r2 q
  unfold mAppend at q
  split at q
  · split at q
    · rename_i hx
      obtain ⟨p1, vs1, rfl, g1, h1, rr⟩ := a.lst r1 hx
      split at q
      · rename_i hz
        cases r2 with
        | cons r2 r3 =>
          cases r3
          have ep := fun v : V => Ext.put (o := .lst (vs1 ++ [v])) a.hp g1 (.inl ⟨_, h1⟩)
          exact ⟨_, _, _, rfl, rfl, h1, by rw [← rr.length]; exact mx_lt hz, q.giveE (ep _) (a.put g1 (.inl ⟨_, h1⟩) ⟨_, upd_same, (rr.append (.cons r2 .nil)).mono (ep _)⟩) .non⟩
      · exact q.elim
    · exact q.elim
  · exact q.elim
theorem mo_pop : MOp X cm W rPop mPop := by
  intro L H S σ x xs d ds Q a r1 r2 q
  unfold mPop at q
  split at q
  · split at q
    · rename_i hx
      obtain ⟨p1, vs1, rfl, g1, h1, rr⟩ := a.lst r1 hx
      split at q
      · rename_i hz
        cases r2
        obtain ⟨v, hv, rv⟩ := rr.get hz
        rw [rr.length] at hv
        have ep := Ext.put (o := .lst vs1.dropLast) a.hp g1 (.inl ⟨_, h1⟩)
        refine ⟨_, _, v, rfl, rfl, h1, hv, q.giveE ep (a.put g1 (.inl ⟨_, h1⟩) ⟨_, upd_same, Reps.mono ep ?_⟩) (rv.mono ep)⟩
        rw [List.dropLast_eq_take, List.dropLast_eq_take, ← rr.length]
        exact rr.take _
      · exact q.elim
    · exact q.elim
  · exact q.elim
theorem strs_reps : ∀ ys : List Str, Reps K cm L H (ys.map D.str) (ys.map V.str)
  | [] => .nil
  | y :: ys => .cons (.str y) (strs_reps ys)
theorem mo_split : MOp X cm W (fun x xs H Q => ∃ a b, x = .str a ∧ xs = [.str b] ∧ (b.length == 0) = false ∧ a.length + 2 ≤ sizeLine ∧ rNewStrs (Txt.split a b) H Q) mSplit := by
  intro L H S σ x xs d ds Q a r1 r2 q
  unfold mSplit at q
  split at q
  · split at q
    · rename_i h
      cases r1
      cases r2 with
      | cons r2 r3 =>
        cases r3; cases r2
        exact ⟨_, _, rfl, rfl, by simpa using h.1, mx_line h.2, fun p hp => give_new a (strs_reps _) q hp⟩
    · exact q.elim
  · exact q.elim
theorem mo_part : MOp X cm W (fun x xs H Q => ∃ a b, x = .str a ∧ xs = [.str b] ∧ (b.length == 0) = false ∧ a.length ≤ sizeLine ∧
    ∀ p, H p = none → Q (.ref p) (upd H p (.tup [.str (Txt.partition a b).1, .str (Txt.partition a b).2.1, .str (Txt.partition a b).2.2]))) mPart := by
  intro L H S σ x xs d ds Q a r1 r2 q
  unfold mPart at q
  split at q
  · split at q
    · rename_i h
      cases r1
      cases r2 with
      | cons r2 r3 =>
        cases r3; cases r2
        exact ⟨_, _, rfl, rfl, by simpa using h.1, mx_line h.2, fun p hp => q.giveE (Ext.beside hp) (a.beside hp) (.tup (.inl (.inl upd_same)) (.cons (.str _) (.cons (.str _) (.cons (.str _) .nil))))⟩
    · exact q.elim
  · exact q.elim
theorem mo_starts : MOp X cm W (fun x xs H Q => ∃ a b, x = .str a ∧ xs = [.str b] ∧ Q (.bl (Txt.startswith a b)) H) mStarts := by
  intro L H S σ x xs d ds Q a r1 r2 q
  unfold mStarts at q
  split at q
  · cases r1
    cases r2 with
    | cons r2 r3 =>
      cases r3; cases r2
      exact ⟨_, _, rfl, rfl, q.give a (.bl _)⟩
  · exact q.elim
theorem strsOf_reps : ∀ {ds : List D} {vs : List V} {ys : List Str}, Reps K cm L H ds vs → strsOf ds = some ys → vs = ys.map V.str
  | _, _, _, .nil, h => by cases h; rfl
  | d :: ds, _, _, .cons r t, h => by
    cases d <;> first
      | (unfold strsOf at h
         obtain ⟨zs, hz, rfl⟩ := Option.map_eq_some_iff.mp h
         cases r
         rw [strsOf_reps t hz]; rfl)
      | (unfold strsOf at h; cases h)
theorem mo_join : MOp X cm W (fun x xs H Q => ∃ a p, ∃ ys : List Str, x = .str a ∧ xs = [.ref p] ∧ (SqL X.K H p (ys.map V.str) ∨ SqT X.K H p (ys.map V.str)) ∧
      (ys.map (·.length)).sum + ys.length * a.length ≤ 16777216 ∧ Q (.str (Txt.join a ys)) H) mJoin := by
  intro L H S σ x xs d ds Q a r1 r2 q
  unfold mJoin at q
  split at q
  · split at q
    · rename_i ys hy
      split at q
      · rename_i h
        cases r1
        cases r2 with
        | cons r2 r3 =>
          cases r3
          cases r2 with
          | tup hs rr => exact ⟨_, _, ys, rfl, rfl, .inr (by rw [← strsOf_reps rr hy]; exact hs), Nat.le_trans (of_decide_eq_true h) (by decide), q.give a (.str _)⟩
      · exact q.elim
    · exact q.elim
  · split at q
    · rename_i hx
      split at q
      · rename_i ys hy
        split at q
        · rename_i h
          cases r1
          cases r2 with
          | cons r2 r3 =>
            cases r3
            obtain ⟨p1, vs1, rfl, g1, h1, rr⟩ := a.lst r2 hx
            exact ⟨_, _, ys, rfl, rfl, .inl (by rw [← strsOf_reps rr hy]; exact SqL.of h1), Nat.le_trans (of_decide_eq_true h) (by decide), q.give a (.str _)⟩
        · exact q.elim
      · exact q.elim
    · exact q.elim
  · exact q.elim
theorem isLst_ty {v : V} {d : D} (a : AbS K cm L H S σ) (r : Rep K cm L H d v) (h : isLst S d = true) : tyV K "list" v H := by
  unfold isLst at h
  split at h
  · split at h
    · rename_i hx
      obtain ⟨p1, vs1, rfl, g1, h1, rr⟩ := a.lst r hx
      exact .inl ⟨rfl, _, SqL.of h1⟩
    · cases h
  · cases h
theorem e_mtL {id : String} {r : V → List V → Hp → VK → Prop} {f : D → List D → DS → Res D} (pa : PlainAttrs "list") (slot : Slot "list" name id) (hty : typeOf (.builtin id) = pure (.type "method_descriptor")) (hm : MtR X id r) (h : MOp X cm W r f)
    (ho : PE X o (rdE X.K cm W fo)) (ha : PA X (e :: es) (rdA X.K cm W ga)) (hbase : attributeBase o name X.env (eval o X.env) = eval o X.env := by rfl)
    (hfew : ((backTo cpos (starEach (e :: es) X.env)).all (fun x => !x.1) && (backToKw cpos (keywordEach [] X.env)).all (fun x => x.1.isSome)
      && decide ((e :: es).length + ([] : List Keyword).length + (if ([] : List Keyword).isEmpty then 0 else 1) < 30)) = true := by rfl)
    (hline : (apos.endLine == cpos.line) = true := by rfl) (hs : starEach (e :: es) X.env = (false, eval e X.env) :: starEach es X.env := by rfl) (hplain : (backTo cpos (starEach es X.env)).any (·.1) = false := by rfl) :
    PE X (.Call (.Attribute o name apos) (e :: es) [] cpos) (rdE X.K cm W (dMtL f fo ga)) := weakE (pe_bm pa slot hty hm ho ha hbase hfew hline hs hplain) fun σ H Q q => by
  obtain ⟨L, S, a, q⟩ := q
  refine ⟨L, S, a, (Aft.step (R := Rep X.K cm) q).mono fun v H1 z => ?_⟩
  obtain ⟨L1, S1, d, e1, x1, r1, q1⟩ := z
  split at q1
  · rename_i hl
    refine ⟨isLst_ty x1 r1 hl, L1, S1, x1, (Aft.step (R := Reps X.K cm) q1).mono fun vs H2 z => ?_⟩
    obtain ⟨L2, S2, d2, e2, x2, r2, q2⟩ := z
    exact h x2 (r1.mono e2) r2 q2
  · exact q1.elim
theorem e_mtL0 {id : String} {r : V → List V → Hp → VK → Prop} {f : D → List D → DS → Res D} (pa : PlainAttrs "list") (slot : Slot "list" name id) (hty : typeOf (.builtin id) = pure (.type "method_descriptor")) (hm : MtR X id r) (h : MOp X cm W r f)
    (ho : PE X o (rdE X.K cm W fo)) (hbase : attributeBase o name X.env (eval o X.env) = eval o X.env := by rfl)
    (hline : (apos.endLine == cpos.line) = true := by rfl) : PE X (.Call (.Attribute o name apos) [] [] cpos) (rdE X.K cm W (dMtL f fo dNil)) := weakE (pe_bm0 pa slot hty hm ho hbase hline) fun σ H Q q => by
  obtain ⟨L, S, a, q⟩ := q
  refine ⟨L, S, a, (Aft.step (R := Rep X.K cm) q).mono fun v H1 z => ?_⟩
  obtain ⟨L1, S1, d, e1, x1, r1, q1⟩ := z
  split at q1
  · rename_i hl
    exact ⟨isLst_ty x1 r1 hl, h x1 r1 .nil q1⟩
  · exact q1.elim
theorem e_mtS {id : String} {r : V → List V → Hp → VK → Prop} {f : D → List D → DS → Res D} (slot : Slot "str" name id) (hty : typeOf (.builtin id) = pure (.type "method_descriptor")) (hm : MtR X id r) (h : MOp X cm W r f) (ho : PE X o (rdE X.K cm W fo)) (ha : PE X e (rdE X.K cm W fa))
    (hs : starEach [e] X.env = [(false, eval e X.env)] := by rfl) (hbase : attributeBase o name X.env (eval o X.env) = eval o X.env := by rfl) (hline : (apos.endLine == pos.line) = true := by rfl) :
    PE X (.Call (.Attribute o name apos) [e] [] pos) (rdE X.K cm W (dMtS f fo fa)) := weakE (pe_m1 slot hty hm ho ha hs hbase hline) fun σ H Q q => by
  obtain ⟨L, S, a, q⟩ := q
  refine ⟨L, S, a, (Aft.step (R := Rep X.K cm) q).mono fun v H1 z => ?_⟩
  obtain ⟨L1, S1, d, e1, x1, r1, q1⟩ := z
  split at q1
  · rename_i hl
    refine ⟨?_, L1, S1, x1, (Aft.step (R := Rep X.K cm) q1).mono fun v2 H2 z => ?_⟩
    · unfold isStr at hl
      split at hl
      · cases r1; exact ⟨_, rfl⟩
      · cases hl
    · obtain ⟨L2, S2, d2, e2, x2, r2, q2⟩ := z
      exact h x2 (r1.mono e2) (.cons r2 .nil) q2
  · exact q1.elim

/-! ### 16. what a for walks -/
def iOf (d : D) (S : DS) : Res Iter0 := match d with
  | .tup xs => .ok (.vals xs) S
  | .ro xs => .ok (.vals xs) S
  | .str x => .ok (.vals (x.cps.toList.map fun c => .str ⟨#[c]⟩)) S
  | .ref n => match S.h[n]? with
    | some (.lst _) => .ok (.obj n) S
    | _ => .stuck
  | _ => .stuck
def dIter (a : DE) : DS → Res Iter0 := fun S => (a S).bind iOf
def rgD (lo : Int) (n : Nat) : List D := (List.range n).map fun k => D.int (lo + (k : Nat))
def dRng (a : DA) : DS → Res Iter0 := fun S => (a S).bind fun ds S1 => match ds with
  | [.int j] => if -1000000 ≤ j ∧ j ≤ 1000000 then .ok (.vals (rgD 0 j.toNat)) S1 else .stuck
  | [.int i, .int j] => if (-1000000 ≤ i ∧ i ≤ 1000000) ∧ -1000000 ≤ j ∧ j ≤ 1000000 then .ok (.vals (rgD i (j - i).toNat)) S1 else .stuck
  | _ => .stuck
theorem pi_or {tg iter : Expr} {w1 w2 : TI} (h1 : PI X tg iter w1) (h2 : PI X tg iter w2) : PI X tg iter (fun σ H R => w1 σ H R ∨ w2 σ H R) := ⟨fun pins s σ H R I q => by
  rcases q with q | q
  · exact h1.run pins s σ H R I q
  · exact h2.run pins s σ H R I q⟩
theorem weakI {tg iter : Expr} {w w' : TI} (h : PI X tg iter w) (k : ∀ σ H R, w' σ H R → w σ H R) : PI X tg iter w' := ⟨fun pins s σ H R I q => h.run pins s σ H R I (k _ _ _ q)⟩
theorem walk_keep {xs : List D} {J : It} (go : ∀ L' H' i d, Ext K L H L' H' → xs[i]? = some d → J.go i H' ∧ ∀ x H2, J.yld i H' x H2 → H2 = H' ∧ Rep K cm L' H' d x) (st : ∀ L' H', Ext K L H L' H' → J.stop xs.length H') : Walks0 K cm L H xs J :=
  ⟨fun L' H' i d e h => ⟨(go L' H' i d e h).1, fun x H2 y => by
    obtain ⟨rfl, r⟩ := (go L' H' i d e h).2 x H2 y
    exact ⟨Ext.refl, fun _ z => z, r⟩⟩, st⟩
theorem walk_tup {xs : List D} {vs : List V} {a : Addr} (hs : SqT K H a vs) (r : Reps K cm L H xs vs) : Walks0 K cm L H xs (Itt K a) :=
  walk_keep (fun L' H' i d e h => by
    obtain ⟨v, hv, rv⟩ := r.get h
    exact ⟨⟨vs, v, e.tup _ _ hs, hv⟩, fun x H2 y => ⟨y.1, by
      have q := y.2 vs (e.tup _ _ hs)
      rw [hv] at q; cases q
      exact rv.mono e⟩⟩) fun L' H' e => ⟨vs, e.tup _ _ hs, by rw [r.length]; exact Nat.le_refl _⟩
theorem walk_ro {xs : List D} {vs : List V} {a : Addr} (hs : SqR K H a vs) (r : Reps K cm L H xs vs) : Walks0 K cm L H xs (Itl K a) :=
  walk_keep (fun L' H' i d e h => by
    obtain ⟨v, hv, rv⟩ := r.get h
    exact ⟨⟨vs, v, (e.rol _ _ hs).sq, hv⟩, fun x H2 y => ⟨y.1, by
      have q := y.2 vs (e.rol _ _ hs).sq
      rw [hv] at q; cases q
      exact rv.mono e⟩⟩) fun L' H' e => ⟨vs, (e.rol _ _ hs).sq, by rw [r.length]; exact Nat.le_refl _⟩
theorem walk_rng (lo : Int) (n : Nat) : Walks0 K cm L H (rgD lo n) (Itr lo n) :=
  walk_keep (fun L' H' i d e h => by
    unfold rgD at h
    rw [List.getElem?_map] at h
    cases z : (List.range n)[i]? with
    | none => rw [z] at h; cases h
    | some k =>
      rw [z] at h
      cases h
      obtain ⟨hi, rfl⟩ := List.getElem?_eq_some_iff.mp z
      rw [List.length_range] at hi
      refine ⟨hi, fun x H2 y => ⟨y.1, ?_⟩⟩
      rw [y.2, List.getElem_range]
      exact .int _) fun L' H' e => by
    unfold rgD
    rw [List.length_map, List.length_range]
    exact Nat.le_refl _
theorem walk_str (z : Str) : Walks0 K cm L H (z.cps.toList.map fun c => .str ⟨#[c]⟩) (Its z) :=
  walk_keep (fun L' H' i d e h => by
    rw [List.getElem?_map] at h
    cases q : z.cps.toList[i]? with
    | none => rw [q] at h; cases h
    | some c =>
      rw [q] at h
      cases h
      obtain ⟨hi, hc⟩ := List.getElem?_eq_some_iff.mp q
      refine ⟨show i < z.cps.size by simpa using hi, fun x H2 y => ⟨y.1, ?_⟩⟩
      obtain ⟨c', h1, h2⟩ := y.2
      rw [← Array.getElem?_toList, q] at h1
      cases h1
      rw [h2]
      exact .str _) fun L' H' e => by
    rw [List.length_map, Array.length_toList]
    exact Nat.le_refl _
theorem i_any {tg iter : Expr} (he : PE X iter (rdE X.K cm W fa)) : PI X tg iter (rdI X.K cm W (dIter fa)) := weakI (pi_or (pi_or (pi_list he) (pi_tup he)) (pi_str he)) fun σ H R q => by
  obtain ⟨L, S, a, q⟩ := q
  unfold dIter at q
  generalize hr : fa S = r at q
  cases r with
  | ok d S1 =>
    rw [Res.bind_ok] at q
    unfold iOf at q
    split at q
    · refine .inl (.inr ⟨L, S, a, ?_⟩)
      rw [hr]
      intro L1 H1 v e1 x1 r1
      cases r1 with
      | tup hs rr => exact ⟨_, rfl, ⟨_, hs⟩, q L1 H1 _ e1 x1 (walk_tup hs rr)⟩
    · refine .inl (.inl ⟨L, S, a, ?_⟩)
      rw [hr]
      intro L1 H1 v e1 x1 r1
      cases r1 with
      | ro hs rr => exact ⟨_, rfl, ⟨_, hs.sq⟩, q L1 H1 _ e1 x1 (walk_ro hs rr)⟩
    · refine .inr ⟨L, S, a, ?_⟩
      rw [hr]
      intro L1 H1 v e1 x1 r1
      cases r1
      exact ⟨_, rfl, q L1 H1 _ e1 x1 (walk_str _)⟩
    · split at q
      · rename_i hx
        refine .inl (.inl ⟨L, S, a, ?_⟩)
        rw [hr]
        intro L1 H1 v e1 x1 r1
        obtain ⟨p1, vs1, rfl, g1, h1, rr⟩ := x1.lst r1 hx
        exact ⟨_, rfl, ⟨_, SqL.of h1⟩, q L1 H1 _ e1 x1 ⟨_, g1, rfl⟩⟩
      · exact q.elim
    · exact q.elim
  | exc u S1 =>
    refine .inl (.inl ⟨L, S, a, ?_⟩)
    rw [hr]
    exact q
  | stuck => exact q.elim
theorem rd_rng {ga : DA} {σ : L2.St} {H : Hp} {R : It → Hp → Prop} (q : rdI X.K cm W (dRng ga) σ H R) : rdA X.K cm W ga σ H fun vs H1 => (∀ j, vs = [V.int j] → -(2 ^ 62) ≤ j ∧ j < 2 ^ 62 ∧ R (Itr 0 j.toNat) H1) ∧
    (∀ i j, vs = [V.int i, V.int j] → (-(2 ^ 62) ≤ i ∧ i < 2 ^ 62 ∧ -(2 ^ 62) ≤ j ∧ j < 2 ^ 62) ∧ R (Itr i (j - i).toNat) H1) ∧ ((∃ j, vs = [V.int j]) ∨ ∃ i j, vs = [V.int i, V.int j]) := by
  obtain ⟨L, S, x, q⟩ := q
  refine ⟨L, S, x, (Aft.step (R := Reps X.K cm) q).mono fun v H1 z => ?_⟩
  obtain ⟨L1, S1, d, e1, x1, r1, q1⟩ := z
  split at q1
  · split at q1
    · rename_i h
      cases r1 with
      | cons r1 r2 =>
        cases r2; cases r1
        exact ⟨fun j e => (by cases e; exact ⟨by omega, by omega, q1.give x1 (walk_rng 0 _)⟩), fun i j e => (by cases e), .inl ⟨_, rfl⟩⟩
    · exact q1.elim
  · split at q1
    · rename_i h
      cases r1 with
      | cons r1 r2 =>
        cases r2 with
        | cons r2 r3 =>
          cases r3; cases r2; cases r1
          exact ⟨fun j e => (by cases e), fun i j e => (by cases e; exact ⟨⟨by omega, by omega, by omega, by omega⟩, q1.give x1 (walk_rng _ _)⟩), .inr ⟨_, _, rfl⟩⟩
    · exact q1.elim
  · exact q1.elim
theorem i_rng1 {tg a : Expr} {ga : DA} (hg : Gl X "range") (hm : X.mg "range" = none) (ha : PA X [a] (rdA X.K cm W ga)) (hc : Cnt ga 1) (hs : starEach [a] X.env = [(false, eval a X.env)] := by rfl) : PI X tg (.Call (.Name "range" p) [a] [] pos) (rdI X.K cm W (dRng ga)) :=
  weakI (pi_range1 hg hm ha hs) fun σ H R q => by
  have hl := hc
  obtain ⟨L, S, x, q⟩ := rd_rng q
  refine ⟨L, S, x, ?_⟩
  generalize hr : ga S = r at q
  cases r with
  | ok ds S1 =>
    intro L1 H1 vs e1 x1 r1
    obtain ⟨h1, h2, h3⟩ := q L1 H1 vs e1 x1 r1
    have n1 := hl _ _ _ hr
    rw [r1.length] at n1
    rcases h3 with ⟨j, rfl⟩ | ⟨i, j, rfl⟩
    · exact ⟨j, rfl, h1 j rfl⟩
    · cases n1
  | exc u S1 => exact q
  | stuck => exact q
theorem i_rng2 {tg a b : Expr} {ga : DA} (hg : Gl X "range") (hm : X.mg "range" = none) (ha : PA X [a, b] (rdA X.K cm W ga)) (hc : Cnt ga 2) (hs : starEach [a, b] X.env = [(false, eval a X.env), (false, eval b X.env)] := by rfl) (hs2 : starEach [b] X.env = [(false, eval b X.env)] := by rfl) :
    PI X tg (.Call (.Name "range" p) [a, b] [] pos) (rdI X.K cm W (dRng ga)) := weakI (pi_range2 hg hm ha hs hs2) fun σ H R q => by
  have hl := hc
  obtain ⟨L, S, x, q⟩ := rd_rng q
  refine ⟨L, S, x, ?_⟩
  generalize hr : ga S = r at q
  cases r with
  | ok ds S1 =>
    intro L1 H1 vs e1 x1 r1
    obtain ⟨h1, h2, h3⟩ := q L1 H1 vs e1 x1 r1
    have n1 := hl _ _ _ hr
    rw [r1.length] at n1
    rcases h3 with ⟨j, rfl⟩ | ⟨i, j, rfl⟩
    · cases n1
    · exact ⟨i, j, rfl, h2 i j rfl⟩
  | exc u S1 => exact q
  | stuck => exact q
end
end Den

namespace Den
open PySem L2

/-! ### 17. for k in d, the dict at a name -/
def sForK (i : Nat) (g : DG) (b : DSt) : DSt := fun S => match S.loc[i]? with
  | some (some (.ref n)) => match S.h[n]? with
    | some (.dct kvs) => match forV g b (kvs.map fun kv => keyD kv.1) { S with h := S.h.set n (.fdct kvs) } with
      | .ok f S3 => match S3.h[n]? with
        | some (.fdct _) => .ok f { S3 with h := S3.h.set n (.dct kvs) }
        | _ => .stuck
      | _ => .stuck
    | _ => .stuck
  | _ => .stuck
section
variable {X : Cx} {cm : Str → Value} {W : WX} {e e1 e2 o : Expr} {es : List Expr} {x name : Str} {p pos apos cpos p2 : Pos} {fa fb fo : DE} {ga : DA} {K : PySem.W.Frag} {L : List Addr} {H : Hp} {S : DS} {σ : L2.St}
theorem repK_get {ds : List (Key × D)} {vs : List (Key × V)} (r : RepK K cm L H ds vs) : ∀ {i : Nat} {d : D}, (ds.map fun kv => keyD kv.1)[i]? = some d → ∃ k v, vs[i]? = some (k, v) ∧ d = keyD k := by
  induction r with
  | nil => intro i d h; simp at h
  | @cons k d0 v0 ds vs r t ih =>
    intro i d h
    cases i with
    | zero => simp at h; exact ⟨k, v0, rfl, h.symm⟩
    | succ i =>
      obtain ⟨k', v', h1, h2⟩ := ih (i := i) (by simpa using h)
      exact ⟨k', v', by simpa using h1, h2⟩
theorem keyD_rep (k : Key) : Rep K cm L H (keyD k) (kV k) := by
  cases k with
  | inl i => exact .int i
  | inr x => exact .str x
theorem walk_keys {ds : List (Key × D)} {vs : List (Key × V)} {a : Addr} {o : Obj} (h : H a = some (.frz o (.dK vs))) (r : RepK K cm L H ds vs) : Walks0 K cm L H (ds.map fun kv => keyD kv.1) (Itk a o vs) :=
  walk_keep (fun L' H' i d e hd => by
    obtain ⟨k, v, hv, rfl⟩ := repK_get r hd
    refine ⟨⟨e.frz _ _ _ h, (List.getElem?_eq_some_iff.mp hv).1⟩, fun x H2 y => ⟨y.1, ?_⟩⟩
    obtain ⟨k', v', h1, h2⟩ := y.2
    rw [hv] at h1; cases h1
    rw [h2]
    exact keyD_rep k) fun L' H' e => ⟨e.frz _ _ _ h, by rw [List.length_map, repK_length r]; exact Nat.le_refl _⟩
theorem s_forK {tg : Expr} {body : List Stmt} {i : Nat} {g : DG} {b : DSt} (hp : PassesOwn (model X.prog X.w) X.A X.env X.xe) (hc : X.calm = true) (hN : X.N[i]? = some x) (hv : Vis X.env.scope x) (hg : PG X tg (rdG X.K cm g)) (hb : PSs X body (rdS X.K cm (fun _ _ _ _ => False) b))
    (hd : (x == ("__debug__" : Str)) = false := by decide) (hcd : (x == ("__classdict__" : Str)) = false := by decide) (hs : ∀ y, foldedSetIterable (.Name x p) X.env y = pure y := by intro _; rfl) :
    PS X (.For tg (.Name x p) body [] pos) (rdS X.K cm W (sForK i g b)) := weakS (ps_lock (ps_for hp hc (pi_keys (pe_var hN hv hd hcd)) hg hb hs)) fun E σ H q => by
  obtain ⟨L, S, a, q⟩ := q
  unfold sForK at q
  split at q
  · rename_i n hn
    split at q
    · rename_i kvs hk
      obtain ⟨v, hσ, rv⟩ := a.loc.2 _ _ hn
      obtain ⟨d, vs, rfl, hL, hH, rr⟩ := a.dct rv hk
      refine ⟨d, .dK vs, hH, True.intro, fun od => ?_⟩
      have lk : Ext X.K L H L (upd H d (.frz od (.dK vs))) := Ext.put a.hp hL (.inr ⟨_, hH⟩)
      have a1 : AbS X.K cm L (upd H d (.frz od (.dK vs))) { S with h := S.h.set n (.fdct kvs) } σ := a.put hL (.inr ⟨_, hH⟩) ⟨od, vs, upd_same, rr.mono lk⟩
      refine ⟨_, hσ, d, od, rfl, .inl ⟨vs, upd_same, ?_⟩⟩
      have wk : Walks0 X.K cm L (upd H d (.frz od (.dK vs))) (kvs.map fun kv => keyD kv.1) (Itk d od vs) := walk_keys upd_same (rr.mono lk)
      -- the loop over the locked dict, with the end that unlocks
      have un : ∀ {La : List Addr} {H2 : Hp} {S3 : DS} {σ2 : L2.St} {ks : List (Key × D)}, Ext X.K L (upd H d (.frz od (.dK vs))) La H2 → AbS X.K cm La H2 S3 σ2 → S3.h[n]? = some (.fdct ks) →
          H2 d = some (.frz od (.dK vs)) ∧ Ext X.K L H La (upd H2 d (.dK vs)) ∧ ExtW X.K La H2 La (upd H2 d (.dK vs)) ∧ AbS X.K cm La (upd H2 d (.dK vs)) { S3 with h := S3.h.set n (.dct kvs) } σ2 := by
        intro La H2 S3 σ2 ks e2 x2 h3
        have hd2 := e2.frz d od _ upd_same
        have hL2 := e2.ix hL
        have kw : ∀ b u, H2 b = some u → b ≠ d → upd H2 d (.dK vs) b = some u := fun b u e nb => by rw [upd_ne nb]; exact e
        have nd : ∀ b u, H2 b = some u → (∀ o ks, u ≠ .frz o (.dK ks)) → b ≠ d := fun b u e nk z => by
          rw [z, hd2] at e; cases e; exact nk _ _ rfl
        have ew : ExtW X.K La H2 La (upd H2 d (.dK vs)) := ⟨⟨[], by simp⟩, fun b ws h => by
            rcases h with (h | ⟨o, h⟩) | h
            · exact .inl (.inl (kw _ _ h (nd _ _ h fun _ _ z => nomatch z)))
            · exact .inl (.inr ⟨o, kw _ _ h (nd _ _ h fun _ _ z => nomatch z)⟩)
            · exact .inr h, fun b ws h => by
            rcases h with ⟨o, h⟩ | h
            · exact .inl ⟨o, kw _ _ h (nd _ _ h fun _ _ z => nomatch z)⟩
            · exact .inr h⟩
        have all := lk.trans e2
        refine ⟨hd2, ⟨all.pre, fun b ws h => ew.tup _ _ (all.tup _ _ h), fun b ws h => ew.rol _ _ (all.rol _ _ h), fun b u nb h => ?_, fun b u h => ?_, fun b o u h => ?_⟩, ew, ?_, x2.loc.monoW ew⟩
        · have z : b ≠ d := fun z => nb (z ▸ List.mem_of_getElem? hL)
          rw [upd_ne z]; exact all.oth b u nb h
        · by_cases z : b = d
          · subst z; exact ⟨_, upd_same⟩
          · rw [upd_ne z]; exact all.thr b u h
        · have z : b ≠ d := fun z => by rw [z, hH] at h; cases h
          rw [upd_ne z]; exact all.frz b o u h
        · refine ⟨x2.hp.nd, by rw [List.length_set]; exact x2.hp.len, fun m ob c m1 m2 => ?_⟩
          by_cases hm : m = n
          · subst hm
            rw [hL2] at m2
            cases m2
            have hlt : m < S3.h.length := by rw [← x2.hp.len]; exact (List.getElem?_eq_some_iff.mp hL2).1
            rw [show ({ S3 with h := S3.h.set m (.dct kvs) } : DS).h[m]? = some (.dct kvs) from List.getElem?_set_self hlt] at m1
            cases m1
            exact ⟨vs, upd_same, (rr.mono all).monoW ew⟩
          · rw [show ({ S3 with h := S3.h.set n (.dct kvs) } : DS).h[m]? = S3.h[m]? from List.getElem?_set_ne (Ne.symm hm)] at m1
            have nc : c ≠ d := fun z => by
              subst z
              obtain ⟨h1, q1⟩ := List.getElem?_eq_some_iff.mp m2
              obtain ⟨h2, q2⟩ := List.getElem?_eq_some_iff.mp hL2
              exact hm ((List.getElem_inj x2.hp.nd).mp (q1.trans q2.symm))
            exact (x2.hp.obs m ob c m1 m2).monoW ew fun u h => kw _ _ h nc
      -- the result of the loop, by the plain function
      have fin : AftS X.K cm (fun _ _ _ _ => False) L (upd H d (.frz od (.dK vs))) (forV g b (kvs.map fun kv => keyD kv.1) { S with h := S.h.set n (.fdct kvs) })
          ⟨fun σ' H' => H' d = some (.frz od (.dK vs)) ∧ E.nx σ' (upd H' d (.dK vs)), fun v H' => H' d = some (.frz od (.dK vs)) ∧ E.rt v (upd H' d (.dK vs)), fun σ' H' => H' d = some (.frz od (.dK vs)) ∧ E.bk σ' (upd H' d (.dK vs)), fun σ' H' => H' d = some (.frz od (.dK vs)) ∧ E.ct σ' (upd H' d (.dK vs))⟩ := by
        generalize forV g b (kvs.map fun kv => keyD kv.1) { S with h := S.h.set n (.fdct kvs) } = r at q
        cases r with
        | ok f S3 =>
          dsimp only at q
          split at q
          · rename_i ks h3
            cases f with
            | next =>
              intro L' H' σ' e' x'
              obtain ⟨u1, u2, u3, u4⟩ := un e' x' h3
              exact ⟨u1, q _ _ _ u2 u4⟩
            | brk =>
              intro L' H' σ' e' x'
              obtain ⟨u1, u2, u3, u4⟩ := un e' x' h3
              exact ⟨u1, q _ _ _ u2 u4⟩
            | cont =>
              intro L' H' σ' e' x'
              obtain ⟨u1, u2, u3, u4⟩ := un e' x' h3
              exact ⟨u1, q _ _ _ u2 u4⟩
            | ret dd =>
              intro L' H' σ' v' e' x' r'
              obtain ⟨u1, u2, u3, u4⟩ := un e' x' h3
              exact ⟨u1, q _ _ _ v' u2 u4 (r'.monoW u3)⟩
          · exact q.elim
        | exc u S3 => exact q.elim
        | stuck => exact q.elim
      exact for_vals wk a1 fin
    · exact q.elim
  · exact q.elim
end
end Den

namespace Den
open PySem L2

/-! ### 18. comprehensions -/
section
variable {cm : Str → Value} {K : PySem.W.Frag} {L L1 : List Addr} {H H1 : Hp} {S : DS} {σ : L2.St} {h : List Ob}
theorem ExtW.chg {p : Addr} {o : HO} (hw : Wr H p) : ExtW K L H L (upd H p o) :=
  ⟨⟨[], by simp⟩, (ExtW.adopt (L := L) hw).tup, (ExtW.adopt (L := L) hw).rol⟩
theorem HAb.chg {p : Addr} {o : HO} (x : HAb K cm L H h) (np : p ∉ L) (hw : Wr H p) : HAb K cm L (upd H p o) h :=
  ⟨x.nd, x.len, fun n ob a e1 e2 => (x.obs n ob a e1 e2).monoW (ExtW.chg hw) fun u q => by rw [upd_ne (fun z : a = p => np (by rw [← z]; exact List.mem_of_getElem? e2))]; exact q⟩
theorem AbS.chg {p : Addr} {o : HO} (x : AbS K cm L H S σ) (np : p ∉ L) (hw : Wr H p) : AbS K cm L (upd H p o) S σ := ⟨x.hp.chg np hw, x.loc.monoW (ExtW.chg hw)⟩
theorem Ext.chg {p : Addr} {o : HO} (hp : H p = none) (e : Ext K L H L1 H1) (hw : Wr H1 p) : Ext K L H L1 (upd H1 p o) := by
  have w : ExtW K L1 H1 L1 (upd H1 p o) := ExtW.chg hw
  have ne : ∀ a u, H a = some u → a ≠ p := fun a u q z => by rw [z, hp] at q; cases q
  exact ⟨e.pre, fun a vs q => w.tup a vs (e.tup a vs q), fun a vs q => w.rol a vs (e.rol a vs q), fun a u na q => by rw [upd_ne (ne a u q)]; exact e.oth a u na q, fun a u q => by rw [upd_ne (ne a u q)]; exact e.thr a u q, fun a u v q => by rw [upd_ne (ne a _ q)]; exact e.frz a u v q⟩
theorem Ext.out {p : Addr} {u : HO} (e : Ext K L H L1 H1) (np : p ∉ L) (hp : H p = some u) : p ∉ L1 ∧ H1 p = some u := by
  refine ⟨fun q => ?_, e.oth p u np hp⟩
  obtain ⟨M, e1, nM⟩ := e.pre
  rw [e1] at q
  rcases List.mem_append.mp q with q | q
  · exact np q
  · rw [nM p q] at hp; cases hp
theorem upd_id {p : Addr} {o : HO} (hp : H p = some o) : upd H p o = H := by
  funext b
  by_cases z : b = p
  · subst z; rw [upd_same, hp]
  · rw [upd_ne z]
theorem Ext.own {p : Addr} (e : Ext K L H L1 H1) (hp : H p = none) : Ext K L H (L1 ++ [p]) H1 := by
  obtain ⟨M, e1, nM⟩ := e.pre
  refine ⟨⟨M ++ [p], by rw [e1, List.append_assoc], fun a ha => ?_⟩, e.tup, e.rol, e.oth, e.thr, e.frz⟩
  rcases List.mem_append.mp ha with z | z
  · exact nM a z
  · rw [List.mem_singleton.mp z]; exact hp
end
def Res.only {α β : Type} (r : Res α) (k : α → DS → Res β) : Res β := match r with
  | .ok a S => k a S
  | _ => .stuck
@[simp] theorem Res.only_ok {α β : Type} (a : α) (S : DS) (k : α → DS → Res β) : (Res.ok a S).only k = k a S := rfl
/-- one turn's test and element -/
def compT (t : DT) (e : DE) (S : DS) (acc : List D) : Res (List D) := (t S).only fun c S1 => if c then (e S1).only fun y S2 => if acc.length < mxL then .ok (acc ++ [y]) S2 else .stuck else .ok acc S1
def compV (g : DG) (t : DT) (e : DE) (w : List (Option D)) : List D → List D → List Ob → Res (List D)
  | [], acc, h => .ok acc ⟨w, h⟩
  | d :: ds, acc, h => match g d ⟨w, h⟩ with
    | some S0 => (compT t e S0 acc).only fun acc2 S1 => compV g t e w ds acc2 S1.h
    | none => .stuck
def compO (n : Nat) (g : DG) (t : DT) (e : DE) (w : List (Option D)) : Nat → Nat → List D → List Ob → Res (List D)
  | 0, _, _, _ => .stuck
  | k + 1, i, acc, h => match h[n]? with
    | some (.lst xs) => match xs[i]? with
      | none => .ok acc ⟨w, h⟩
      | some d => match g d ⟨w, h⟩ with
        | some S0 => (compT t e S0 acc).only fun acc2 S1 => compO n g t e w k (i + 1) acc2 S1.h
        | none => .stuck
    | _ => .stuck
def wipeD (ls : List (Option D)) : List Nat → List (Option D)
  | [] => ls
  | v :: vs => (wipeD ls vs).set v none
def dComp (vs : List Nat) (it : DS → Res Iter0) (g : DG) (t : DT) (e : DE) : DE := fun S => (it S).bind fun I S1 => match (match I with
    | .vals xs => compV g t e (wipeD S1.loc vs) xs [] S1.h
    | .obj n => compO n g t e (wipeD S1.loc vs) 100000 0 [] S1.h) with
  | .ok acc S2 => newO (.lst acc) ⟨S1.loc, S2.h⟩
  | _ => .stuck
def tTrue : DT := fun S => .ok true S
section
variable {X : Cx} {cm : Str → Value} {W : WX} {K : PySem.W.Frag} {L : List Addr} {H : Hp} {S : DS} {σ : L2.St}
theorem loc_wipe {ls : List (Option D)} (r : LocR K cm L H ls σ) : ∀ vs : List Nat, LocR K cm L H (wipeD ls vs) (wipe σ vs)
  | [] => r
  | v :: vs => by
    have ih := loc_wipe r vs
    unfold wipeD wipe
    refine ⟨by rw [List.length_set, List.length_set]; exact ih.1, fun i d q => ?_⟩
    by_cases hi : v = i
    · subst hi
      by_cases hl : v < (wipeD ls vs).length
      · rw [List.getElem?_set_self hl] at q; cases q
      · rw [List.getElem?_eq_none (by rw [List.length_set]; omega)] at q; cases q
    · rw [List.getElem?_set_ne hi] at q
      rw [List.getElem?_set_ne hi]
      exact ih.2 i d q
/-- the target of a comprehension, by its slots -/
def TgOk (K : PySem.W.Frag) (cm : Str → Value) (vs : List Nat) (g : TG) (f : DG) : Prop := ∀ {L : List Addr} {H : Hp} {S : DS} {σ : L2.St} {d : D} {x : V} {S0 : DS} {Q : L2.St → Hp → Prop}, AbS K cm L H S (wipe σ vs) → Rep K cm L H d x → f d S = some S0 →
  (∀ σ2, AbS K cm L H S0 σ2 → wipe σ2 vs = wipe σ vs → Q σ2 H) → g x (wipe σ vs) H Q
theorem tg_one (i : Nat) : TgOk K cm [i] (gName i) (gN i) := fun {L H S σ d x S0 Q} a r e k => by
  cases e
  refine k _ (a.set r i) ?_
  show ((σ.set i none).set i (some x)).set i none = σ.set i none
  rw [List.set_set, List.set_set]
theorem tg_two (i j : Nat) (hij : i ≠ j) : TgOk K cm [i, j] (L2.gTup K 2 (L2.gCons (gName i) (L2.gCons (gName j) L2.gNil))) (gTup 2 (gCons (gN i) (gCons (gN j) gNil))) := fun {L H S σ d x S0 Q} a r e k => by
  unfold gTup at e
  split at e
  · rename_i xs
    split at e
    · rename_i hl
      cases r with
      | @tup xs vs p hs rr =>
        cases rr with
        | nil => cases hl
        | @cons d1 ds v1 vs r1 rr =>
          cases rr with
          | nil => cases hl
          | @cons d2 ds v2 vs r2 rr =>
            cases rr with
            | cons _ _ => cases hl
            | nil =>
              refine ⟨p, _, rfl, hs, rfl, v1, _, rfl, v2, _, rfl, rfl, ?_⟩
              cases e
              refine k _ ((a.set r1 i).set r2 j) ?_
              show ((((((σ.set j none).set i none).set i (some v1)).set j (some v2))).set j none).set i none = (σ.set j none).set i none
              rw [List.set_set, List.set_comm _ _ hij, List.set_comm none (some v1) (Ne.symm hij)]
              simp only [List.set_set, List.set_comm _ _ hij]
    · cases e
  · cases e
/-- what stands in the middle of a comprehension -/
structure Mid (K : PySem.W.Frag) (cm : Str → Value) (L1 : List Addr) (H1 : Hp) (p : Addr) (w : List (Option D)) (σw : L2.St) (La : List Addr) (Ha : Hp) (acc : List D) (h : List Ob) : Prop where
  ab : AbS K cm La Ha ⟨w, h⟩ σw
  ext : Ext K L1 H1 La Ha
  out : p ∉ La
  acc : ∃ vs, Ha p = some (.lst vs) ∧ Reps K cm La Ha acc vs
def W0 : WX := fun _ _ _ _ => False
theorem only_ok {α β : Type} {r : Res α} {k : α → DS → Res β} {y : β} {S' : DS} (h : r.only k = .ok y S') : ∃ a S, r = .ok a S ∧ k a S = .ok y S' := by
  cases r with
  | ok a S => exact ⟨a, S, rfl, h⟩
  | exc e S => cases h
  | stuck => cases h
/-- the test and the element of one turn -/
theorem turn_ok {tt : DT} {fe : DE} {L1 La : List Addr} {H1 Ha : Hp} {p : Addr} {w : List (Option D)} {σw σ2 : L2.St} {acc acc2 : List D} {S0 S1 : DS} (hp : H1 p = none) (e0 : Ext K L1 H1 La Ha) (out : p ∉ La) (ha : ∃ vs, Ha p = some (.lst vs) ∧ Reps K cm La Ha acc vs) (a : AbS K cm La Ha S0 σ2) (hl : LocR K cm La Ha w σw)
    (h : compT tt fe S0 acc = .ok acc2 S1) {Q : Hp → Prop} (q : ∀ Lb Hb, Mid K cm L1 H1 p w σw Lb Hb acc2 S1.h → Q Hb) :
    rdT K cm W0 tt σ2 Ha fun b H3 => if b = true then rdE K cm W0 fe σ2 H3 fun y H4 => ∃ ac, H4 p = some (.lst ac) ∧ ac.length < sizeLine ∧ Q (upd H4 p (.lst (ac ++ [y]))) else Q H3 := by
  obtain ⟨vs, hv, rv⟩ := ha
  obtain ⟨c, S2, h1, h2⟩ := only_ok h
  refine ⟨La, S0, a, ?_⟩
  rw [h1]
  rintro L3 H3 b e3 x3 rfl
  obtain ⟨out3, hv3⟩ := e3.out out hv
  cases c with
  | true =>
    rw [if_pos rfl] at h2 ⊢
    obtain ⟨y, S3, h3, h4⟩ := only_ok h2
    refine ⟨L3, S2, x3, ?_⟩
    rw [h3]
    intro L4 H4 v e4 x4 r4
    obtain ⟨out4, hv4⟩ := e4.out out3 hv3
    split at h4
    · rename_i hz
      cases h4
      refine ⟨vs, hv4, by rw [← rv.length]; exact mx_lt hz, q L4 _ ⟨?_, Ext.chg hp ((e0.trans e3).trans e4) (.inl ⟨vs, hv4⟩), out4, _, upd_same, ?_⟩⟩
      · have x5 : AbS K cm L4 H4 ⟨w, S1.h⟩ σw := ⟨x4.hp, hl.mono (e3.trans e4)⟩
        exact x5.chg out4 (.inl ⟨vs, hv4⟩)
      · exact ((rv.mono (e3.trans e4)).append (.cons r4 .nil)).monoW (ExtW.chg (.inl ⟨vs, hv4⟩))
    · cases h4
  | false =>
    rw [if_neg (by decide)] at h2 ⊢
    cases h2
    exact q L3 H3 ⟨⟨x3.hp, hl.mono e3⟩, e0.trans e3, out3, vs, hv3, rv.mono e3⟩
/-- the whole -/
theorem comp_core {it : DS → Res Iter0} {g : TG} {f : DG} {tt : DT} {fe : DE} {vs : List Nat} (tg : TgOk X.K cm vs g f) {σ : L2.St} {H : Hp} {Q : VK} (q : rdE X.K cm W (dComp vs it f tt fe) σ H Q) :
    tLc (rdI X.K cm W it) g (rdT X.K cm W0 tt) (rdE X.K cm W0 fe) vs σ H Q := by
  obtain ⟨L, S, a, q⟩ := q
  refine ⟨L, S, a, (Aft.step (R := ItR X.K cm) q).mono fun J H1 z => ?_⟩
  obtain ⟨L1, S1, I, e1, x1, r1, q1⟩ := z
  intro p hp
  have hl := loc_wipe x1.loc vs
  have mid0 : Mid X.K cm L1 H1 p (wipeD S1.loc vs) (wipe σ vs) L1 (upd H1 p (.lst [])) [] S1.h :=
    ⟨⟨x1.hp.beside hp, hl.mono (Ext.beside hp)⟩, Ext.beside hp, x1.hp.fresh hp, [], upd_same, .nil⟩
  -- the end
  have fin : ∀ {acc : List D} {S2 : DS} {La : List Addr} {Ha : Hp}, Mid X.K cm L1 H1 p (wipeD S1.loc vs) (wipe σ vs) La Ha acc S2.h → Aft X.K cm W (Rep X.K cm) L1 σ H1 (newO (.lst acc) ⟨S1.loc, S2.h⟩) Q → Q (.ref p) Ha := fun {acc S2 La Ha} m q => by
    obtain ⟨ws, hv, rv⟩ := m.acc
    have eo := m.ext.own hp
    have ew : ExtW X.K La Ha (La ++ [p]) (upd Ha p (.lst ws)) := ExtW.adopt (.inl ⟨ws, hv⟩)
    have hb := m.ab.hp.adopt (ob := .lst acc) m.out (.inl ⟨ws, hv⟩) ⟨ws, upd_same, rv.monoW ew⟩
    rw [upd_id hv] at hb
    exact q _ _ _ eo ⟨hb, x1.loc.mono eo⟩ (.ref m.ab.hp.newIx)
  cases I with
  | vals xs =>
    have wk : Walks0 X.K cm L1 H1 xs J := r1
    dsimp only at q1
    refine ⟨fun i m Ha => m = xs.length - i ∧ i ≤ xs.length ∧ ∃ La acc h S2 acc2, Mid X.K cm L1 H1 p (wipeD S1.loc vs) (wipe σ vs) La Ha acc h ∧ compV f tt fe (wipeD S1.loc vs) (xs.drop i) acc h = .ok acc2 S2 ∧ Aft X.K cm W (Rep X.K cm) L1 σ H1 (newO (.lst acc2) ⟨S1.loc, S2.h⟩) Q, ?_, ?_⟩
    · generalize hr : compV f tt fe (wipeD S1.loc vs) xs [] S1.h = r at q1
      cases r with
      | ok acc2 S2 => exact ⟨xs.length, by simp, Nat.zero_le _, L1, [], S1.h, S2, acc2, mid0, by simpa using hr, q1⟩
      | exc u S2 => exact q1.elim
      | stuck => exact q1.elim
    · rintro i m Ha ⟨rfl, hi, La, acc, h, S2, acc2, md, hc, qf⟩
      by_cases hlt : i < xs.length
      · obtain ⟨go, yl⟩ := wk.go La Ha i xs[i] md.ext (by simp [hlt])
        rw [List.drop_eq_getElem_cons hlt] at hc
        unfold compV at hc
        split at hc
        · rename_i S0 h0
          obtain ⟨acc3, S3, h3, h4⟩ := only_ok hc
          refine .inr ⟨go, fun Hb => i + 1 ≤ xs.length ∧ ∃ Lb, Mid X.K cm L1 H1 p (wipeD S1.loc vs) (wipe σ vs) Lb Hb acc3 S3.h, fun Hb ⟨z1, Lb, z2⟩ => ⟨xs.length - (i + 1), by omega, rfl, z1, Lb, acc3, S3.h, S2, acc2, z2, h4, qf⟩, fun x Hb y => ?_⟩
          obtain ⟨eb, hb, rx⟩ := yl x Hb y
          obtain ⟨ws, hv, rv⟩ := md.acc
          obtain ⟨outb, hvb⟩ := eb.out md.out hv
          have lb := md.ab.loc.mono eb
          refine tg ⟨hb _ md.ab.hp, lb⟩ rx h0 fun σ2 a2 ew => ⟨ew, ?_⟩
          exact turn_ok hp (md.ext.trans eb) outb ⟨ws, hvb, rv.mono eb⟩ a2 lb h3 fun Lb Hc mc => ⟨hlt, Lb, mc⟩
        · cases hc
      · have e0 : i = xs.length := by omega
        subst e0
        rw [List.drop_length] at hc
        cases hc
        exact .inl ⟨wk.stop La Ha md.ext, fin (S2 := ⟨wipeD S1.loc vs, h⟩) md qf⟩
  | obj n =>
    obtain ⟨pl, hpl, rfl⟩ := r1
    dsimp only at q1
    refine ⟨fun i m Ha => ∃ La acc h S2 acc2, Mid X.K cm L1 H1 p (wipeD S1.loc vs) (wipe σ vs) La Ha acc h ∧ compO n f tt fe (wipeD S1.loc vs) m i acc h = .ok acc2 S2 ∧ Aft X.K cm W (Rep X.K cm) L1 σ H1 (newO (.lst acc2) ⟨S1.loc, S2.h⟩) Q, ?_, ?_⟩
    · generalize hr : compO n f tt fe (wipeD S1.loc vs) 100000 0 [] S1.h = r at q1
      cases r with
      | ok acc2 S2 => exact ⟨100000, L1, [], S1.h, S2, acc2, mid0, hr, q1⟩
      | exc u S2 => exact q1.elim
      | stuck => exact q1.elim
    · rintro i m Ha ⟨La, acc, h, S2, acc2, md, hc, qf⟩
      cases m with
      | zero => cases hc
      | succ m =>
        unfold compO at hc
        split at hc
        · rename_i xs hx
          obtain ⟨a2, us, ea, hL, hH, rr⟩ := md.ab.lst (.ref (md.ext.ix hpl)) hx
          obtain rfl : pl = a2 := by cases ea; rfl
          split at hc
          · rename_i hn
            cases hc
            refine .inl ⟨⟨us, SqL.of hH, ?_⟩, fin (S2 := ⟨wipeD S1.loc vs, h⟩) md qf⟩
            rw [← rr.length]
            exact List.getElem?_eq_none_iff.mp hn
          · rename_i d hd
            obtain ⟨v, hv, rv⟩ := rr.get hd
            split at hc
            · rename_i S0 h0
              obtain ⟨acc3, S3, h3, h4⟩ := only_ok hc
              refine .inr ⟨⟨us, v, SqL.of hH, hv⟩, fun Hb => ∃ Lb, Mid X.K cm L1 H1 p (wipeD S1.loc vs) (wipe σ vs) Lb Hb acc3 S3.h, fun Hb ⟨Lb, z2⟩ => ⟨m, Nat.lt_succ_self _, Lb, acc3, S3.h, S2, acc2, z2, h4, qf⟩, fun x Hb y => ?_⟩
              obtain ⟨eH, hy⟩ := y
              subst eH
              have ev := hy us (SqL.of hH)
              rw [hv] at ev
              cases ev
              refine tg md.ab rv h0 fun σ2 a3 ew => ⟨ew, ?_⟩
              exact turn_ok hp md.ext md.out md.acc a3 md.ab.loc h3 fun Lb Hc mc => ⟨Lb, mc⟩
            · cases hc
        · cases hc
variable {elt tg iter : Expr} {ifs : List Expr} {scope : Scope} {own : List (Str × Nat)} {pos p : Pos}
theorem ts_nil : PTs X [] (rdT X.K cm W tTrue) := ⟨fun pins s σ H Q I q => pts_nil.run pins s σ H Q I (by
  obtain ⟨L, S, a, q⟩ := q
  exact q.give a rfl)⟩
theorem ts_one {c : Expr} {t : DT} (h : PT X c (rdT X.K cm W t)) : PTs X [c] (rdT X.K cm W t) := pts_one h
theorem e_comp {it : DS → Res Iter0} {g : TG} {f : DG} {tt : DT} {fe : DE} (hc : X.calm = true) (hN : X.N.Nodup) (hi : PI X tg iter (rdI X.K cm W it)) (ok : BlkOk X.N X.env.scope scope own) (tgo : TgOk X.K cm (own.map (·.2)) g f)
    (hg : ∀ (s : Shared) (H : Hp) (C : Addr) (cl : List (Str × Addr)) (fp : List Addr), PG (X.blk s H scope (compEnvC scope cl C X.env) fp) tg g)
    (ht : ∀ (s : Shared) (H : Hp) (C : Addr) (cl : List (Str × Addr)) (fp : List Addr), PTs (X.blk s H scope (compEnvC scope cl C X.env) fp) ifs (rdT X.K cm W0 tt))
    (he : ∀ (s : Shared) (H : Hp) (C : Addr) (cl : List (Str × Addr)) (fp : List Addr), PE (X.blk s H scope (compEnvC scope cl C X.env) fp) elt (rdE X.K cm W0 fe)) (hs : ∀ x, foldedSetIterable iter X.env x = pure x := by intro _; rfl) :
    PE X (.ListComp elt [⟨tg, iter, ifs, 0⟩] scope pos) (rdE X.K cm W (dComp (own.map (·.2)) it f tt fe)) := weakE (pe_lc hc hN hi ok hg ht he hs) fun _ _ _ => comp_core tgo
/-- name = [..] on one line -/
theorem s_setC {i : Nat} {y : Str} {py spos : Pos} {it : DS → Res Iter0} {g : TG} {f : DG} {tt : DT} {fe : DE} (hc : X.calm = true) (hN : X.N.Nodup) (hy : X.N[i]? = some y) (hyl : X.env.scope.names.lookup y = some .local)
    (hsw : swapsWith (.ListComp elt [⟨tg, iter, ifs, 0⟩] scope pos) (some (.Name y py)) spos.line X.env = pure true) (hi : PI X tg iter (rdI X.K cm W it)) (ok : BlkOk X.N X.env.scope scope own) (tgo : TgOk X.K cm (own.map (·.2)) g f)
    (hg : ∀ (s : Shared) (H : Hp) (C : Addr) (cl : List (Str × Addr)) (fp : List Addr), PG (X.blk s H scope (compEnvC scope cl C X.env) fp) tg g)
    (ht : ∀ (s : Shared) (H : Hp) (C : Addr) (cl : List (Str × Addr)) (fp : List Addr), PTs (X.blk s H scope (compEnvC scope cl C X.env) fp) ifs (rdT X.K cm W0 tt))
    (he : ∀ (s : Shared) (H : Hp) (C : Addr) (cl : List (Str × Addr)) (fp : List Addr), PE (X.blk s H scope (compEnvC scope cl C X.env) fp) elt (rdE X.K cm W0 fe)) (hs : ∀ x, foldedSetIterable iter X.env x = pure x := by intro _; rfl) :
    PS X (.Assign [.Name y py] (.ListComp elt [⟨tg, iter, ifs, 0⟩] scope pos) spos) (rdS X.K cm W (sAsg (dComp (own.map (·.2)) it f tt fe) (gN i))) := weakS (ps_setLc hc hN hy hyl hsw hi ok hg ht he hs) fun E σ H q => by
  obtain ⟨L, S, a, q⟩ := q
  refine comp_core tgo ⟨L, S, a, (AftS.step (R := Rep X.K cm) q).mono fun v H1 z => ?_⟩
  obtain ⟨L1, S1, d, e1, x1, r1, q1⟩ := z
  exact q1 L1 H1 _ Ext.refl (x1.set r1 i)
end
end Den

namespace Den
open PySem L2

/-! ### 18. raise -/
/-- an __init__ that keeps its one value -/
def spI (K : PySem.W.Frag) (C : Addr) (f : Str) : Sp := fun vs H Q _ => ∃ a v, vs = [.ref a, v] ∧ OexC K C ∧ PySem.W.findIn K (.ref C) f = some none ∧ H a = some (exo a C none) ∧ ∀ dx, H dx = none → dx ≠ a → Q .non (upd (upd H dx (exd dx [(f, v)])) a (exo a C (some dx)))
def sRaise1 (cls f : Str) (a : DA) : DSt := fun S => (a S).bind fun ds S1 => match ds with
  | [d] => .exc ⟨cls, [(f, d)]⟩ S1
  | _ => .stuck
def sRaise0 (cls : Str) : DSt := fun S => .exc ⟨cls, []⟩ S
section
variable {X : Cx} {cm : Str → Value} {W : WX} {e : Expr} {x f cls : Str} {p p2 pos pos2 : Pos} {ga : DA} {C fI : Addr} {k : Nat} {fd : FuncData} {K : PySem.W.Frag} {L : List Addr} {H : Hp} {S : DS} {σ : L2.St}
theorem spI_len {n0 n1 : Str} : ∀ vs H Q E, spI K C f vs H Q E → vs.length = [n0, n1].length := fun _ _ _ _ h => by
  obtain ⟨_, _, rfl, _⟩ := h
  rfl
theorem spI_body {X : Cx} {D : Ends} {vs : List V} {H : Hp} {Q : VK} {E : XK} (h : spI X.K C f vs H Q E) (hD : D.nx = fun _ H' => Q .non H') : tOst X.K f (tVar 0) (tVar 1) D (vs.map some) H := by
  obtain ⟨a, v, rfl, T, hno, ea, q⟩ := h
  refine ⟨v, rfl, .ref a, rfl, a, C, rfl, T, hno, .inl ⟨ea, fun dx h1 h2 => ?_⟩⟩
  rw [hD]
  exact q dx h1 h2
theorem look_one {α : Type} {f g : Str} {y : α} : List.lookup g [(f, y)] = if g = f then some y else none := by
  by_cases h : g = f
  · subst h; simp [List.lookup]
  · have e : (g == f) = false := by simpa using h
    rw [if_neg h]; simp [List.lookup, e]
theorem s_raise1 {n0 n1 : Str} (hc : X.calm = true) (tk : Takes X W) (T : OexC X.K C) (hno : PySem.W.findIn X.K (.ref C) f = some none) (hcl : cm cls = .ref C) (iC : PySem.W.findIn X.K (.ref C) "__init__" = some (some (.ref fI))) (tI : PySem.W.typeIn X.K (.ref fI) = some (.type "function"))
    (F1 : FnOk X.prog X.w X.K X.mg X.base (L2.CX X.prog X.w) k fI fd [n0, n1] (spI X.K C f)) (hr : Room (k + 1) X.A) (hb : Binds X.K fd [n0, n1] []) (hg : Gl X x) (hm : X.mg x = some (.ref C)) (ha : PA X [e] (rdA X.K cm W ga))
    (hdb : (x == ("__debug__" : Str)) = false := by decide) (he : starEach [e] X.env = (false, eval e X.env) :: starEach [] X.env := by rfl) (hpl : (backTo pos (starEach [] X.env)).any (·.1) = false := by rfl) :
    PS X (.Raise (some (.Call (.Name x p) [e] [] pos)) none pos2) (rdS X.K cm W (sRaise1 cls f ga)) := weakS (ps_raise hc tk (pmk_oex (dvs := []) T iC tI F1 hr hb .nil passL hg hm ha hdb he hpl)) fun E σ H q => by
  obtain ⟨L, S, a, q⟩ := q
  refine ⟨L, S, a, (AftS.step (R := Reps X.K cm) q).mono fun vs H1 z => ?_⟩
  obtain ⟨L1, S1, ds, e1, x1, r1, q1⟩ := z
  split at q1
  · rename_i d
    cases r1 with
    | cons r1 r2 =>
      cases r2
      rename_i v
      refine ⟨by show 1 ≤ 1000; omega, fun o ho => ⟨o, v, rfl, T, hno, upd_same, fun dx h1 h2 => ⟨rfl, dx, [(f, v)], upd_same, ?_, ?_, ?_⟩⟩⟩
      · rw [upd_ne h2, upd_same]
      · rw [upd_ne h2] at h1; exact h1
      · rw [upd_ne h2] at h1
        have eq : upd (del (upd (upd (upd H1 o (exo o C none)) dx (exd dx [(f, v)])) o (exo o C (some dx))) o) dx (HO.xd [(f, v)]) = upd H1 dx (.xd [(f, v)]) := by
          funext b
          by_cases z1 : b = dx
          · subst z1; rw [upd_same, upd_same]
          · rw [upd_ne z1, upd_ne z1]
            by_cases z2 : b = o
            · subst z2; rw [del_same, ho]
            · rw [del_ne z2, upd_ne z2, upd_ne z1, upd_ne z2]
        rw [eq]
        refine q1 L1 _ σ (.ref C) (some dx) (Ext.beside h1) (x1.beside h1) ⟨hcl.symm, .inr ⟨dx, [(f, v)], rfl, upd_same, fun g y hy => ?_⟩⟩
        rw [look_one] at hy ⊢
        split at hy
        · rename_i hg; cases hy
          exact ⟨v, by rw [if_pos hg], r1.mono (Ext.beside h1)⟩
        · cases hy
  · exact q1.elim
/-- C(), C without an own __init__ -/
theorem pmk_own0 {bmB : List Value} {B newId initId : String} (F : ExcBaseFacts B newId initId bmB) (q : PySem.W.excIn X.K C bmB newId = true) (gC : X.mg x = some (.ref C)) (kC : PySem.W.keepIn X.K (.ref C) = true) (r : Raises X (.ref C)) (hg : Gl X x)
    (hdb : (x == ("__debug__" : Str)) = false := by decide) : PMk X (.Call (.Name x p) [] [] pos) (fun _ H Q => Q (.ref C) none H) := by
  intro pins s σ H Q I h
  apply wpAny_Call_Name_kw
  apply ld_glob I hg gC _ hdb
  apply PySem.W.callWith_K0 I.kIn kC
  show wpAny _ _ (call (.ref C) []) _ _ _
  obtain ⟨bm, N, nm, qn, bs, hdct, sn, sub, ab, col, dd, k0, k1, k2, k3, k5, mN, hC, hN, hni, T⟩ := exc_obj I.kIn q
  apply wpAny_call_exc_subT F T hC hN hni
  · intro h' o hm
    exact mk_of I hm r h (I.hok.gone hm.new)
theorem s_raise0 (hc : X.calm = true) (tk : Takes X W) (hcl : cm cls = .ref C) (h : PMk X e (fun _ H Q => Q (.ref C) none H)) : PS X (.Raise (some e) none pos2) (rdS X.K cm W (sRaise0 cls)) := weakS (ps_raise hc tk h) fun E σ H q => by
  obtain ⟨L, S, a, q⟩ := q
  exact q L H σ (.ref C) none Ext.refl a ⟨hcl.symm, .inl ⟨rfl, rfl⟩⟩
end

/-! ### 19. try -/
def sTry1 (sub : Str → Option Bool) (b : DSt) (h : Xn → DSt) : DSt := fun S => match b S with
  | .exc e S1 => match sub e.cls with
    | some true => match h e S1 with
      | .ok f S2 => .ok f S2
      | _ => .stuck
    | some false => .exc e S1
    | none => .stuck
  | r => r
def sRetX (i : Nat) (f : Xn → DE) : Xn → DSt := fun e S => if i < S.loc.length then sRet (f e) { S with loc := S.loc.set i none } else .stuck
section
variable (K : PySem.W.Frag) (cm : Str → Value) (i : Nat) (a : Addr) (cls : Value) (dx : Option Addr)
/-- a reading in an except suite, over the exception at a, whose name is slot i's -/
def rdX {α β : Type} (R : List Addr → Hp → α → β → Prop) (f : Xn → DS → Res α) : L2.St → Hp → (β → Hp → Prop) → Prop := fun σ H Q =>
  σ[i]? = some (some (.ref a)) ∧ ∃ L S e, AbS K cm L H S σ ∧ XnR K cm L H e cls dx ∧ Aft K cm W0 R L σ H (f e S) Q
end
def xFld (cn f : Str) : Xn → DE := fun e S => if e.cls = cn then match e.fs.lookup f with
  | some d => .ok d S
  | none => .stuck else .stuck
def xIsi (cn : Str) (b : Bool) : Xn → DE := fun e S => if e.cls = cn then .ok (.bl b) S else .stuck
def xC (f : DE) : Xn → DE := fun _ => f
def xNil : Xn → DA := fun _ => dNil
def xCons (f : Xn → DE) (g : Xn → DA) : Xn → DA := fun e => dCons (f e) (g e)
def xLst (g : Xn → DA) : Xn → DE := fun e => dLst (g e)
theorem XnR.mono {K : PySem.W.Frag} {cm : Str → Value} {L L1 : List Addr} {H H1 : Hp} {S : DS} {σ : L2.St} {e : Xn} {c : Value} {dx : Option Addr} (x : XnR K cm L H e c dx) (a : AbS K cm L H S σ) (ex : Ext K L H L1 H1) : XnR K cm L1 H1 e c dx := by
  obtain ⟨h1, h2⟩ := x
  refine ⟨h1, ?_⟩
  rcases h2 with h2 | ⟨d, vs, rfl, hd, hf⟩
  · exact .inl h2
  · refine .inr ⟨d, vs, rfl, ex.oth d _ (fun hm => ?_) hd, fun f y hy => ?_⟩
    · obtain ⟨n, hn, en⟩ := List.getElem_of_mem hm
      have hl : n < S.h.length := by rw [← a.hp.len]; exact hn
      have q := a.hp.obs n S.h[n] d (by simp [hl]) (by rw [List.getElem?_eq_getElem hn, en])
      generalize S.h[n] = ob at q
      cases ob with
      | lst ds => obtain ⟨vs, e, _⟩ := q; rw [hd] at e; cases e
      | dct ds => obtain ⟨vs, e, _⟩ := q; rw [hd] at e; cases e
      | fdct ds => obtain ⟨o, vs, e, _⟩ := q; rw [hd] at e; cases e
    · obtain ⟨v, hv, r⟩ := hf f y hy
      exact ⟨v, hv, r.mono ex⟩
section
variable {X : Cx} {cm : Str → Value} {W : WX} {i : Nat} {a C : Addr} {cls : Value} {dx : Option Addr} {oe : Obj} {pn : List (Addr × Obj)} {e : Expr} {es : List Expr} {pos p np pos' : Pos} {n x cn f : Str} {L : List Addr} {H : Hp} {S : DS} {σ : L2.St}
theorem rdX.at {K : PySem.W.Frag} {α β : Type} {R : List Addr → Hp → α → β → Prop} {f : Xn → DS → Res α} {Q : β → Hp → Prop} (h : rdX K cm i a cls dx R f σ H Q) : tVar i σ H fun v H1 => v = .ref a ∧ H1 = H := ⟨_, h.1, rfl, rfl⟩
theorem x_of {f : DE} (h : PE (X.suite a pn) e (rdE X.K cm W0 f)) : PE (X.suite a pn) e (rdX X.K cm i a cls dx (Rep X.K cm) (xC f)) := weakE h fun σ H Q q => by
  obtain ⟨_, L, S, e, ab, _, q⟩ := q
  exact ⟨L, S, ab, q⟩
theorem x_fld (T : XfC X.K C) (hcn : cm cn = .ref C) (hno : PySem.W.findIn X.K (.ref C) f = some none) (hz : Zc cls dx oe) (hf : ∃ vs, oe.data = .fields vs) (hN : X.N[i]? = some n := by rfl) (hv : Vis X.env.scope n := by first | exact Or.inl rfl | exact Or.inr (Or.inl rfl) | exact Or.inr (Or.inr rfl))
    (hd : (n == ("__debug__" : Str)) = false := by decide) (hcd : (n == ("__classdict__" : Str)) = false := by decide) (hb : attributeBase (.Name n p) f X.env (eval (.Name n p) X.env) = eval (.Name n p) X.env := by rfl) :
    PE (X.suite a ((a, oe) :: pn)) (.Attribute (.Name n p) f pos) (rdX X.K cm i a cls dx (Rep X.K cm) (xFld cn f)) := weakE (pe_xf (X := X) T hno hz hf (pe_var (X := X.suite a ((a, oe) :: pn)) hN hv hd hcd) hb) fun σ H Q q => by
  obtain ⟨hs, L, S, e, ab, xr, q⟩ := q
  refine ⟨_, hs, rfl, ?_⟩
  unfold xFld at q
  split at q
  · rename_i hc
    split at q
    · rename_i d hl
      obtain ⟨e1, e2⟩ := xr
      refine ⟨by rw [e1, hc, hcn], ?_⟩
      rcases e2 with ⟨e2, _⟩ | ⟨dd, vs, rfl, hdd, hfs⟩
      · rw [e2] at hl; cases hl
      · obtain ⟨v, hv, r⟩ := hfs f d hl
        exact ⟨dd, vs, v, rfl, hdd, hv, q.give ab r⟩
    · exact q.elim
  · exact q.elim
/-- isinstance of the exception -/
def rIsX (K : PySem.W.Frag) (a : Addr) (cls : Value) (dx : Option Addr) (D : Addr) (cv : Value) (b : Bool) : List V → Hp → VK → Prop := fun xs H Q => ∃ c, xs = [.ref a, c] ∧ (∀ u, RelV c u → u = cv) ∧ cls = .ref D ∧ (dx = none ∨ ∃ dd fs, dx = some dd ∧ H dd = some (.xd fs)) ∧ Q (.bl b) H
structure IsC (K : PySem.W.Frag) (D : Addr) : Prop where
  cl : (PySem.W.clsIn K D).isSome = true
  ga : PySem.W.findIn K (.ref D) "__getattribute__" = some (some (.builtin "BaseException.__getattribute__"))
  gt : PySem.W.findIn K (.ref D) "__getattr__" = some none
  sub : PySem.W.subIn K (.ref D) (.type "BaseException") = some true
  cc : PySem.W.findIn K (.ref D) "__class__" = some (some (.builtin "object.__class__"))
  nn : PySem.W.specialIn K (.builtin "object.__class__") "__get__" = some (some (.builtin "getset_descriptor.__get__"))
  tk : PySem.W.takesIn K (.builtin "object.__class__") = some true
  mo : PySem.W.mroIn K D (.type "object") = some true
theorem call_isX {D : Addr} {cv : Value} {b : Bool} (I0 : IsC X.K D) (kb : PySem.W.kitOne X.K (.ref D) cv = some b) (hz : Zc cls dx oe) (hf : ∃ vs, oe.data = .fields vs) : CallR (X.suite a ((a, oe) :: pn)) (.builtin "isinstance") (rIsX X.K a cls dx D cv b) := by
  intro pins s σ H xs us Q I r h
  obtain ⟨c, rfl, hcv, rfl, hdx, q⟩ := h
  cases r with
  | cons rx rr =>
    cases rr with
    | cons rt rr =>
      cases rr
      cases rx
      have ec := hcv _ rt
      subst ec
      obtain ⟨hget, _⟩ := I.pin (a, oe) (List.mem_append.mpr (.inl List.mem_cons_self))
      obtain ⟨vs, hv⟩ := hf
      obtain ⟨od, J⟩ : ∃ od, PySem.W.InstAt s.heap a oe D od := by
        rcases hdx with rfl | ⟨dd, fs, rfl, hdd⟩
        · exact ⟨none, hget, hz.1, by unfold PySem.W.notCls; rw [hv] <;> rfl, by rw [hz.2]; trivial⟩
        · have hx : ObjOk X.prog X.w H s.heap dd (.xd fs) := I.hok dd _ hdd
          obtain ⟨mA, ⟨o, es, ep, ho, hr⟩, _⟩ := hx
          exact ⟨some o, hget, hz.1, by unfold PySem.W.notCls; rw [hv] <;> rfl, by rw [hz.2]; exact ho⟩
      exact PySem.W.kia_one (PySem.W.kitx_exc I0.cl I0.ga I0.gt I0.sub I0.cc I0.nn I0.tk I0.mo) I.kIn J kb (fun z => nomatch z) fun tk => ⟨.bl b, H, I.kept (t' := tk) fun _ _ z => z, rfl, q⟩
theorem x_isi {cv : Value} {b : Bool} {D : Addr} {y : Str} {p1 p2 p3 : Pos} {v : V} (I0 : IsC X.K D) (kb : PySem.W.kitOne X.K (.ref D) cv = some b) (hcn : cm cn = .ref D) (hz : Zc cls dx oe) (hf : ∃ vs, oe.data = .fields vs) (hg : Gl X "isinstance") (hm : X.mg "isinstance" = none)
    (hgy : Gl X y) (hmy : X.mg y = some cv) (rv : RelV v cv) (hv1 : ∀ u, RelV v u → u = cv) (hy : (y == ("__debug__" : Str)) = false := by decide) (hN : X.N[i]? = some n := by rfl) (hv : Vis X.env.scope n := by first | exact Or.inl rfl | exact Or.inr (Or.inl rfl) | exact Or.inr (Or.inr rfl))
    (hd : (n == ("__debug__" : Str)) = false := by decide) (hcd : (n == ("__classdict__" : Str)) = false := by decide) :
    PE (X.suite a ((a, oe) :: pn)) (.Call (.Name "isinstance" p1) [.Name n p2, .Name y p3] [] pos) (rdX X.K cm i a cls dx (Rep X.K cm) (xIsi cn b)) :=
  weakE (pe_callB (X := X.suite a ((a, oe) :: pn)) (call_isX I0 kb hz hf) hg hm rfl (pa_cons (pe_var (X := X.suite a ((a, oe) :: pn)) hN hv hd hcd) (pa_cons (pe_glob (X := X.suite a ((a, oe) :: pn)) hgy hmy rv hy) pa_nil)) (by decide) (by decide)) fun σ H Q q => by
    obtain ⟨hs, L, S, e, ab, xr, q⟩ := q
    unfold xIsi at q
    split at q
    · rename_i hc
      obtain ⟨e1, e2⟩ := xr
      refine ⟨_, hs, v, rfl, hv1, by rw [e1, hc, hcn], ?_, q.give ab (.bl b)⟩
      rcases e2 with ⟨_, e2⟩ | ⟨dd, vs, e2, hdd, _⟩
      · exact .inl e2
      · exact .inr ⟨dd, vs, e2, hdd⟩
    · exact q.elim
theorem xa_nil : PA (X.suite a pn) [] (rdX X.K cm i a cls dx (Reps X.K cm) xNil) := weakA pa_nil fun σ H Q q => by
  obtain ⟨_, L, S, e, ab, _, q⟩ := q
  exact q.give ab .nil
theorem xa_cons {ff : Xn → DE} {gg : Xn → DA} (h : PE (X.suite a pn) e (rdX X.K cm i a cls dx (Rep X.K cm) ff)) (hr : PA (X.suite a pn) es (rdX X.K cm i a cls dx (Reps X.K cm) gg)) (hs : starEach (e :: es) X.env = (false, eval e X.env) :: starEach es X.env := by rfl) :
    PA (X.suite a pn) (e :: es) (rdX X.K cm i a cls dx (Reps X.K cm) (xCons ff gg)) := weakA (pa_cons h hr hs) fun σ H Q q => by
  obtain ⟨hs, L, S, e, ab, xr, q⟩ := q
  refine ⟨hs, L, S, e, ab, xr, (Aft.step (R := Rep X.K cm) q).mono fun v H1 z => ?_⟩
  obtain ⟨L1, S1, d, e1, x1, r1, q1⟩ := z
  refine ⟨hs, L1, S1, e, x1, xr.mono ab e1, (Aft.step (R := Reps X.K cm) q1).mono fun u H2 z => ?_⟩
  obtain ⟨L2, S2, d2, e2, x2, r2, q2⟩ := z
  exact q2.give x2 (.cons (r1.mono e2) r2)
theorem x_lst {gg : Xn → DA} (h : PA (X.suite a pn) es (rdX X.K cm i a cls dx (Reps X.K cm) gg)) : PE (X.suite a pn) (.List es pos) (rdX X.K cm i a cls dx (Rep X.K cm) (xLst gg)) := weakE (pe_lst h) fun σ H Q q => by
  obtain ⟨hs, L, S, e, ab, xr, q⟩ := q
  refine ⟨hs, L, S, e, ab, xr, (Aft.step (R := Reps X.K cm) q).mono fun v H1 z => ?_⟩
  obtain ⟨L1, S1, d, e1, x1, r1, q1⟩ := z
  split at q1
  · rename_i h
    exact ⟨mx_line (by rw [← r1.length]; exact h), fun p hp => give_new x1 r1 q1 hp⟩
  · exact q1.elim
theorem LocR.unset {K : PySem.W.Frag} {ls : List (Option D)} {v : Option V} (r : LocR K cm L H ls σ) (i : Nat) : LocR K cm L H (ls.set i none) (σ.set i v) := by
  refine ⟨by rw [List.length_set, List.length_set]; exact r.1, fun j d q => ?_⟩
  by_cases hi : i = j
  · subst hi
    by_cases hl : i < ls.length
    · rw [List.getElem?_set_self hl] at q; cases q
    · rw [List.getElem?_eq_none (by rw [List.length_set]; omega)] at q; cases q
  · rw [List.getElem?_set_ne hi] at q
    rw [List.getElem?_set_ne hi]
    exact r.2 j d q
theorem s_try_as {c : Value} {sub : Str → Option Bool} {body : List Stmt} {e0 : Expr} {pr : Pos} {b : DSt} {ff : Xn → DE} (hs : X.stack = X.env :: X.outer) (hf : X.env.frame = some X.env.locals) (hN : X.N.Nodup) (hi : X.N[i]? = some n) (hln : X.env.kindOf n = some .local) (hc : Names X x c) (tk : Takes X W)
    (hsub : ∀ m r, sub m = some r → PySem.W.exmOne X.K (cm m) c = some r)
    (hb : ∀ (W : WX) (pn : List (Addr × Obj)) (xe : Value → Shared → Prop), Takes (X.tr pn xe) W → PassesOwn (model X.prog X.w) X.A X.env xe → PSs (X.tr pn xe) body (rdS X.K cm W b))
    (hsu : ∀ (a : Addr) (oe : Obj) (cls : Value) (d : Option Addr) (pn : List (Addr × Obj)), Zc cls d oe → (∃ vs, oe.data = .fields vs) → PE (X.suite a ((a, oe) :: pn)) e0 (rdX X.K cm i a cls d (Rep X.K cm) ff)) :
    PS X (.Try body [.ExceptHandler (some (.Name x np)) (some n) [.Return (some e0) pr] pos'] [] [] pos) (rdS X.K cm W (sTry1 sub b (sRetX i ff))) :=
  weakS (ps_try_as (ts := fun a cls d => tRet (rdX X.K cm i a cls d (Rep X.K cm) ff)) hs hf hN hi hln hc tk hb fun a oe cls d pn h1 h2 => pss_one (ps_ret (hsu a oe cls d pn h1 h2))) fun D σ H q => by
    obtain ⟨L, S, ab, q⟩ := q
    refine ⟨L, S, ab, ?_⟩
    unfold sTry1 at q
    generalize b S = r at q
    cases r with
    | ok f S1 => cases f <;> exact q
    | stuck => exact q
    | exc u S1 =>
      dsimp only at q
      intro L1 H1 σ1 cl dx e1 x1 xr
      split at q
      · rename_i hsb
        refine ⟨true, ?_, fun _ a ha => ?_, fun z => by cases z⟩
        · rw [xr.1]; exact hsub _ _ hsb
        · have q1 := AftS.ext e1 q
          unfold sRetX sRet at q1
          by_cases hlt : i < S1.loc.length
          · rw [if_pos hlt] at q1
            refine ⟨by rw [List.getElem?_set_self (by rw [← x1.loc.1]; exact hlt)], L1, { S1 with loc := S1.loc.set i none }, u, ⟨x1.hp, x1.loc.unset i⟩, xr, ?_⟩
            generalize ff u { S1 with loc := S1.loc.set i none } = w at q1
            cases w with
            | ok d S2 => exact fun L' H' v ex xx rr => q1 L' H' (σ1.set i (some (.ref a))) v ex xx rr
            | exc _ _ => exact q1.elim
            | stuck => exact q1.elim
          · rw [if_neg hlt] at q1
            exact q1.elim
      · rename_i hsb
        refine ⟨false, ?_, fun z => (by cases z), fun _ => ?_⟩
        · rw [xr.1]; exact hsub _ _ hsb
        · exact (AftS.ext e1 q) L1 H1 σ1 cl dx Ext.refl x1 xr
      · exact q.elim
end
end Den

namespace Den
open PySem L2

/-! ### 20. x[::-1] -/
def revS (z : Str) : Str := ⟨z.cps.reverse⟩
def oRev : D → DS → Res D := fun x S => match x with
  | .str z => if z.length ≤ mxL then .ok (.str (revS z)) S else .stuck
  | .ro xs => newO (.lst xs.reverse) S
  | .ref n => match S.h[n]? with
    | some (.lst xs) => newO (.lst xs.reverse) S
    | _ => .stuck
  | _ => .stuck
def dRev (a : DE) : DE := fun S => (a S).bind oRev
def tRevA (K : PySem.W.Frag) (te : TE) : TE := fun σ H Q => te σ H fun x H1 => (∃ z, x = .str z ∧ z.length ≤ sizeLine ∧ Q (.str (revS z)) H1) ∨ ∃ a xs, x = .ref a ∧ SqL K H1 a xs ∧ ∀ p, H1 p = none → Q (.ref p) (upd H1 p (.lst xs.reverse))
theorem rev_ix (n : Nat) : Builtin.Str.strSliceIndices none none (-1) n = (List.range n).reverse := by
  rw [← PySem.W.krv_range, ← PySem.W.krv_sliceRange]
  rfl
section
variable {X : Cx} {cm : Str → Value} {W : WX} {e : Expr} {fa : DE} {te : TE} {k : Nat} {p1 p2 p3 pos : Pos}
theorem revS_size (z : Str) : (revS z).length = z.length := by
  show (z.cps.reverse).size = z.cps.size
  exact Array.size_reverse
theorem pe_revA (he : PE X e te) : PE X (.Subscript e (.Slice none none (some (.UnaryOp .USub (.Constant (.int 1) k p1) p2)) p3) pos) (tRevA X.K te) := by
  constructor
  intro pins s σ H Q I hh
  apply PyProof.Rows.Subscript_
  apply thn (he.run pins s σ H _ I hh)
  rintro v s1 ⟨x, H1, I1, rx, hq⟩
  have step1 : PO X (some (.UnaryOp .USub (.Constant (.int 1) k p1) p2)) (tPart (tUn (rU fun i => .int (-i)) (tC (.int 1)))) := po_some (pe_un un_neg pe_int)
  apply wpAny_Slice
  apply thn (po_none.run pins s1 σ H1 (fun o G => o = none ∧ G = H1) I1 ⟨rfl, rfl⟩)
  rintro vl s2 ⟨l, H2, I2, pl, rfl, rfl⟩
  apply thn (po_none.run pins s2 σ H2 (fun o G => o = none ∧ G = H2) I2 ⟨rfl, rfl⟩)
  rintro vu s3 ⟨u, H3, I3, pu, rfl, rfl⟩
  apply thn (step1.run pins s3 σ H3 (fun o G => o = some (-1) ∧ G = H3) I3 ⟨1, rfl, -1, rfl, rfl, rfl⟩)
  rintro vs s4 ⟨o, H4, I4, ps, rfl, rfl⟩
  have J : Inv X pins σ H4 { s4 with heap := s4.heap.push { cls := .type "slice", data := .fields #[vl, vu, vs] } } := I4.kept (t' := s4.toks) fun b ob q => Heap.get?_push_of_some _ q
  rcases hq with ⟨z, rfl, hz, hq⟩ | ⟨a, xs, rfl, hx, hq⟩
  · obtain ⟨t, rfl⟩ := rx
    obtain ⟨l, rfl, hl⟩ := IsPart.raw pl
    obtain ⟨u, rfl, hu⟩ := IsPart.raw pu
    obtain ⟨st, rfl, hst⟩ := IsPart.raw ps
    show wpAny (model X.prog X.w) X.A (PyProof.Rows.subscriptTail e (.Slice none none (some (.UnaryOp .USub (.Constant (.int 1) k p1) p2)) p3) (.str z t) (.ref s4.heap.objs.size)) (EP X pins σ Q) X.xe { s4 with heap := s4.heap.push { cls := .type "slice", data := .fields #[partValue l, partValue u, partValue st] } }
    apply PyProof.Rows.tail_any (T := "str") (ops := [.str z t, .ref s4.heap.objs.size]) (typeIs_str _ z t) F.slot_str_getitem.lookup _ (by with_unfolding_all rfl)
    apply wpAny_getItem_str_slice (l := l) (u := u) (st := st) ⟨_, Heap.get?_push_size _ rfl, rfl, rfl⟩ (by rw [hst]; rfl)
    have e0 : slicePicked z l u st = (List.range z.length).reverse := by
      unfold slicePicked
      rw [hl, hu, hst]
      exact rev_ix z.length
    have c0 : ((st.map (·.1)).getD 1 == 1 && (slicePicked z l u st).length == z.length) = false := by rw [hst]; rfl
    unfold sliceMade
    rw [if_neg (by rw [c0]; decide), e0]
    have e1 : (⟨((List.range z.length).reverse.filterMap (z.cps[·]?)).toArray⟩ : Str) = revS z := by
      unfold revS
      rw [List.filterMap_reverse, show z.length = z.cps.size from rfl, PySem.W.krv_all, ← Array.toList_reverse]
    rw [e1]
    exact ⟨by rw [revS_size]; exact hz, .str _, H4, J.tok _, ⟨_, rfl⟩, hq⟩
  · cases rx
    obtain ⟨its, r, ht, hz⟩ := J.list hx
    have hn := r.length
    show wpAny (model X.prog X.w) X.A (PyProof.Rows.subscriptTail e (.Slice none none (some (.UnaryOp .USub (.Constant (.int 1) k p1) p2)) p3) (.ref a) (.ref s4.heap.objs.size)) (EP X pins σ Q) X.xe { s4 with heap := s4.heap.push { cls := .type "slice", data := .fields #[vl, vu, vs] } }
    apply PyProof.Rows.tail_any (ops := [.ref a, .ref s4.heap.objs.size]) ht.isList.typeIs PySem.slot_list_getitem.lookup _ (by with_unfolding_all rfl)
    apply wpAny_getItem_list_slice ht.isList (Heap.IsSliceOf.new _ vl vu vs) pl pu ps (by decide) _ (by rw [List.size_toArray]; omega)
    rw [PySem.W.krv_pick]
    exact ⟨.ref _, _, J.laid (t' := s4.toks) (o := .lst xs.reverse) (fun b ob q => Heap.get?_push_of_some _ q) (Nat.le_refl _) ⟨by rw [List.length_reverse]; exact hz, _, 0, r.reverse, Heap.get?_push_size _ rfl⟩, rfl, hq _ (J.hok.fresh (Nat.le_refl _))⟩
theorem reps_rev {K : PySem.W.Frag} {L : List Addr} {H : Hp} : ∀ {ds : List D} {vs : List V}, Reps K cm L H ds vs → Reps K cm L H ds.reverse vs.reverse
  | _, _, .nil => .nil
  | _, _, .cons r t => by
    rw [List.reverse_cons, List.reverse_cons]
    exact (reps_rev t).append (.cons r .nil)
theorem e_rev (he : PE X e (rdE X.K cm W fa)) : PE X (.Subscript e (.Slice none none (some (.UnaryOp .USub (.Constant (.int 1) k p1) p2)) p3) pos) (rdE X.K cm W (dRev fa)) := weakE (pe_revA he) fun σ H Q q => by
  obtain ⟨L, S, a, q⟩ := q
  refine ⟨L, S, a, (Aft.step (R := Rep X.K cm) q).mono fun v H1 z => ?_⟩
  obtain ⟨L1, S1, d, e1, x1, r1, q1⟩ := z
  unfold oRev at q1
  split at q1
  · split at q1
    · rename_i h
      cases r1
      exact .inl ⟨_, rfl, mx_line h, q1.give x1 (.str _)⟩
    · exact q1.elim
  · cases r1 with
    | ro hs rr => exact .inr ⟨_, _, rfl, hs.sq, fun p hp => give_new x1 (reps_rev rr) q1 hp⟩
  · split at q1
    · rename_i hx
      obtain ⟨p1, vs1, rfl, g1, e1, rr⟩ := x1.lst r1 hx
      exact .inr ⟨_, _, rfl, SqL.of e1, fun p hp => give_new x1 (reps_rev rr) q1 hp⟩
    · exact q1.elim
  · exact q1.elim

/-! ### 21. {} and x * n -/
def dNew0 : DE := newO (.dct [])
theorem e_dict0 : PE X (.Dict [] [] pos) (rdE X.K cm W dNew0) := weakE pe_dnewK fun σ H Q q => by
  obtain ⟨L, S, a, q⟩ := q
  exact fun p hp => q.giveE (Ext.new hp) (a.new hp ⟨[], upd_same, .nil⟩) (.ref a.hp.newIx)
def repS (z : Str) (n : Int) : Str := if n < 1 then Str.empty else if (n == 1 || z.length == 0) = true then z else ⟨(List.replicate n.toNat z.cps).foldl (· ++ ·) #[]⟩
def oMulA : D → D → DS → Res D := fun x y S => match x, y with
  | .int i, .int j => if (-(2 ^ 64) < i ∧ i < 2 ^ 64) ∨ (-(2 ^ 64) < j ∧ j < 2 ^ 64) then .ok (.int (i * j)) S else .stuck
  | .str z, .int j => if -1000000 ≤ j ∧ j ≤ 1000000 ∧ z.length * j.toNat ≤ mxL ∧ (repS z j).length ≤ mxL then .ok (.str (repS z j)) S else .stuck
  | .ref n, .int j => match S.h[n]? with
    | some (.lst xs) => if -1000000 ≤ j ∧ j ≤ 1000000 ∧ xs.length * j.toNat ≤ mxL then newO (.lst (List.replicate j.toNat xs).flatten) S else .stuck
    | _ => .stuck
  | _, _ => .stuck
def rStrRep : R2 := fun x y H Q => ∃ z j, x = .str z ∧ y = .int j ∧ -1000000 ≤ j ∧ j ≤ 1000000 ∧ z.length * j.toNat ≤ mxL ∧ (repS z j).length ≤ mxL ∧ Q (.str (repS z j)) H
theorem op_strRep : OpR X (binaryOp .Mult) rStrRep := by
  intro pins s σ H x y v u Q I rx ry h
  obtain ⟨z, j, rfl, rfl, h1, h2, h3, h4, q⟩ := h
  obtain ⟨t, rfl⟩ := rx
  obtain ⟨t2, rfl⟩ := ry
  apply PySem.P.mul_str
  · rw [decide_eq_false (by omega), decide_eq_false (by omega)]; rfl
  · intro a1 a2 a3
    have hj : (z.length : Int) * j ≤ 2 ^ 63 - 1 := by
      have e : (z.length : Int) * j = ((z.length * j.toNat : Nat) : Int) := by rw [Int.natCast_mul, Int.toNat_of_nonneg (by omega)]
      rw [e]
      unfold mxL at h3
      omega
    have := (Int.le_ediv_iff_mul_le (by omega : 0 < j)).mpr hj
    omega
  · intro _ _
    exact decide_eq_false (by have := mx_line h3; omega)
  · unfold repS at q h4
    split
    · rename_i c
      rw [if_pos c] at q
      exact ⟨by decide, .str _, H, I.tok _, ⟨_, rfl⟩, q⟩
    · rename_i c
      rw [if_neg c] at q h4
      split
      · rename_i c2
        rw [if_pos c2] at q
        exact ⟨.str _, H, I, ⟨_, rfl⟩, q⟩
      · rename_i c2
        rw [if_neg c2] at q h4
        exact ⟨mx_line h4, .str _, H, I.tok _, ⟨_, rfl⟩, q⟩
theorem reps_repl {K : PySem.W.Frag} {L : List Addr} {H : Hp} {ds : List D} {vs : List V} (r : Reps K cm L H ds vs) : ∀ n : Nat, Reps K cm L H (List.replicate n ds).flatten (List.replicate n vs).flatten
  | 0 => .nil
  | n + 1 => by
    rw [List.replicate_succ, List.replicate_succ, List.flatten_cons, List.flatten_cons]
    exact r.append (reps_repl r n)
theorem ro_mulA : ROp X cm W (fun x y H Q => (rI CMul (fun i j => .int (i * j)) x y H Q ∨ rStrRep x y H Q) ∨ rRep x y H Q) oMulA := by
  intro L H S σ x y d e Q a r1 r2 q
  unfold oMulA at q
  split at q
  · split at q
    · rename_i h
      cases r1; cases r2
      exact .inl (.inl ⟨_, _, rfl, rfl, h, q.give a (.int _)⟩)
    · exact q.elim
  · split at q
    · rename_i h
      cases r1; cases r2
      exact .inl (.inr ⟨_, _, rfl, rfl, h.1, h.2.1, h.2.2.1, h.2.2.2, q.give a (.str _)⟩)
    · exact q.elim
  · split at q
    · rename_i hx
      split at q
      · rename_i h
        obtain ⟨p1, vs1, rfl, g1, e1, rr⟩ := a.lst r1 hx
        cases r2
        refine .inr ⟨_, _, _, rfl, rfl, e1, by omega, by omega, mx_line (by rw [← rr.length]; exact h.2.2), fun p hp => give_new a ?_ q hp⟩
        exact reps_repl rr _
      · exact q.elim
    · exact q.elim
  · exact q.elim
end
end Den

namespace Den
open PySem L2 PySem.Spec PyProof.Rows

/-! ### 22. the law's call, the walk -/
theorem guards_caller : callerA.guards = some [] := rfl
theorem bare_start {K : PySem.W.Frag} {cm : Str → Value} {H : Hp} : AbS K cm [] H ⟨[], []⟩ [] :=
  ⟨⟨List.nodup_nil, rfl, fun n ob a h _ => by simp at h⟩, rfl, fun i d h => by simp at h⟩
section
variable {P : Program} {w : World} {K : PySem.W.Frag} {mg mb : Str → Option Value} {k : Nat} {fa a : Addr} {fd : FuncData} {x : Str} {s1 : Shared} {vs : List Value} {ns : List Int} {cm : Str → Value}
/-- what a def gives in the caller's place, over a heap in which nothing but the script may be tracked -/
theorem call_from {F0 : Fn} {S' : DS} {H : Hp} (KX : K.In s1.heap) (nm : s1.heap.Ns mainGlobals mg) (nb : s1.heap.Ns builtinsNs mb) (hb : ∀ y : Str, y ≠ "__name__" → mb y = bootBuiltins y) (lim : s1.heap.NoLimit) (g0 : s1.gens = #[]) (hr : Room k callerA)
    (F : ∀ base : Heap, K.In base → FnG P w K mg base k fa fd [x] (spD K cm 1 F0)) (bd : ∀ (s : Shared) (u : Value), BindsTo s fd ⟨[u], []⟩ [(x, u)]) (hF : F0 [.ro (ns.map D.int)] [] = .ok (.bl true) S')
    (hS : SqR K H a (ns.map V.int)) (hok : HOk P w H s1.heap) (only : ∀ b, H b = none ∨ (b = a ∧ K.lookup b = none ∧ ∃ o xs, H b = some (.frz o (.lst xs)) ∧ ∃ c n sl, o = (⟨.type "list", none, .seq c n, sl⟩ : Obj))) :
    codeAny (model P w) callerA (.call (.ref fa) ⟨[.ref a], []⟩) (fun r s' => r = .ok (.ret (.bool true)) ∧ OldK s1.heap s'.heap ∧ s'.os = s1.os ∧ AllBare s'.gens) s1 := by
  -- the base: what isn't tracked
  have seen : ∀ {b : Addr} {o : Obj}, s1.heap.get? b = some o → H b = none → (hidT s1.heap H).get? b = some o := fun e n => hidT_get e n
  have free : ∀ {b : Addr} {o : Obj} {es : Array DictEntry} {ep : Nat}, s1.heap.get? b = some o → o.data = .dict es ep → H b = none := by
    intro b o es ep e d
    rcases only b with n | ⟨_, _, o2, xs, h2, c, m, sl, rfl⟩
    · exact n
    · obtain ⟨e2, _⟩ := hok b _ h2
      rw [e] at e2
      cases e2
      cases d
  have ns' : ∀ {b : Addr} {m : Str → Option Value}, s1.heap.Ns b m → (hidT s1.heap H).Ns b m := by
    rintro b m ⟨o, es, ep, e, d, r⟩
    exact ⟨o, es, ep, seen e (free e d), d, r⟩
  have inB : K.In (hidT s1.heap H) := by
    intro b o e
    rcases only b with n | ⟨_, hk, _⟩
    · exact seen (KX b o e) n
    · rw [hk] at e; cases e
  have M : Mod K mg (hidT s1.heap H) := ⟨inB, ns' nm, ⟨mb, ns' nb, hb⟩, by obtain ⟨mc, q1, q2⟩ := lim; exact ⟨mc, ns' q1, q2⟩⟩
  have E0 : Env0 P w K mg (hidT s1.heap H) callerA [] s1 H := ⟨rfl, M, fun b o e => of_hidT e, Nat.le_of_eq (hidT_size _ _), trivial, fun b hb => absurd (show b ∈ ([] : List Addr) from hb) (by simp), hok, .of_eq g0⟩
  have promise : spD K cm 1 F0 [.ref a] H (fun v _ => v = .bl true) fun _ _ _ => False := by
    refine ⟨[], [.ro (ns.map D.int)], [], bare_start, .cons (.ro hS (ints_reps ns)) .nil, rfl, ?_⟩
    rw [hF]
    intro L' H' v _ _ r
    cases r
    rfl
  apply codeAny_mono ((F _ inB).run callerA [] s1 H ⟨[.ref a], []⟩ [.ref a] [.ref a] _ _ hr guards_caller E0 (bd s1 (.ref a)) (.cons rfl .nil) promise)
  intro r s' h
  cases r with
  | error e =>
    obtain ⟨_, _, _, _, _, _, _, _, _, _, _, _, z⟩ := h
    exact z.elim
  | ok fl =>
    cases fl with
    | next => exact h.elim
    | brk => exact h.elim
    | cont => exact h.elim
    | ret u =>
      obtain ⟨v, H', os, bare, un, hok', rv, rfl⟩ := h
      obtain rfl : u = Value.bool true := rv
      refine ⟨rfl, OldK.of_keep ?_, os, bare⟩
      intro b o e
      rcases only b with n | ⟨_, _, o2, xs, h2, _⟩
      · exact un.keep b o e n (fun z => absurd (show b ∈ ([] : List Addr) from z) (by simp)) (by simp)
      · obtain ⟨e1, _⟩ := hok b _ h2
        obtain ⟨e2, _⟩ := hok' b _ (un.frzs b _ _ h2)
        rw [e] at e1
        cases e1
        exact e2
theorem call_law {F0 : Fn} {S' : DS} (KX : K.In s1.heap) (nm : s1.heap.Ns mainGlobals mg) (nb : s1.heap.Ns builtinsNs mb) (hb : ∀ y : Str, y ≠ "__name__" → mb y = bootBuiltins y) (lim : s1.heap.NoLimit) (g0 : s1.gens = #[]) (hr : Room k callerA)
    (ha : s1.heap.get? a = some { cls := .type "list", data := .seq vs.toArray }) (hi : IntsAre vs ns) (hl : ns.length ≤ sizeLine)
    (F : ∀ base : Heap, K.In base → FnG P w K mg base k fa fd [x] (spD K cm 1 F0)) (bd : ∀ (s : Shared) (u : Value), BindsTo s fd ⟨[u], []⟩ [(x, u)]) (hF : F0 [.ro (ns.map D.int)] [] = .ok (.bl true) S') :
    codeAny (model P w) callerA (.call (.ref fa) ⟨[.ref a], []⟩) (fun r s' => r = .ok (.ret (.bool true)) ∧ OldK s1.heap s'.heap ∧ s'.os = s1.os ∧ AllBare s'.gens) s1 := by
  have rv := vals_ints hi
  have same : vs.length = ns.length := hi.length
  cases hk : K.lookup a with
  | some o =>
    have e := KX a o hk
    rw [ha] at e
    cases e
    apply call_from (H := fun _ => none) KX nm nb hb lim g0 hr F bd hF
    · exact .inr ⟨_, vs.toArray, _, hk, rfl, rfl, rfl, by rw [List.size_toArray, same]; exact hl, by simpa using rv⟩
    · intro b u z; cases z
    · exact fun b => .inl rfl
  | none =>
    have at_ : ∀ b, b = a → (fun b => if b = a then some (HO.frz { cls := .type "list", data := .seq vs.toArray } (.lst (ns.map V.int))) else none) b = some (HO.frz { cls := .type "list", data := .seq vs.toArray } (.lst (ns.map V.int))) := fun b h => if_pos h
    apply call_from (H := fun b => if b = a then some (.frz { cls := .type "list", data := .seq vs.toArray } (.lst (ns.map V.int))) else none) KX nm nb hb lim g0 hr F bd hF
    · exact .inl ⟨_, at_ a rfl⟩
    · intro b u z
      by_cases e : b = a
      · rw [at_ b e] at z
        cases z
        subst e
        exact ⟨ha, by rw [List.length_map]; exact hl, vs, _, rv, ha⟩
      · rw [show (fun b => if b = a then some (HO.frz { cls := .type "list", data := .seq vs.toArray } (.lst (ns.map V.int))) else none) b = none from if_neg e] at z
        cases z
    · intro b
      by_cases e : b = a
      · subst e
        exact .inr ⟨rfl, hk, _, _, at_ b rfl, _, _, _, rfl⟩
      · exact .inl (if_neg e)
end
theorem walk_den {l : PySem.W.OpenLaw} {n k : Nat} {q : Program} {loose : List Str} {XP : (Str → Option Value) → Heap → Prop} {YP : World → Heap → Prop} {d : DefRec} {K : Params → PySem.W.Frag} {x : Str} {F0 : Fn}
    (hn : l.most = some n) (hn2 : n ≤ sizeLine) (hd0 : d.params.defaults = []) (hr : Room k callerA) (hY : ∀ (w : World) (h : Heap), YP w h → (K w.params).In h)
    (F : ∀ (w : World) (mg : Str → Option Value) (fa : Addr) (h : Heap), (K w.params).In h → h.Ns mainGlobals mg → mg d.name = some (.ref fa) →
      ∃ (fd : FuncData) (cm : Str → Value), (∀ (s : Shared) (u : Value), BindsTo s fd ⟨[u], []⟩ [(x, u)]) ∧ ∀ base : Heap, (K w.params).In base → FnG l.prog w (K w.params) mg base k fa fd [x] (spD (K w.params) cm 1 F0))
    (hF : ∀ ns : List Int, ns.length ≤ n → ∃ S', F0 [.ro (ns.map D.int)] [] = .ok (.bl true) S') :
    PySem.W.WalkO q loose XP YP l.row.toRowW d [] (fun f vs => PySem.call f vs) := by
  apply Att.attach_call hn hd0
  intro w s0 s1 mg mb fa o pm cd doc a vs ns G Y ho hd hcd hmg hobj hints hlen hg
  obtain ⟨fd, cm, bd, hG⟩ := F w mg fa _ (hY w _ Y) G.T.g hmg
  obtain ⟨S', hS⟩ := hF ns hlen
  exact call_law (hY w _ Y) G.T.g G.T.b G.T.builtins G.T.nolimit hg hr hobj hints (Nat.le_trans hlen hn2) hG bd hS
end Den

namespace Den
open PySem L2

/-! ### 23. short forms -/
theorem kit_true {K : PySem.W.Frag} {C D : Addr} (cl : PySem.W.isClsIn K D = true) (ty : PySem.W.typeIn K (.ref D) = some (.type "type")) (h : PySem.W.subIn K (.ref C) (.ref D) = some true) : PySem.W.kitOne K (.ref C) (.ref D) = some true := by
  unfold PySem.W.kitOne
  split
  · rfl
  · show (if ((PySem.W.clsIn K D).isSome && PySem.W.typeIn K (.ref D) == some (.type "type")) = true then PySem.W.subIn K (.ref C) (.ref D) else none) = some true
    have c : (PySem.W.clsIn K D).isSome = true := cl
    rw [c, ty, if_pos (by rfl)]
    exact h
section
variable {X : Cx} {cm : Str → Value} {W : WX} {a b : Expr} {pos : Pos} {fa fb : DE}
theorem hu66 {A : Around} {k : Nat} (r : Room k A) : A.units + 66 < cLine := by have := r.un; omega
theorem hu1 {A : Around} {k : Nat} (r : Room k A) : A.units + 1 < cLine := by have := r.un; omega
theorem hu64 {A : Around} {k : Nat} (r : Room k A) : A.units + 64 < cLine := by have := r.un; omega
theorem b_add (ha : PE X a (rdE X.K cm W fa)) (hb : PE X b (rdE X.K cm W fb)) : PE X (.BinOp a .Add b pos) (rdE X.K cm W (dBin oAdd fa fb)) := e_op ((op_add.or op_add_str).or (op_catA.or op_cat)) ro_add ha hb
theorem b_sub (ha : PE X a (rdE X.K cm W fa)) (hb : PE X b (rdE X.K cm W fb)) : PE X (.BinOp a .Sub b pos) (rdE X.K cm W (dBin oSub fa fb)) := e_op op_sub ro_sub ha hb
theorem b_mul (ha : PE X a (rdE X.K cm W fa)) (hb : PE X b (rdE X.K cm W fb)) : PE X (.BinOp a .Mult b pos) (rdE X.K cm W (dBin oMulA fa fb)) := e_op ((op_mul.or op_strRep).or op_rep) ro_mulA ha hb
theorem b_mod (ha : PE X a (rdE X.K cm W fa)) (hb : PE X b (rdE X.K cm W fb)) : PE X (.BinOp a .Mod b pos) (rdE X.K cm W (dBin oMod fa fb)) := e_op op_mod ro_mod ha hb
theorem b_div (ha : PE X a (rdE X.K cm W fa)) (hb : PE X b (rdE X.K cm W fb)) : PE X (.BinOp a .FloorDiv b pos) (rdE X.K cm W (dBin oDiv fa fb)) := e_op op_fdiv ro_div ha hb
theorem b_pow (ha : PE X a (rdE X.K cm W fa)) (hb : PE X b (rdE X.K cm W fb)) : PE X (.BinOp a .Pow b pos) (rdE X.K cm W (dBin oPow fa fb)) := e_op op_pow ro_pow ha hb
theorem c_eq {k : Nat} (r : Room k X.A) (ha : PE X a (rdE X.K cm W fa)) (hb : PE X b (rdE X.K cm W fb)) : PE X (.Compare a [.Eq] [b] pos) (rdE X.K cm W (dBin oEq fa fb)) := e_cmp (op_eqD (hu64 r)) ro_eq (nomark _) ha hb
theorem c_ne {k : Nat} (r : Room k X.A) (ha : PE X a (rdE X.K cm W fa)) (hb : PE X b (rdE X.K cm W fb)) : PE X (.Compare a [.NotEq] [b] pos) (rdE X.K cm W (dBin oNe fa fb)) := e_cmp (op_neD (hu64 r)) ro_ne (nomark _) ha hb
theorem c_lt (ha : PE X a (rdE X.K cm W fa)) (hb : PE X b (rdE X.K cm W fb)) : PE X (.Compare a [.Lt] [b] pos) (rdE X.K cm W (dBin oLt fa fb)) := e_cmp op_lt ro_lt (nomark _) ha hb
theorem c_le (ha : PE X a (rdE X.K cm W fa)) (hb : PE X b (rdE X.K cm W fb)) : PE X (.Compare a [.LtE] [b] pos) (rdE X.K cm W (dBin oLe fa fb)) := e_cmp op_le ro_le (nomark _) ha hb
theorem c_gt (ha : PE X a (rdE X.K cm W fa)) (hb : PE X b (rdE X.K cm W fb)) : PE X (.Compare a [.Gt] [b] pos) (rdE X.K cm W (dBin oGt fa fb)) := e_cmp op_gt ro_gt (nomark _) ha hb
theorem c_ge (ha : PE X a (rdE X.K cm W fa)) (hb : PE X b (rdE X.K cm W fb)) : PE X (.Compare a [.GtE] [b] pos) (rdE X.K cm W (dBin oGe fa fb)) := e_cmp op_ge ro_ge (nomark _) ha hb
theorem c_is (ha : PE X a (rdE X.K cm W fa)) (hb : PE X b (rdE X.K cm W fb)) : PE X (.Compare a [.Is] [b] pos) (rdE X.K cm W (dBin oIsN fa fb)) := e_cmp op_isN ro_isN (nomark _) ha hb
theorem c_isn (ha : PE X a (rdE X.K cm W fa)) (hb : PE X b (rdE X.K cm W fb)) : PE X (.Compare a [.IsNot] [b] pos) (rdE X.K cm W (dBin oNotN fa fb)) := e_cmp op_notN ro_notN (nomark _) ha hb
theorem c_in {k : Nat} (r : Room k X.A) (ha : PE X a (rdE X.K cm W fa)) (hb : PE X b (rdE X.K cm W fb)) (hm : behindInMarks .In b = false := by rfl) : PE X (.Compare a [.In] [b] pos) (rdE X.K cm W (dBin oIn fa fb)) := e_cmp (op_inA (hu66 r)) ro_in hm ha hb
theorem c_nin {k : Nat} (r : Room k X.A) (ha : PE X a (rdE X.K cm W fa)) (hb : PE X b (rdE X.K cm W fb)) (hm : behindInMarks .NotIn b = false := by rfl) : PE X (.Compare a [.NotIn] [b] pos) (rdE X.K cm W (dBin oNotIn fa fb)) := e_cmp (op_notInA (hu66 r)) ro_notIn hm ha hb
theorem t_eq {k : Nat} (r : Room k X.A) (ha : PE X a (rdE X.K cm W fa)) (hb : PE X b (rdE X.K cm W fb)) : PT X (.Compare a [.Eq] [b] pos) (rdT X.K cm W (tV (dBin oEq fa fb))) := t_cmp (op_eqD (hu64 r)) ro_eq (nomark _) ha hb
theorem t_ne {k : Nat} (r : Room k X.A) (ha : PE X a (rdE X.K cm W fa)) (hb : PE X b (rdE X.K cm W fb)) : PT X (.Compare a [.NotEq] [b] pos) (rdT X.K cm W (tV (dBin oNe fa fb))) := t_cmp (op_neD (hu64 r)) ro_ne (nomark _) ha hb
theorem t_lt (ha : PE X a (rdE X.K cm W fa)) (hb : PE X b (rdE X.K cm W fb)) : PT X (.Compare a [.Lt] [b] pos) (rdT X.K cm W (tV (dBin oLt fa fb))) := t_cmp op_lt ro_lt (nomark _) ha hb
theorem t_le (ha : PE X a (rdE X.K cm W fa)) (hb : PE X b (rdE X.K cm W fb)) : PT X (.Compare a [.LtE] [b] pos) (rdT X.K cm W (tV (dBin oLe fa fb))) := t_cmp op_le ro_le (nomark _) ha hb
theorem t_gt (ha : PE X a (rdE X.K cm W fa)) (hb : PE X b (rdE X.K cm W fb)) : PT X (.Compare a [.Gt] [b] pos) (rdT X.K cm W (tV (dBin oGt fa fb))) := t_cmp op_gt ro_gt (nomark _) ha hb
theorem t_ge (ha : PE X a (rdE X.K cm W fa)) (hb : PE X b (rdE X.K cm W fb)) : PT X (.Compare a [.GtE] [b] pos) (rdT X.K cm W (tV (dBin oGe fa fb))) := t_cmp op_ge ro_ge (nomark _) ha hb
theorem t_is (ha : PE X a (rdE X.K cm W fa)) (hb : PE X b (rdE X.K cm W fb)) : PT X (.Compare a [.Is] [b] pos) (rdT X.K cm W (tV (dBin oIsN fa fb))) := t_cmp op_isN ro_isN (nomark _) ha hb
theorem t_isn (ha : PE X a (rdE X.K cm W fa)) (hb : PE X b (rdE X.K cm W fb)) : PT X (.Compare a [.IsNot] [b] pos) (rdT X.K cm W (tV (dBin oNotN fa fb))) := t_cmp op_notN ro_notN (nomark _) ha hb
theorem t_in {k : Nat} (r : Room k X.A) (ha : PE X a (rdE X.K cm W fa)) (hb : PE X b (rdE X.K cm W fb)) (hm : behindInMarks .In b = false := by rfl) : PT X (.Compare a [.In] [b] pos) (rdT X.K cm W (tV (dBin oIn fa fb))) := t_cmp (op_inA (hu66 r)) ro_in hm ha hb
theorem t_nin {k : Nat} (r : Room k X.A) (ha : PE X a (rdE X.K cm W fa)) (hb : PE X b (rdE X.K cm W fb)) (hm : behindInMarks .NotIn b = false := by rfl) : PT X (.Compare a [.NotIn] [b] pos) (rdT X.K cm W (tV (dBin oNotIn fa fb))) := t_cmp (op_notInA (hu66 r)) ro_notIn hm ha hb
theorem e_ixR {k : Nat} (r : Room k X.A) (ha : PE X a (rdE X.K cm W fa)) (hb : PE X b (rdE X.K cm W fb)) (hs : PlainIx b := by exact fun _ _ => rfl) : PE X (.Subscript a b pos) (rdE X.K cm W (dBin oIx fa fb)) := e_ix (hu1 r) ha hb hs
/-- a tuple of the module -/
theorem ro_line {K : PySem.W.Frag} {p : Addr} {c : Nat} {its : List Value} {sl : Array (Option Value)} {ds : List D} {vs : List V} (h : K.lookup p = some ⟨.type "tuple", none, .seq its.toArray c, sl⟩) (rv : Vals vs its) (hz : its.length ≤ sizeLine) (r : ∀ L H, Reps K cm L H ds vs) (L : List Addr) (H : Hp) : Rep K cm L H (.tup ds) (.ref p) :=
  .tup (.inr ⟨_, its.toArray, c, h, rfl, rfl, by rw [List.size_toArray]; exact hz, by simpa using rv⟩) (r L H)

/-- a, b = x, y -/
def sPar (i j : Nat) (a : DA) : DSt := fun S => (a S).bind fun ds S1 => match ds with
  | [d, e] => .ok .next { S1 with loc := (S1.loc.set i (some d)).set j (some e) }
  | _ => .stuck
def sPar3 (i j l : Nat) (a : DA) : DSt := fun S => (a S).bind fun ds S1 => match ds with
  | [d, e, f] => .ok .next { S1 with loc := ((S1.loc.set i (some d)).set j (some e)).set l (some f) }
  | _ => .stuck
variable {c : Expr} {ga : DA} {x y z : Str} {px py pz pt : Pos}
theorem s_par {i j : Nat} {kt k2 pt2} (hc : X.calm = true) (hN : X.N.Nodup) (hi : X.N[i]? = some x) (hj : X.N[j]? = some y) (hij : i ≠ j) (hx : X.env.scope.names.lookup x = some .local) (hy : X.env.scope.names.lookup y = some .local) (ha : PA X [a, b] (rdA X.K cm W ga))
    (hw : swappedStores [.Tuple [.Name x px, .Name y py] kt pt] (.Tuple [a, b] k2 pt2) X.env = pure (some [x, y]) := by rfl) (hs : swapsWithSole [.Tuple [.Name x px, .Name y py] kt pt] (.Tuple [a, b] k2 pt2) pos.line X.env = pure false := by rfl) :
    PS X (.Assign [.Tuple [.Name x px, .Name y py] kt pt] (.Tuple [a, b] k2 pt2) pos) (rdS X.K cm W (sPar i j ga)) := weakS (ps_par hc hN hi hj hij hx hy ha hw hs) fun E σ H q => by
  obtain ⟨L, S, ab, q⟩ := q
  refine ⟨L, S, ab, (AftS.step (R := Reps X.K cm) q).mono fun vs H1 z => ?_⟩
  obtain ⟨L1, S1, ds, e1, x1, r1, q1⟩ := z
  split at q1
  · cases r1 with
    | cons r1 r2 =>
      cases r2 with
      | cons r2 r3 =>
        cases r3
        exact ⟨_, _, rfl, q1 L1 H1 _ Ext.refl ((x1.set r1 i).set r2 j)⟩
  · exact q1.elim
theorem s_par3 {i j l : Nat} {kt k2 pt2} (hc : X.calm = true) (hN : X.N.Nodup) (hi : X.N[i]? = some x) (hj : X.N[j]? = some y) (hl : X.N[l]? = some z) (hij : i ≠ j) (hil : i ≠ l) (hjl : j ≠ l) (hx : X.env.scope.names.lookup x = some .local) (hy : X.env.scope.names.lookup y = some .local) (hz : X.env.scope.names.lookup z = some .local)
    (ha : PA X [a, b, c] (rdA X.K cm W ga)) (hw : swappedStores [.Tuple [.Name x px, .Name y py, .Name z pz] kt pt] (.Tuple [a, b, c] k2 pt2) X.env = pure (some [x, y, z]) := by rfl) (hs : swapsWithSole [.Tuple [.Name x px, .Name y py, .Name z pz] kt pt] (.Tuple [a, b, c] k2 pt2) pos.line X.env = pure false := by rfl) :
    PS X (.Assign [.Tuple [.Name x px, .Name y py, .Name z pz] kt pt] (.Tuple [a, b, c] k2 pt2) pos) (rdS X.K cm W (sPar3 i j l ga)) := weakS (ps_par3 hc hN hi hj hl hij hil hjl hx hy hz ha hw hs) fun E σ H q => by
  obtain ⟨L, S, ab, q⟩ := q
  refine ⟨L, S, ab, (AftS.step (R := Reps X.K cm) q).mono fun vs H1 z => ?_⟩
  obtain ⟨L1, S1, ds, e1, x1, r1, q1⟩ := z
  split at q1
  · cases r1 with
    | cons r1 r2 =>
      cases r2 with
      | cons r2 r3 =>
        cases r3 with
        | cons r3 r4 =>
          cases r4
          exact ⟨_, _, _, rfl, q1 L1 H1 _ Ext.refl (((x1.set r1 i).set r2 j).set r3 l)⟩
  · exact q1.elim
end
end Den

namespace Den
open PySem L2

/-! ### 24. running plain functions -/
theorem runB_ret {n : Nat} {b : DSt} {ds : List D} {h : List Ob} {d : D} {S : DS} (e : b ⟨ds.map some ++ List.replicate (n - ds.length) none, h⟩ = .ok (.ret d) S) : runB n b ds h = .ok d ⟨[], S.h⟩ := by
  unfold runB; rw [e]
theorem runB_exc {n : Nat} {b : DSt} {ds : List D} {h : List Ob} {x : Xn} {S : DS} (e : b ⟨ds.map some ++ List.replicate (n - ds.length) none, h⟩ = .exc x S) : runB n b ds h = .exc x ⟨[], S.h⟩ := by
  unfold runB; rw [e]
/-- a for over values, with an invariant that each turn keeps -/
theorem forV_inv {g : DG} {b : DSt} {I : DS → Prop} : ∀ (xs : List D) (S : DS), I S → (∀ d ∈ xs, ∀ S, I S → ∃ S1, g d S = some S1 ∧ ∃ f S2, b S1 = .ok f S2 ∧ (f = .next ∨ f = .cont) ∧ I S2) → ∃ S', forV g b xs S = .ok .next S' ∧ I S'
  | [], S, i, _ => ⟨S, rfl, i⟩
  | d :: ds, S, i, h => by
    obtain ⟨S1, e1, f, S2, e2, hf, i2⟩ := h d (by simp) S i
    obtain ⟨S', e3, i3⟩ := forV_inv ds S2 i2 fun x hx => h x (List.mem_cons_of_mem _ hx)
    refine ⟨S', ?_, i3⟩
    unfold forV
    rw [e1]
    dsimp only
    rw [e2]
    rcases hf with rfl | rfl <;> exact e3
/-- a for over a list that stays as it is -/
theorem forO_inv {g : DG} {b : DSt} {I : Nat → DS → Prop} {n : Nat} {xs : List D} (hh : ∀ i S, I i S → S.h[n]? = some (.lst xs)) (step : ∀ i d S, xs[i]? = some d → I i S → ∃ S1, g d S = some S1 ∧ ∃ f S2, b S1 = .ok f S2 ∧ (f = .next ∨ f = .cont) ∧ I (i + 1) S2) :
    ∀ (k i : Nat) (S : DS), xs.length < i + k → i ≤ xs.length → I i S → ∃ S', forO n g b k i S = .ok .next S' ∧ I xs.length S'
  | 0, i, S, h, h2, _ => by omega
  | k + 1, i, S, h, h2, ii => by
    unfold forO
    rw [hh i S ii]
    dsimp only
    cases e : xs[i]? with
    | none =>
      have : xs.length ≤ i := List.getElem?_eq_none_iff.mp e
      obtain rfl : i = xs.length := by omega
      exact ⟨S, rfl, ii⟩
    | some d =>
      obtain ⟨S1, e1, f, S2, e2, hf, i2⟩ := step i d S e ii
      have lt := (List.getElem?_eq_some_iff.mp e).1
      obtain ⟨S', e3, i3⟩ := forO_inv hh step k (i + 1) S2 (by omega) (by omega) i2
      refine ⟨S', ?_, i3⟩
      dsimp only
      rw [e1]
      dsimp only
      rw [e2]
      rcases hf with rfl | rfl <;> exact e3
/-! heaps -/
/-- h' has all that h has but at n and m -/
def Kp (n m : Nat) (h h' : List Ob) : Prop := ∀ (k : Nat) (ob : Ob), k ≠ n → k ≠ m → h[k]? = some ob → h'[k]? = some ob
def Kp0 (h h' : List Ob) : Prop := ∀ (k : Nat) (ob : Ob), h[k]? = some ob → h'[k]? = some ob
theorem Kp.refl (n m : Nat) (h : List Ob) : Kp n m h h := fun _ _ _ _ e => e
theorem Kp.trans {n m : Nat} {h h1 h2 : List Ob} (a : Kp n m h h1) (b : Kp n m h1 h2) : Kp n m h h2 := fun k ob x y e => b k ob x y (a k ob x y e)
theorem Kp0.refl (h : List Ob) : Kp0 h h := fun _ _ e => e
theorem Kp0.trans {h h1 h2 : List Ob} (a : Kp0 h h1) (b : Kp0 h1 h2) : Kp0 h h2 := fun k ob e => b k ob (a k ob e)
theorem Kp0.kp {h h1 : List Ob} (a : Kp0 h h1) (n m : Nat) : Kp n m h h1 := fun k ob _ _ e => a k ob e
theorem Kp0.app (h t : List Ob) : Kp0 h (h ++ t) := fun k ob e => by
  rw [List.getElem?_append_left (List.getElem?_eq_some_iff.mp e).1]; exact e
theorem lt_of_at {h : List Ob} {k : Nat} {ob : Ob} (e : h[k]? = some ob) : k < h.length := (List.getElem?_eq_some_iff.mp e).1
theorem at_new (h : List Ob) (ob : Ob) : (h ++ [ob])[h.length]? = some ob := by
  rw [List.getElem?_append_right (Nat.le_refl _)]; simp
theorem at_old {h t : List Ob} {k : Nat} {ob : Ob} (e : h[k]? = some ob) : (h ++ t)[k]? = some ob := Kp0.app h t k ob e
/-! data -/
theorem toPy_ints (h : List Ob) (n : Nat) : ∀ xs : List Int, (xs.map D.int).mapM (toPy h n) = some (xs.map PyData.int)
  | [] => rfl
  | x :: xs => by
    rw [List.map_cons, List.mapM_cons, toPy_ints h n xs]
    cases n <;> rfl
theorem toPy_strs (h : List Ob) (n : Nat) : ∀ xs : List Str, (xs.map D.str).mapM (toPy h n) = some (xs.map PyData.str)
  | [] => rfl
  | x :: xs => by
    rw [List.map_cons, List.mapM_cons, toPy_strs h n xs]
    cases n <;> rfl
theorem shaped_int (i : Int) : SeqAt.shaped (.int i) = true := rfl
theorem canLay_ints : ∀ xs : List Int, PyData.canLayAll0 (xs.map PyData.int) = true
  | [] => rfl
  | x :: xs => by
    show (true && PyData.canLayAll0 (xs.map PyData.int)) = true
    rw [canLay_ints xs]; rfl
theorem depth_ints : ∀ xs : List Int, PyData.depthAll (xs.map PyData.int) = 0
  | [] => rfl
  | x :: xs => by
    show max 0 (PyData.depthAll (xs.map PyData.int)) = 0
    rw [depth_ints xs]; rfl
theorem shaped_ints (xs : List Int) : SeqAt.shaped (.list (xs.map PyData.int)) = true := by
  unfold SeqAt.shaped
  show (PyData.canLayAll0 (xs.map PyData.int) && decide (PyData.depthAll (xs.map PyData.int) + 1 ≤ 64)) = true
  rw [canLay_ints, depth_ints]; rfl
/-- signs -/
def Good (x : Str) : Prop := ∀ c ∈ x.cps.toList, c < 256
theorem Good.shaped {x : Str} (g : Good x) : SeqAt.shaped (.str x) = true := by
  unfold SeqAt.shaped
  show (PyData.strOk x && decide (0 ≤ 64)) = true
  have : PyData.strOk x = true := by
    unfold PyData.strOk
    rw [Array.all_eq_true_iff_forall_mem]
    intro c hc
    have := g c (by simpa using hc)
    simp; omega
  rw [this]; rfl

/-- r comes to a value of which Q holds -/
def Ok {α : Type} (r : Res α) (Q : α → DS → Prop) : Prop := match r with
  | .ok a S => Q a S
  | _ => False
@[simp] theorem Ok_ok {α : Type} (a : α) (S : DS) (Q : α → DS → Prop) : Ok (.ok a S) Q ↔ Q a S := Iff.rfl
theorem Ok.ex {α : Type} {r : Res α} {Q : α → DS → Prop} (h : Ok r Q) : ∃ a S, r = .ok a S ∧ Q a S := by
  cases r with
  | ok a S => exact ⟨a, S, rfl, h⟩
  | exc e S => exact h.elim
  | stuck => exact h.elim
theorem ok_runB {n : Nat} {b : DSt} {ds : List D} {h : List Ob} {Q : D → DS → Prop} (e : Ok (b ⟨ds.map some ++ List.replicate (n - ds.length) none, h⟩) fun f S => match f with
    | .ret d => Q d ⟨[], S.h⟩
    | .next => Q .non ⟨[], S.h⟩
    | _ => False) : Ok (runB n b ds h) Q := by
  obtain ⟨f, S, e1, q⟩ := e.ex
  unfold runB
  rw [e1]
  cases f <;> first | exact q | exact q.elim
theorem ok_forO {g : DG} {b : DSt} {K : Fl → DS → Res Fl} {Q : Fl → DS → Prop} {n : Nat} {S : DS} (I : Nat → DS → Prop) (xs : List D) (hl : xs.length < 100000) (i0 : I 0 S) (hh : ∀ i S, I i S → S.h[n]? = some (.lst xs))
    (step : ∀ i d S, xs[i]? = some d → I i S → ∃ S1, g d S = some S1 ∧ Ok (b S1) fun f S2 => (f = .next ∨ f = .cont) ∧ I (i + 1) S2) (k : ∀ S', I xs.length S' → Ok (K .next S') Q) : Ok ((forO n g b 100000 0 S).bind K) Q := by
  obtain ⟨S', e, i'⟩ := forO_inv (g := g) (b := b) hh (fun i d S e ii => by
    obtain ⟨S1, e1, o⟩ := step i d S e ii
    obtain ⟨f, S2, e2, hf, i2⟩ := o.ex
    exact ⟨S1, e1, f, S2, e2, hf, i2⟩) 100000 0 S (by omega) (Nat.zero_le _) i0
  rw [e]
  exact k S' i'
theorem ok_forV {g : DG} {b : DSt} {K : Fl → DS → Res Fl} {Q : Fl → DS → Prop} {S : DS} {xs : List D} (I : DS → Prop) (i0 : I S) (step : ∀ d ∈ xs, ∀ S, I S → ∃ S1, g d S = some S1 ∧ Ok (b S1) fun f S2 => (f = .next ∨ f = .cont) ∧ I S2)
    (k : ∀ S', I S' → Ok (K .next S') Q) : Ok ((forV g b xs S).bind K) Q := by
  obtain ⟨S', e, i'⟩ := forV_inv (g := g) (b := b) xs S i0 fun d hd S ii => by
    obtain ⟨S1, e1, o⟩ := step d hd S ii
    obtain ⟨f, S2, e2, hf, i2⟩ := o.ex
    exact ⟨S1, e1, f, S2, e2, hf, i2⟩
  rw [e]
  exact k S' i'
/-! rules of reckoning -/
@[simp] theorem mxL_eq : mxL = 1000000 := rfl
section
variable {S : DS} {i j : Int} {x y : Str} {n m : Nat}
@[simp] theorem z_seq (a b : DSt) (S : DS) : sSeq a b S = (a S).bind fun f S1 => match f with
  | .next => b S1
  | f => .ok f S1 := rfl
@[simp] theorem z_if (t : DT) (a b : DSt) (S : DS) : sIf t a b S = (t S).bind fun c S1 => if c then a S1 else b S1 := rfl
@[simp] theorem z_ret (e : DE) (S : DS) : sRet e S = (e S).bind fun d S1 => .ok (.ret d) S1 := rfl
@[simp] theorem z_expr (e : DE) (S : DS) : sExpr e S = (e S).bind fun _ S1 => .ok .next S1 := rfl
@[simp] theorem z_nop (S : DS) : sNop S = .ok .next S := rfl
@[simp] theorem z_asg (e : DE) (i : Nat) (S : DS) : sAsg e (gN i) S = (e S).bind fun d S1 => .ok .next { S1 with loc := S1.loc.set i (some d) } := rfl
@[simp] theorem z_par (i j : Nat) (a : DA) (S : DS) : sPar i j a S = (a S).bind fun ds S1 => match ds with
  | [d, e] => .ok .next { S1 with loc := (S1.loc.set i (some d)).set j (some e) }
  | _ => .stuck := rfl
@[simp] theorem z_put (v o i : DE) (S : DS) : sPut v o i S = (v S).bind fun d S1 => (o S1).bind fun x S2 => (i S2).bind fun k S3 => match oPut x k d S3 with
  | some S4 => .ok .next S4
  | none => .stuck := rfl
@[simp] theorem z_tV (a : DE) (S : DS) : tV a S = (a S).bind toB := rfl
@[simp] theorem z_toB (b : Bool) (S : DS) : toB (.bl b) S = .ok b S := rfl
@[simp] theorem z_tAnd (a b : DT) (S : DS) : tAndD a b S = (a S).bind fun c S1 => if c then b S1 else .ok false S1 := rfl
@[simp] theorem z_tOr (a b : DT) (S : DS) : tOrD a b S = (a S).bind fun c S1 => if c then .ok true S1 else b S1 := rfl
@[simp] theorem z_tNot (a : DT) (S : DS) : tNotD a S = (a S).bind fun c S1 => .ok (!c) S1 := rfl
@[simp] theorem z_dAnd (a b : DE) (S : DS) : dAnd a b S = (a S).bind fun d S1 => (toB d S1).bind fun c S2 => if c then b S2 else .ok (.bl false) S2 := rfl
@[simp] theorem z_dOr (a b : DE) (S : DS) : dOr a b S = (a S).bind fun d S1 => (toB d S1).bind fun c S2 => if c then .ok (.bl true) S2 else b S2 := rfl
@[simp] theorem z_dIf (t : DT) (a b : DE) (S : DS) : dIf t a b S = (t S).bind fun c S1 => if c then a S1 else b S1 := rfl
@[simp] theorem z_bin (f : D → D → DS → Res D) (a b : DE) (S : DS) : dBin f a b S = (a S).bind fun x S1 => (b S1).bind fun y S2 => f x y S2 := rfl
@[simp] theorem z_var (i : Nat) (S : DS) : dVar i S = match S.loc[i]? with
  | some (some d) => .ok d S
  | _ => .stuck := rfl
@[simp] theorem z_c (d : D) (S : DS) : dC d S = .ok d S := rfl
@[simp] theorem z_nil (S : DS) : dNil S = .ok [] S := rfl
@[simp] theorem z_cons (a : DE) (r : DA) (S : DS) : dCons a r S = (a S).bind fun d S1 => (r S1).bind fun ds S2 => .ok (d :: ds) S2 := rfl
@[simp] theorem z_tup (a : DA) (S : DS) : dTup a S = (a S).bind fun ds S1 => if ds.length ≤ mxL then .ok (.tup ds) S1 else .stuck := rfl
@[simp] theorem z_lst (a : DA) (S : DS) : dLst a S = (a S).bind fun ds S1 => if ds.length ≤ mxL then newO (.lst ds) S1 else .stuck := rfl
@[simp] theorem z_cb (f : List D → DS → Res D) (a : DA) (S : DS) : dCB f a S = (a S).bind fun ds S1 => f ds S1 := rfl
@[simp] theorem z_call (F : Fn) (a : DA) (S : DS) : dCall F a S = (a S).bind fun ds S1 => match F ds S1.h with
  | .ok d S2 => .ok d ⟨S1.loc, S2.h⟩
  | .exc e S2 => .exc e ⟨S1.loc, S2.h⟩
  | .stuck => .stuck := rfl
@[simp] theorem z_callK (F : Fn) (p : List Nat) (a z : DA) (S : DS) : dCallK F p a z S = (a S).bind fun ds S1 => (z S1).bind fun es S2 => match F (pick p (ds ++ es)) S2.h with
  | .ok d S3 => .ok d ⟨S2.loc, S3.h⟩
  | .exc e S3 => .exc e ⟨S2.loc, S3.h⟩
  | .stuck => .stuck := rfl
@[simp] theorem z_mtL (f : D → List D → DS → Res D) (o : DE) (a : DA) (S : DS) : dMtL f o a S = (o S).bind fun x S1 => if isLst S1 x then (a S1).bind fun ds S2 => f x ds S2 else .stuck := rfl
@[simp] theorem z_mtS (f : D → List D → DS → Res D) (o : DE) (a : DE) (S : DS) : dMtS f o a S = (o S).bind fun x S1 => if isStr x then (a S1).bind fun d S2 => f x [d] S2 else .stuck := rfl
@[simp] theorem z_isStr (x : Str) : isStr (.str x) = true := rfl
@[simp] theorem z_isLst (S : DS) (n : Nat) : isLst S (.ref n) = match S.h[n]? with
  | some (.lst _) => true
  | _ => false := rfl
@[simp] theorem z_sl (a : DE) (lo hi : DS → Res (Option Int)) (S : DS) : dSl a lo hi S = (a S).bind fun x S1 => (lo S1).bind fun l S2 => (hi S2).bind fun u S3 => oSl x l u S3 := rfl
@[simp] theorem z_pn (S : DS) : dPN S = .ok none S := rfl
@[simp] theorem z_ps (a : DE) (S : DS) : dPS a S = (a S).bind fun d S1 => match d with
  | .int i => .ok (some i) S1
  | _ => .stuck := rfl
@[simp] theorem z_rev (a : DE) (S : DS) : dRev a S = (a S).bind oRev := rfl
@[simp] theorem z_newO (ob : Ob) (S : DS) : newO ob S = .ok (.ref S.h.length) { S with h := S.h ++ [ob] } := rfl
@[simp] theorem z_new0 (S : DS) : dNew0 S = .ok (.ref S.h.length) { S with h := S.h ++ [.dct []] } := rfl
@[simp] theorem z_add : oAdd (.int i) (.int j) S = .ok (.int (i + j)) S := rfl
@[simp] theorem z_addS : oAdd (.str x) (.str y) S = if x.length + y.length ≤ mxL then .ok (.str (x ++ y)) S else .stuck := rfl
@[simp] theorem z_addT (a b : List D) : oAdd (.tup a) (.tup b) S = if a.length + b.length ≤ mxL then .ok (.tup (a ++ b)) S else .stuck := rfl
@[simp] theorem z_addL : oAdd (.ref n) (.ref m) S = match S.h[n]?, S.h[m]? with
  | some (.lst a), some (.lst b) => if a.length + b.length ≤ mxL then newO (.lst (a ++ b)) S else .stuck
  | _, _ => .stuck := rfl
@[simp] theorem z_sub : oSub (.int i) (.int j) S = .ok (.int (i - j)) S := rfl
@[simp] theorem z_mul : oMulA (.int i) (.int j) S = if (-(2 ^ 64) < i ∧ i < 2 ^ 64) ∨ (-(2 ^ 64) < j ∧ j < 2 ^ 64) then .ok (.int (i * j)) S else .stuck := rfl
@[simp] theorem z_mulS : oMulA (.str x) (.int j) S = if -1000000 ≤ j ∧ j ≤ 1000000 ∧ x.length * j.toNat ≤ mxL ∧ (repS x j).length ≤ mxL then .ok (.str (repS x j)) S else .stuck := rfl
@[simp] theorem z_mod : oMod (.int i) (.int j) S = if 0 < j then .ok (.int (i % j)) S else .stuck := rfl
@[simp] theorem z_div : oDiv (.int i) (.int j) S = if 0 < j ∧ j < 1073741824 then .ok (.int (i / j)) S else .stuck := rfl
@[simp] theorem z_pow : oPow (.int i) (.int j) S = if 0 ≤ j ∧ j ≤ 1000 ∧ i.natAbs < 2 ^ 64 then .ok (.int (i ^ j.toNat)) S else .stuck := rfl
@[simp] theorem z_lt : oLt (.int i) (.int j) S = .ok (.bl (decide (i < j))) S := rfl
@[simp] theorem z_le : oLe (.int i) (.int j) S = .ok (.bl (decide (i ≤ j))) S := rfl
@[simp] theorem z_gt : oGt (.int i) (.int j) S = .ok (.bl (decide (j < i))) S := rfl
@[simp] theorem z_ge : oGe (.int i) (.int j) S = .ok (.bl (decide (j ≤ i))) S := rfl
@[simp] theorem z_isn (d : D) : oIsN d .non S = .ok (.bl (isNon d)) S := rfl
@[simp] theorem z_notn (d : D) : oNotN d .non S = .ok (.bl (!isNon d)) S := rfl
@[simp] theorem z_eqI : oEq (.int i) (.int j) S = .ok (.bl (i == j)) S := rfl
@[simp] theorem z_neI : oNe (.int i) (.int j) S = .ok (.bl (!(i == j))) S := rfl
@[simp] theorem z_ixR (k : Str) : oIx (.ref n) (.str k) S = match S.h[n]? with
  | some (.dct kvs) => match valD kvs (.inr k) with
    | some d => .ok d S
    | none => .stuck
  | some (.fdct kvs) => match valD kvs (.inr k) with
    | some d => .ok d S
    | none => .stuck
  | _ => .stuck := by
  show (match S.h[n]?, D.str k with
    | some (.lst xs), .int i => match atI xs i with
      | some d => Res.ok d S
      | none => .stuck
    | some (.dct kvs), y => match keyOf y with
      | some k => match valD kvs k with
        | some d => .ok d S
        | none => .stuck
      | none => .stuck
    | some (.fdct kvs), y => match keyOf y with
      | some k => match valD kvs k with
        | some d => .ok d S
        | none => .stuck
      | none => .stuck
    | _, _ => .stuck) = _
  cases S.h[n]? with
  | none => rfl
  | some ob => cases ob <;> rfl
@[simp] theorem z_ixT (xs : List D) : oIx (.tup xs) (.int i) S = match atI xs i with
  | some d => .ok d S
  | none => .stuck := rfl
@[simp] theorem z_putD (k : Str) (d : D) : oPut (.ref n) (.str k) d S = match S.h[n]? with
  | some (.dct kvs) => if kvs.length < mxL then some { S with h := S.h.set n (.dct (putD kvs (.inr k) d)) } else none
  | _ => none := by
  unfold oPut
  dsimp only
  cases S.h[n]? with
  | none => rfl
  | some ob => cases ob <;> rfl
@[simp] theorem z_lenS : cLen [.str x] S = if x.length ≤ mxL then .ok (.int x.length) S else .stuck := rfl
@[simp] theorem z_lenT (xs : List D) : cLen [.tup xs] S = .ok (.int xs.length) S := rfl
@[simp] theorem z_lenR : cLen [.ref n] S = match S.h[n]? with
  | some (.lst xs) => .ok (.int xs.length) S
  | some (.dct kvs) => .ok (.int kvs.length) S
  | _ => .stuck := rfl
@[simp] theorem z_intI : cInt [.int i] S = .ok (.int i) S := rfl
@[simp] theorem z_intB (b : Bool) : cInt [.bl b] S = .ok (.int (if b then 1 else 0)) S := rfl
@[simp] theorem z_abs : cAbs [.int i] S = .ok (.int (if i < 0 then -i else i)) S := rfl
@[simp] theorem z_slS (lo hi : Option Int) : oSl (.str x) lo hi S = if x.length ≤ mxL then .ok (.str (cutS x lo hi)) S else .stuck := rfl
@[simp] theorem z_slT (xs : List D) (lo hi : Option Int) : oSl (.tup xs) lo hi S = .ok (.tup (cutD xs lo hi)) S := rfl
@[simp] theorem z_slR (xs : List D) (lo hi : Option Int) : oSl (.ro xs) lo hi S = newO (.lst (cutD xs lo hi)) S := rfl
@[simp] theorem z_slL (lo hi : Option Int) : oSl (.ref n) lo hi S = match S.h[n]? with
  | some (.lst xs) => newO (.lst (cutD xs lo hi)) S
  | _ => .stuck := rfl
@[simp] theorem z_pop : mPop (.ref n) [] S = match S.h[n]? with
  | some (.lst xs) => match xs[xs.length - 1]? with
    | some d => .ok d { S with h := S.h.set n (.lst xs.dropLast) }
    | none => .stuck
  | _ => .stuck := rfl
@[simp] theorem z_append (d : D) : mAppend (.ref n) [d] S = match S.h[n]? with
  | some (.lst xs) => if xs.length < mxL then .ok .non { S with h := S.h.set n (.lst (xs ++ [d])) } else .stuck
  | _ => .stuck := rfl
@[simp] theorem z_split : mSplit (.str x) [.str y] S = if y.length ≠ 0 ∧ x.length + 2 ≤ mxL then newO (.lst ((Txt.split x y).map .str)) S else .stuck := rfl
end
end Den

namespace Den
open PySem L2

/-! ### 25. texts -/
def goodB (x : Str) : Bool := x.cps.toList.all (fun c => decide (c < 256))
theorem good_of {x : Str} (h : goodB x = true) : Good x := fun c hc => of_decide_eq_true (List.all_eq_true.mp h c hc)
theorem sig_app (x y : Str) : (x ++ y).cps.toList = x.cps.toList ++ y.cps.toList := TL.tl_append x y
theorem Good.app {x y : Str} (a : Good x) (b : Good y) : Good (x ++ y) := fun c hc => by
  rw [sig_app] at hc
  rcases List.mem_append.mp hc with h | h
  · exact a c h
  · exact b c h
theorem Good.left {x y : Str} (a : Good (x ++ y)) : Good x := fun c hc => a c (by rw [sig_app]; exact List.mem_append.mpr (.inl hc))
theorem Good.right {x y : Str} (a : Good (x ++ y)) : Good y := fun c hc => a c (by rw [sig_app]; exact List.mem_append.mpr (.inr hc))
theorem Good.cut {x : Str} (a : Good x) (lo hi : Option Int) : Good (cutS x lo hi) := fun c hc => a c (by
  unfold cutS at hc
  exact List.mem_of_mem_drop (List.mem_of_mem_take hc))
theorem Good.rev {x : Str} (a : Good x) : Good (revS x) := fun c hc => a c (by
  unfold revS at hc
  simpa using hc)
theorem len_app (x y : Str) : (x ++ y).length = x.length + y.length := by
  show (x.cps ++ y.cps).size = _
  rw [Array.size_append]; rfl
theorem len_cut (x : Str) (lo hi : Option Int) : (cutS x lo hi).length ≤ x.length := by
  unfold cutS
  show (List.toArray _).size ≤ x.cps.size
  rw [List.size_toArray, List.length_take, List.length_drop, Array.length_toList]
  omega
theorem good_join {y : Str} (gy : Good y) : ∀ {ps : List Str}, (∀ p ∈ ps, Good p) → Good (Str.join y ps)
  | [], _ => fun c hc => by cases hc
  | [p], h => h p (by simp)
  | p :: q :: r, h => ((h p (by simp)).app gy).app (good_join gy fun z hz => h z (List.mem_cons_of_mem _ hz))
theorem good_parts {y : Str} : ∀ {ps : List Str}, Good (Str.join y ps) → ∀ p ∈ ps, Good p
  | [], _ => fun _ hp => by cases hp
  | [p], h => fun z hz => by rw [List.mem_singleton.mp hz]; exact h
  | p :: q :: r, h => fun z hz => by
    have h' : Good (p ++ y ++ Str.join y (q :: r)) := h
    rcases List.mem_cons.mp hz with rfl | hz
    · exact h'.left.left
    · exact good_parts h'.right z hz
theorem good_split {x y : Str} (g : Good x) : ∀ p ∈ Txt.split x y, Good p := good_parts (by rw [StrLaws.join_split]; exact g)
def lenS (ps : List Str) : Nat := (ps.map (·.length)).sum
theorem len_join (y : Str) : ∀ {ps : List Str}, ps ≠ [] → (Str.join y ps).length + y.length = lenS ps + ps.length * y.length
  | [], h => absurd rfl h
  | [p], _ => by
    show p.length + y.length = p.length + 0 + 1 * y.length
    omega
  | p :: q :: r, _ => by
    show (p ++ y ++ Str.join y (q :: r)).length + y.length = p.length + lenS (q :: r) + (r.length + 1 + 1) * y.length
    rw [len_app, len_app, Nat.add_assoc (p.length + y.length), len_join y (ps := q :: r) (by simp)]
    rw [Nat.add_mul (r.length + 1) 1, Nat.one_mul]
    show _ + (lenS (q :: r) + (r.length + 1) * y.length) = _
    omega
theorem split_ne (x y : Str) : Txt.split x y ≠ [] ∨ x.length = 0 := by
  by_cases h : Txt.split x y = []
  · refine .inr ?_
    have := StrLaws.join_split x y
    rw [h] at this
    rw [← this]; rfl
  · exact .inl h
theorem split_len (x y : Str) : lenS (Txt.split x y) + (Txt.split x y).length * y.length ≤ x.length + y.length := by
  rcases split_ne x y with h | h
  · rw [← len_join y h, StrLaws.join_split]; exact Nat.le_refl _
  · by_cases h2 : Txt.split x y = []
    · rw [h2]; show 0 + 0 * _ ≤ _; omega
    · rw [← len_join y h2, StrLaws.join_split]; exact Nat.le_refl _
theorem lenS_rev (ps : List Str) : lenS ps.reverse = lenS ps := by
  unfold lenS
  rw [List.map_reverse, List.sum_reverse]
theorem strsOf_map : ∀ ps : List Str, strsOf (ps.map D.str) = some ps
  | [] => rfl
  | p :: ps => by
    show (strsOf (ps.map D.str)).map (fun ys => p :: ys) = _
    rw [strsOf_map ps]; rfl
theorem join_len (y : Str) (ps : List Str) : (Str.join y ps).length ≤ lenS ps + ps.length * y.length := by
  by_cases h : ps = []
  · subst h; exact Nat.zero_le _
  · have := len_join y h; omega
theorem tjoin (y : Str) (ps : List Str) : Txt.join y ps = Str.join y ps := TL.join_eq y ps
theorem joinOk_of {y : Str} {ps : List Str} (h : lenS ps + ps.length * y.length ≤ 1000000) : joinOk y ps = true := decide_eq_true h
/-- places -/
theorem atI_nat {α : Type} {xs : List α} {r : Int} (h0 : 0 ≤ r) (h1 : r < xs.length) : ∃ d, atI xs r = some d ∧ d ∈ xs := by
  unfold atI ixN
  rw [if_pos h0, if_pos h1]
  have : r.toNat < xs.length := by omega
  exact ⟨xs[r.toNat], by simp [this], List.getElem_mem this⟩
theorem ix_lst {S : DS} {n : Nat} {xs : List D} {r : Int} {d : D} (h : S.h[n]? = some (.lst xs)) (e : atI xs r = some d) : oIx (.ref n) (.int r) S = .ok d S := by
  show (match S.h[n]?, D.int r with
    | some (.lst xs), .int i => match atI xs i with
      | some d => Res.ok d S
      | none => .stuck
    | some (.dct kvs), y => match keyOf y with
      | some k => match valD kvs k with
        | some d => .ok d S
        | none => .stuck
      | none => .stuck
    | some (.fdct kvs), y => match keyOf y with
      | some k => match valD kvs k with
        | some d => .ok d S
        | none => .stuck
      | none => .stuck
    | _, _ => .stuck) = _
  rw [h]
  dsimp only
  rw [e]
@[simp] theorem z_pyS (S : DS) (x : Str) : pyD S (.str x) = some (.str x) := rfl
@[simp] theorem z_pyI (S : DS) (i : Int) : pyD S (.int i) = some (.int i) := rfl
theorem ne_str {S : DS} {x y : Str} (gx : SeqAt.shaped (.str x) = true) (gy : SeqAt.shaped (.str y) = true) : oNe (.str x) (.str y) S = .ok (.bl (!(x == y))) S := by
  unfold oNe
  rw [z_pyS, z_pyS]
  dsimp only
  rw [if_pos (by rw [gx, gy]; rfl)]
  rfl
theorem eq_str {S : DS} {x y : Str} (gx : SeqAt.shaped (.str x) = true) (gy : SeqAt.shaped (.str y) = true) : oEq (.str x) (.str y) S = .ok (.bl (x == y)) S := by
  unfold oEq
  rw [z_pyS, z_pyS]
  dsimp only
  rw [if_pos (by rw [gx, gy]; rfl)]
  rfl
/-- repr of a value whose data are known -/
theorem repr_of {S : DS} {d : D} {p : PyData} (h : pyD S d = some p) (ok : (PyData.showable p && !p.hasDict && decide (p.depth ≤ 30) && decide (p.shown.length ≤ 1000000)) = true) : cRepr [d] S = .ok (.str p.shown) S := by
  unfold cRepr
  dsimp only
  rw [h]
  dsimp only
  rw [mxL_eq, if_pos ok]
section
variable {S : DS} {x y : Str} {n : Nat}
@[simp] theorem z_revS : oRev (.str x) S = if x.length ≤ mxL then .ok (.str (revS x)) S else .stuck := rfl
@[simp] theorem z_revL : oRev (.ref n) S = match S.h[n]? with
  | some (.lst xs) => newO (.lst xs.reverse) S
  | _ => .stuck := rfl
@[simp] theorem z_joinR : mJoin (.str x) [.ref n] S = match S.h[n]? with
  | some (.lst xs) => match strsOf xs with
    | some ys => if joinOk x ys then .ok (.str (Txt.join x ys)) S else .stuck
    | none => .stuck
  | _ => .stuck := rfl
@[simp] theorem z_joinT (xs : List D) : mJoin (.str x) [.tup xs] S = match strsOf xs with
  | some ys => if joinOk x ys then .ok (.str (Txt.join x ys)) S else .stuck
  | none => .stuck := rfl
@[simp] theorem z_tupT (xs : List D) : cTuple [.tup xs] S = .ok (.tup xs) S := rfl
@[simp] theorem z_tupO (xs : List D) : cTuple [.ro xs] S = .ok (.tup xs) S := rfl
@[simp] theorem z_tupR : cTuple [.ref n] S = match S.h[n]? with
  | some (.lst xs) => .ok (.tup xs) S
  | _ => .stuck := rfl
@[simp] theorem z_listR : cList [.ref n] S = match S.h[n]? with
  | some (.lst xs) => newO (.lst xs) S
  | some (.dct kvs) => newO (.lst (kvs.map fun kv => keyD kv.1)) S
  | _ => .stuck := rfl
@[simp] theorem z_listT (xs : List D) : cList [.tup xs] S = newO (.lst xs) S := rfl
@[simp] theorem z_isi (d : D) (t : String) : cIsi [d, .ty t] S = match tyName S d with
  | some m => match isaB m t with
    | some b => .ok (.bl b) S
    | none => .stuck
  | none => .stuck := rfl
@[simp] theorem z_tyS : tyName S (.str x) = some "str" := rfl
@[simp] theorem z_tyI (i : Int) : tyName S (.int i) = some "int" := rfl
@[simp] theorem z_tyB (b : Bool) : tyName S (.bl b) = some "bool" := rfl
@[simp] theorem z_tyN : tyName S .non = some "NoneType" := rfl
@[simp] theorem z_tyT (xs : List D) : tyName S (.tup xs) = some "tuple" := rfl
@[simp] theorem z_tyR : tyName S (.ref n) = match S.h[n]? with
  | some (.lst _) => some "list"
  | some (.dct _) => some "dict"
  | some (.fdct _) => some "dict"
  | none => none := rfl
@[simp] theorem z_raise1 (cls f : Str) (a : DA) (S : DS) : sRaise1 cls f a S = (a S).bind fun ds S1 => match ds with
  | [d] => .exc ⟨cls, [(f, d)]⟩ S1
  | _ => .stuck := rfl
@[simp] theorem z_raise0 (cls : Str) (S : DS) : sRaise0 cls S = .exc ⟨cls, []⟩ S := rfl
end
theorem ok_sForK {i n : Nat} {g : DG} {b : DSt} {K : Fl → DS → Res Fl} {Q : Fl → DS → Prop} {S : DS} {kvs : List (Key × D)} (I : DS → Prop) (hi : S.loc[i]? = some (some (.ref n))) (hn : S.h[n]? = some (.dct kvs)) (i0 : I { S with h := S.h.set n (.fdct kvs) })
    (step : ∀ d ∈ kvs.map (fun kv => keyD kv.1), ∀ S, I S → ∃ S1, g d S = some S1 ∧ Ok (b S1) fun f S2 => (f = .next ∨ f = .cont) ∧ I S2) (hI : ∀ S, I S → ∃ k2, S.h[n]? = some (.fdct k2)) (k : ∀ S', I S' → Ok (K .next { S' with h := S'.h.set n (.dct kvs) }) Q) :
    Ok ((sForK i g b S).bind K) Q := by
  obtain ⟨S', e, i'⟩ := forV_inv (g := g) (b := b) (kvs.map fun kv => keyD kv.1) _ i0 fun d hd S ii => by
    obtain ⟨S1, e1, o⟩ := step d hd S ii
    obtain ⟨f, S2, e2, hf, i2⟩ := o.ex
    exact ⟨S1, e1, f, S2, e2, hf, i2⟩
  obtain ⟨k2, h2⟩ := hI S' i'
  unfold sForK
  rw [hi]
  dsimp only
  rw [hn]
  dsimp only
  rw [e]
  dsimp only
  rw [h2]
  exact k S' i'
theorem ok_sForV {it : DS → Res Iter0} {g : DG} {b : DSt} {K : Fl → DS → Res Fl} {Q : Fl → DS → Prop} {S S0 : DS} {xs : List D} (hi : it S = .ok (.vals xs) S0) (I : DS → Prop) (i0 : I S0) (step : ∀ d ∈ xs, ∀ S, I S → ∃ S1, g d S = some S1 ∧ Ok (b S1) fun f S2 => (f = .next ∨ f = .cont) ∧ I S2)
    (k : ∀ S', I S' → Ok (K .next S') Q) : Ok ((sFor it g b S).bind K) Q := by
  unfold sFor
  rw [hi]
  exact ok_forV I i0 step k
theorem rng_one (j : Int) (h : -1000000 ≤ j ∧ j ≤ 1000000) (S : DS) : dRng (dCons (dC (.int j)) dNil) S = .ok (.vals (rgD 0 j.toNat)) S := by
  unfold dRng
  simp [h]
theorem mem_rgD {lo : Int} {n : Nat} {d : D} (h : d ∈ rgD lo n) : ∃ i : Int, d = .int i ∧ lo ≤ i ∧ i < lo + n := by
  unfold rgD at h
  obtain ⟨k, hk, rfl⟩ := List.mem_map.mp h
  have := List.mem_range.mp hk
  exact ⟨_, rfl, by omega, by omega⟩
end Den

namespace K06
open PySem L2 PySem.Spec PyProof.Rows Den
/-! ### B. plain functions -/
def g_ROADS : D := .tup [(.str "slow"), (.str "at once")]
def g_TOURS : D := .tup [(.str "alike"), (.str "anew")]
def sub_BadText : Str → Option Bool := fun n => if n = "BadText" then some true else none
/-- is_tuple_of: 0=value, 1=many -/
def p_is_tuple_of : DSt := (sRet (dAnd (dCB cIsi (dCons (dVar 0) (dCons (dC (.ty "tuple")) dNil))) (dBin oEq (dCB cLen (dCons (dVar 0) dNil)) (dVar 1))))
def F_is_tuple_of : Fn := runB 2 p_is_tuple_of
/-- world_error: 0=value -/
def p_world_error : DSt := (sSeq (sIf (tNotD (tV (dCall F_is_tuple_of (dCons (dVar 0) (dCons (dC (.int 2)) dNil))))) (sRet (dC (.str "form"))) sNop)
  (sSeq (sIf (tV (dBin oNotIn (dBin oIx (dVar 0) (dC (.int 0))) (dC g_ROADS))) (sRet (dC (.str "roads"))) sNop)
  (sRet (dIf (tV (dBin oIn (dBin oIx (dVar 0) (dC (.int 1))) (dC g_TOURS))) (dC .non) (dC (.str "tours"))))))
def F_world_error : Fn := runB 1 p_world_error
/-- world_text: 0=world -/
def p_world_text : DSt := (sRet (dMtS mJoin (dC (.str ", ")) (dVar 0)))
def F_world_text : Fn := runB 1 p_world_text
/-- read_world: 0=value, 1=world -/
def p_read_world : DSt := (sSeq (sIf (tNotD (tV (dCB cIsi (dCons (dVar 0) (dCons (dC (.ty "str")) dNil))))) (sRaise1 "BadText" "line" (dCons (dC (.int 0)) dNil)) sNop)
  (sSeq (sAsg (dCB cTuple (dCons (dMtS mSplit (dVar 0) (dC (.str ", "))) dNil)) (gN 1))
  (sSeq (sIf (tV (dBin oNotN (dCall F_world_error (dCons (dVar 1) dNil)) (dC .non))) (sRaise1 "BadText" "line" (dCons (dC (.int 0)) dNil)) sNop)
  (sRet (dVar 1)))))
def F_read_world : Fn := runB 2 p_read_world
/-- _law_deck: 0=script, 1=deck, 2=cell, 3=whole, 4=state -/
def p_law_deck : DSt := (sSeq (sAsg (dDict [((dC (.str "deep")), (dLst dNil)), ((dC (.str "state")), (dBin oAdd (dC (.int 1572606)) (dCB cLen (dCons (dSl (dVar 0) dPN (dPS (dC (.int 63)))) dNil))))]) (gN 1))
  (sSeq (sFor (dIter (dSl (dVar 0) dPN (dPS (dC (.int 63))))) (gN 2)
  (sSeq (sAsg (dCB cAbs (dCons (dVar 2) dNil)) (gN 3))
  (sSeq (sIf (tV (dBin oGe (dVar 3) (dBin oPow (dC (.int 10)) (dC (.int 18))))) (sPut (dBin oAdd (dLst (dCons (dVar 3) dNil)) (dBin oIx (dVar 1) (dC (.str "deep")))) (dVar 1) (dC (.str "deep"))) sNop)
  (sSeq (sAsg (dBin oAdd (dBin oMulA (dBin oAdd (dBin oAdd (dBin oAdd (dBin oIx (dVar 1) (dC (.str "state"))) (dBin oMulA (dC (.int 2)) (dVar 3))) (dCB cInt (dCons (dBin oLt (dVar 2) (dC (.int 0))) dNil))) (dC (.int 1))) (dC (.int 1181783497276652981))) (dC (.int 521288629))) (gN 4))
  (sPut (dBin oMod (dCB cInt (dCons (dVar 4) dNil)) (dC (.int 2305843009213693951))) (dVar 1) (dC (.str "state")))))))
  (sRet (dVar 1))))
def F_law_deck : Fn := runB 5 p_law_deck
/-- _law_draw: 0=deck, 1=many, 2=one, 3=two, 4=whole -/
def p_law_draw : DSt := (sSeq (sIf (tV (dBin oLt (dVar 1) (dC (.int 2)))) (sRet (dC (.int 0))) sNop)
  (sSeq (sIf (tV (dBin oNe (dBin oIx (dVar 0) (dC (.str "deep"))) (dLst dNil))) (sSeq (sAsg (dMtL mPop (dBin oIx (dVar 0) (dC (.str "deep"))) dNil) (gN 4))
  (sSeq (sIf (tV (dBin oGe (dVar 4) (dVar 1))) (sExpr (dMtL mAppend (dBin oIx (dVar 0) (dC (.str "deep"))) (dCons (dBin oDiv (dVar 4) (dVar 1)) dNil))) sNop)
  (sRet (dBin oMod (dCB cInt (dCons (dVar 4) dNil)) (dVar 1))))) sNop)
  (sSeq (sAsg (dBin oMod (dCB cInt (dCons (dBin oAdd (dBin oMulA (dBin oIx (dVar 0) (dC (.str "state"))) (dC (.int 1181783497276652981))) (dC (.int 88172645463325))) dNil)) (dC (.int 2305843009213693951))) (gN 2))
  (sSeq (sPut (dVar 2) (dVar 0) (dC (.str "state")))
  (sSeq (sAsg (dBin oMod (dCB cInt (dCons (dBin oAdd (dBin oAdd (dBin oMulA (dVar 2) (dVar 2)) (dBin oMulA (dC (.int 374761393)) (dVar 2))) (dC (.int 11))) dNil)) (dC (.int 2305843009213693921))) (gN 3))
  (sRet (dBin oMod (dCB cInt (dCons (dBin oDiv (dVar 3) (dC (.int 1048576))) dNil)) (dVar 1))))))))
def F_law_draw : Fn := runB 5 p_law_draw
/-- _law_pick: 0=deck, 1=items -/
def p_law_pick : DSt := (sRet (dBin oIx (dVar 1) (dCall F_law_draw (dCons (dVar 0) (dCons (dCB cLen (dCons (dVar 1) dNil)) dNil)))))
def F_law_pick : Fn := runB 2 p_law_pick
/-- _law_texts: 0=found, 1=roads, 2=tours -/
def p_law_texts : DSt := (sSeq (sAsg dNew0 (gN 0))
  (sSeq (sFor (dIter (dTup (dCons (dC (.str "slow")) (dCons (dC (.str "at once")) dNil)))) (gN 1)
  (sFor (dIter (dTup (dCons (dC (.str "alike")) (dCons (dC (.str "anew")) dNil)))) (gN 2)
  (sPut (dTup (dCons (dVar 1) (dCons (dVar 2) dNil))) (dVar 0) (dBin oAdd (dBin oAdd (dVar 1) (dC (.str ", "))) (dVar 2)))))
  (sRet (dVar 0))))
def F_law_texts : Fn := runB 3 p_law_texts
/-- _law_heard: 0=value, 1=is_named, 2=slip -/
def p_law_heard : DSt := (sTry1 sub_BadText (sRet (dLst (dCons (dC (.str "told")) (dCons (dIf (tV (dVar 1)) (dCallK F_read_world [0] dNil (dCons (dVar 0) dNil)) (dCall F_read_world (dCons (dVar 0) dNil))) dNil)))) (sRetX 2 (xLst (xCons (xC (dC (.str "text"))) (xCons (xFld "BadText" "line") (xCons (xIsi "BadText" true) xNil))))))
def F_law_heard : Fn := runB 3 p_law_heard
/-- _law_spoilt: 0=deck, 1=text, 2=sign, 3=at, 4=way -/
def p_law_spoilt : DSt := (sSeq (sPar 3 4 (dCons (dCall F_law_draw (dCons (dVar 0) (dCons (dBin oAdd (dCB cLen (dCons (dVar 1) dNil)) (dC (.int 1))) dNil))) (dCons (dCall F_law_draw (dCons (dVar 0) (dCons (dC (.int 5)) dNil))) dNil)))
  (sSeq (sAsg (dCall F_law_pick (dCons (dVar 0) (dCons (dLst (dCons (dC (.str " ")) (dCons (dC (.str ",")) (dCons (dC (.str ", ")) (dCons (dC (.str "a")) (dCons (dC (.str "s")) (dCons (dC (.str "e")) (dCons (dC (.str "\n")) (dCons (dC (.str "-")) (dCons (dC (.str "A")) (dCons (dC (.str "slow")) (dCons (dC (.str "anew")) dNil)))))))))))) dNil))) (gN 2))
  (sSeq (sIf (tV (dBin oEq (dVar 4) (dC (.int 0)))) (sRet (dBin oAdd (dSl (dVar 1) dPN (dPS (dVar 3))) (dSl (dVar 1) (dPS (dBin oAdd (dVar 3) (dC (.int 1)))) dPN))) sNop)
  (sSeq (sIf (tV (dBin oEq (dVar 4) (dC (.int 1)))) (sRet (dBin oAdd (dBin oAdd (dSl (dVar 1) dPN (dPS (dVar 3))) (dVar 2)) (dSl (dVar 1) (dPS (dVar 3)) dPN))) sNop)
  (sSeq (sIf (tV (dBin oEq (dVar 4) (dC (.int 2)))) (sRet (dBin oAdd (dBin oAdd (dSl (dVar 1) dPN (dPS (dVar 3))) (dVar 2)) (dSl (dVar 1) (dPS (dBin oAdd (dVar 3) (dC (.int 1)))) dPN))) sNop)
  (sSeq (sIf (tV (dBin oEq (dVar 4) (dC (.int 3)))) (sRet (dBin oAdd (dBin oAdd (dSl (dVar 1) dPN (dPS (dVar 3))) (dRev (dSl (dVar 1) (dPS (dVar 3)) (dPS (dBin oAdd (dVar 3) (dC (.int 2))))))) (dSl (dVar 1) (dPS (dBin oAdd (dVar 3) (dC (.int 2)))) dPN))) sNop)
  (sRet (dMtS mJoin (dC (.str ", ")) (dRev (dMtS mSplit (dVar 1) (dC (.str ", "))))))))))))
def F_law_spoilt : Fn := runB 5 p_law_spoilt
/-- law: 0=script, 1=deck, 2=table, 3=text, 4=turn, 5=told, 6=odd, 7=value, 8=is_right, 9=due -/
def p_law : DSt := (sSeq (sAsg (dCall F_law_deck (dCons (dVar 0) dNil)) (gN 1))
  (sSeq (sAsg (dCall F_law_texts dNil) (gN 2))
  (sSeq (sForK 2 (gN 3)
  (sSeq (sAsg (dLst (dCons (dCall F_world_text (dCons (dBin oIx (dVar 2) (dVar 3)) dNil)) (dCons (dCallK F_world_text [0] dNil (dCons (dBin oIx (dVar 2) (dVar 3)) dNil)) (dCons (dCall F_read_world (dCons (dVar 3) dNil)) (dCons (dCallK F_read_world [0] dNil (dCons (dVar 3) dNil)) dNil))))) (gN 5))
  (sIf (tV (dBin oNe (dCB cRepr (dCons (dVar 5) dNil)) (dCB cRepr (dCons (dLst (dCons (dVar 3) (dCons (dVar 3) (dCons (dBin oIx (dVar 2) (dVar 3)) (dCons (dBin oIx (dVar 2) (dVar 3)) dNil))))) dNil)))) (sRet (dC (.bl false))) sNop)))
  (sSeq (sFor (dRng (dCons (dC (.int 24)) dNil)) (gN 4)
  (sSeq (sAsg (dCall F_law_pick (dCons (dVar 1) (dCons (dCB cList (dCons (dVar 2) dNil)) dNil))) (gN 3))
  (sSeq (sAsg (dLst (dCons (dC .non) (dCons (dC (.int 0)) (dCons (dC (.bl true)) (dCons (dLst dNil) (dCons dNew0 (dCons (dBin oIx (dVar 2) (dVar 3)) (dCons (dTup (dCons (dVar 3) dNil)) (dCons (dC (.str "")) (dCons (dC (.str "slow")) (dCons (dC (.str "slow,alike")) (dCons (dC (.str "slow, alike, anew")) (dCons (dBin oMulA (dC (.str " ")) (dC (.int 4000))) dNil))))))))))))) (gN 6))
  (sSeq (sAsg (dIf (tV (dBin oGt (dCall F_law_draw (dCons (dVar 1) (dCons (dC (.int 3)) dNil))) (dC (.int 0)))) (dCall F_law_spoilt (dCons (dVar 1) (dCons (dVar 3) dNil))) (dCall F_law_pick (dCons (dVar 1) (dCons (dVar 6) dNil)))) (gN 7))
  (sSeq (sIf (tV (dBin oEq (dCall F_law_draw (dCons (dVar 1) (dCons (dC (.int 5)) dNil))) (dC (.int 0)))) (sAsg (dCall F_law_pick (dCons (dVar 1) (dCons (dCB cList (dCons (dVar 2) dNil)) dNil))) (gN 7)) sNop)
  (sSeq (sAsg (dAnd (dCB cIsi (dCons (dVar 7) (dCons (dC (.ty "str")) dNil))) (dBin oIn (dVar 7) (dVar 2))) (gN 8))
  (sSeq (sAsg (dIf (tV (dVar 8)) (dLst (dCons (dC (.str "told")) (dCons (dBin oIx (dVar 2) (dVar 7)) dNil))) (dLst (dCons (dC (.str "text")) (dCons (dC (.int 0)) (dCons (dC (.bl true)) dNil))))) (gN 9))
  (sIf (tOrD (tV (dBin oNe (dCB cRepr (dCons (dCall F_law_heard (dCons (dVar 7) (dCons (dBin oEq (dBin oMod (dVar 4) (dC (.int 5))) (dC (.int 2))) dNil))) dNil)) (dCB cRepr (dCons (dVar 9) dNil)))) (tV (dBin oNe (dCB cRepr (dCons (dCall F_law_heard (dCons (dVar 7) (dCons (dC (.bl false)) dNil))) dNil)) (dCB cRepr (dCons (dVar 9) dNil))))) (sRet (dC (.bl false))) sNop))))))))
  (sRet (dC (.bl true)))))))
def F_law : Fn := runB 10 p_law
end K06

namespace K06
open PySem L2 PySem.Spec PyProof.Rows Den
/-! ### F. what the plain functions do -/
structure Deck (h : List Ob) (n m : Nat) : Prop where
  ne : n ≠ m
  ex : ∃ (s : Int) (xs : List Int), h[n]? = some (.dct [(.inr "deep", .ref m), (.inr "state", .int s)]) ∧ h[m]? = some (.lst (xs.map .int)) ∧ 0 ≤ s ∧ s < 2305843009213693951 ∧ (∀ x ∈ xs, 0 ≤ x) ∧ xs.length ≤ 63
theorem k_ds : (decide ((Sum.inr (Str.ofString "deep") : Key) = Sum.inr (Str.ofString "state"))) = false := by decide +kernel
theorem k_sd : (decide ((Sum.inr (Str.ofString "state") : Key) = Sum.inr (Str.ofString "deep"))) = false := by decide +kernel
theorem val_deep {m : Nat} {s : Int} : valD [(.inr (Str.ofString "deep"), .ref m), (.inr (Str.ofString "state"), .int s)] (.inr (Str.ofString "deep")) = some (.ref m) := by
  unfold valD; simp [List.find?]
theorem val_state {m : Nat} {s : Int} : valD [(.inr (Str.ofString "deep"), .ref m), (.inr (Str.ofString "state"), .int s)] (.inr (Str.ofString "state")) = some (.int s) := by
  unfold valD
  rw [List.find?_cons, k_ds]
  simp
theorem put_state {m : Nat} {s : Int} {d : D} : putD [(.inr (Str.ofString "deep"), .ref m), (.inr (Str.ofString "state"), .int s)] (.inr (Str.ofString "state")) d = [(.inr (Str.ofString "deep"), .ref m), (.inr (Str.ofString "state"), d)] := by
  unfold putD hasD
  have := of_decide_eq_false k_ds
  simp [this]
theorem put_deep {m : Nat} {s : Int} {d : D} : putD [(.inr (Str.ofString "deep"), .ref m), (.inr (Str.ofString "state"), .int s)] (.inr (Str.ofString "deep")) d = [(.inr (Str.ofString "deep"), d), (.inr (Str.ofString "state"), .int s)] := by
  unfold putD hasD
  have := of_decide_eq_false k_sd
  simp [this]
theorem ne_nil (S : DS) (xs : List Int) {m k : Nat} (hm : S.h[m]? = some (.lst (xs.map .int))) (hk : S.h[k]? = some (.lst [])) : oNe (.ref m) (.ref k) S = .ok (.bl (!xs.isEmpty)) S := by
  have e1 : pyD S (.ref m) = some (.list (xs.map .int)) := by
    show (match S.h[m]? with | some (.lst xs) => (xs.mapM (toPy S.h 19)).map PyData.list | _ => none) = _
    rw [hm]; dsimp only; rw [toPy_ints]; rfl
  have e2 : pyD S (.ref k) = some (.list []) := by
    show (match S.h[k]? with | some (.lst xs) => (xs.mapM (toPy S.h 19)).map PyData.list | _ => none) = _
    rw [hk]; rfl
  unfold oNe
  rw [e1, e2]
  dsimp only
  rw [if_pos (by rw [shaped_ints]; rfl)]
  cases xs <;> rfl
theorem draw_ok {h : List Ob} {n m : Nat} (dk : Deck h n m) {many : Int} (h1 : 1 ≤ many) (h2 : many < 1073741824) : Ok (F_law_draw [.ref n, .int many] h) fun d S => ∃ r, d = .int r ∧ 0 ≤ r ∧ r < many ∧ Deck S.h n m ∧ Kp n m h S.h := by
  have D0 := dk
  obtain ⟨ne, s, xs, hn, hm, s0, s1, x0, xl⟩ := dk
  have ln := lt_of_at hn
  have lm := lt_of_at hm
  apply ok_runB
  by_cases c : many < 2
  · simp [p_law_draw, c]
    exact ⟨h1, D0, Kp.refl _ _ _⟩
  · have hn2 := at_old (t := [.lst []]) hn
    have hm2 := at_old (t := [.lst []]) hm
    have q1 := ne_nil ⟨[some (.ref n), some (.int many), none, none, none], h ++ [.lst []]⟩ xs hm2 (at_new h _)
    rcases List.eq_nil_or_concat xs with hx | ⟨ys, y, hx⟩
    · subst hx
      simp at q1 hm
      simp [p_law_draw, c, hn, hm, q1, hn2, hm2, val_deep, val_state, put_state]
      have o0 : 0 ≤ (s * 1181783497276652981 + 88172645463325) % 2305843009213693951 := Int.emod_nonneg _ (by decide)
      have o1 : (s * 1181783497276652981 + 88172645463325) % 2305843009213693951 < 2305843009213693951 := Int.emod_lt_of_pos _ (by decide)
      generalize (s * 1181783497276652981 + 88172645463325) % 2305843009213693951 = one at o0 o1
      have o2 : -18446744073709551616 < one := by omega
      have o3 : one < 18446744073709551616 := by omega
      have o4 : 0 < many := by omega
      simp [o2, o3, o4]
      refine ⟨Int.emod_nonneg _ (by omega), Int.emod_lt_of_pos _ o4, ⟨ne, one, [], ?_, ?_, o0, o1, by simp, by simp⟩, ?_⟩
      · rw [List.getElem?_set_self (by simp; omega)]
      · rw [List.getElem?_set_ne ne]; exact hm2
      · intro k ob k1 k2 e
        rw [List.getElem?_set_ne (Ne.symm k1)]
        exact at_old e
    · rw [List.concat_eq_append] at hx
      subst hx
      have y0 : 0 ≤ y := x0 y (by simp)
      have o4 : 0 < many := by omega
      have g1 : ((h ++ [Ob.lst []]).set m (Ob.lst (ys.map D.int)))[n]? = some (.dct [(.inr "deep", .ref m), (.inr "state", .int s)]) := by
        rw [List.getElem?_set_ne (Ne.symm ne)]; exact hn2
      have g2 : ((h ++ [Ob.lst []]).set m (Ob.lst (ys.map D.int)))[m]? = some (.lst (ys.map D.int)) := by
        rw [List.getElem?_set_self (by simp; omega)]
      have yl : ys.length < 1000000 := by simp at xl; omega
      rw [show (ys ++ [y]).isEmpty = false by cases ys <;> rfl] at q1
      simp [p_law_draw, c, hn, hm, q1, hn2, hm2, val_deep, val_state, put_state]
      by_cases c2 : many ≤ y
      · simp [c2, g1, g2, val_deep, o4, h2, yl]
        refine ⟨Int.emod_nonneg _ (by omega), Int.emod_lt_of_pos _ o4, ⟨ne, s, ys ++ [y / many], ?_, ?_, s0, s1, ?_, ?_⟩, ?_⟩
        · rw [List.getElem?_set_ne (Ne.symm ne)]; exact hn2
        · rw [List.getElem?_set_self (by simp; omega)]; simp
        · intro x hx
          rcases List.mem_append.mp hx with hx | hx
          · exact x0 x (by simp [hx])
          · rw [List.mem_singleton.mp hx]; exact Int.ediv_nonneg y0 (by omega)
        · simp at xl ⊢; omega
        · intro k ob k1 k2 e
          rw [List.getElem?_set_ne (Ne.symm k2)]
          exact at_old e
      · simp [c2, o4]
        refine ⟨Int.emod_nonneg _ (by omega), Int.emod_lt_of_pos _ o4, ⟨ne, s, ys, g1, g2, s0, s1, ?_, ?_⟩, ?_⟩
        · exact fun x hx => x0 x (by simp [hx])
        · simp at xl ⊢; omega
        · intro k ob k1 k2 e
          rw [List.getElem?_set_ne (Ne.symm k2)]
          exact at_old e

theorem cut63 {ns : List Int} (hl : ns.length ≤ 63) : cutD (ns.map D.int) none (some 63) = ns.map D.int := by
  apply cut_whole
  rw [List.length_map]
  refine ⟨rfl, ?_⟩
  show (if (63 : Int) < 0 then ((63 : Int) + (ns.length : Int)).toNat else min (63 : Int).toNat ns.length) = ns.length
  rw [if_neg (by decide)]
  exact Nat.min_eq_right hl
def Dk (h : List Ob) (n w : Nat) (ns : List Int) (i : Nat) (S : DS) : Prop := ∃ (a2 a3 a4 : Option D) (m : Nat) (s : Int) (xs : List Int), S.loc = [some (.ro (ns.map D.int)), some (.ref n), a2, a3, a4] ∧ S.h[w]? = some (.lst (ns.map D.int)) ∧ n ≠ m ∧ w ≠ m ∧ n ≠ w ∧ S.h[n]? = some (.dct [(.inr "deep", .ref m), (.inr "state", .int s)]) ∧ S.h[m]? = some (.lst (xs.map D.int)) ∧ 0 ≤ s ∧ (∀ x ∈ xs, 0 ≤ x) ∧ xs.length ≤ i ∧ h.length ≤ n ∧ Kp0 h S.h ∧ s < 2305843009213693951
theorem merge_ds (m : Nat) (s : Int) : mergeD [] [(.inr (Str.ofString "deep"), .ref m), (.inr (Str.ofString "state"), .int s)] = [(.inr (Str.ofString "deep"), .ref m), (.inr (Str.ofString "state"), .int s)] := by
  show putD (putD [] (.inr (Str.ofString "deep")) (.ref m)) (.inr (Str.ofString "state")) (.int s) = _
  have := of_decide_eq_false k_ds
  simp [putD, hasD, this]
theorem deck_ok {ns : List Int} (hl : ns.length ≤ 63) (h : List Ob) : Ok (F_law_deck [.ro (ns.map D.int)] h) fun d S => ∃ n m, d = .ref n ∧ Deck S.h n m ∧ Kp0 h S.h := by
  apply ok_runB
  simp [p_law_deck, dDict, evPairs, keyPairs, keyOf, cut63 hl, at_new, sFor, dIter, iOf, merge_ds]
  apply ok_forO (Dk h (h.length + 2) (h.length + 3) ns) (ns.map D.int)
  · rw [List.length_map]; omega
  · refine ⟨none, none, none, h.length, _, [], rfl, by simp, by omega, by omega, by omega, by simp; rfl, by simp, by omega, by simp, by simp, by omega, Kp0.app _ _, by omega⟩
  · rintro i S ⟨_, _, _, _, _, _, _, e, _⟩
    exact e
  · rintro i d ⟨loc, hh⟩ hd ⟨a2, a3, a4, m, s, xs, rfl, hw, nm, wm, nw, hn, hm, s0, x0, xl, hln, kp, s1⟩
    dsimp only at hw hn hm kp
    obtain ⟨c, hc, rfl⟩ : ∃ c, ns[i]? = some c ∧ d = .int c := by
      rw [List.getElem?_map] at hd
      cases q : ns[i]? with
      | none => rw [q] at hd; cases hd
      | some c => rw [q] at hd; cases hd; exact ⟨c, rfl, rfl⟩
    refine ⟨_, rfl, ?_⟩
    simp [hn, hm, val_deep, val_state, put_deep, put_state]
    have ln := lt_of_at hn
    have lm := lt_of_at hm
    have lw := lt_of_at hw
    have w0 : 0 ≤ if c < 0 then -c else c := by split <;> omega
    generalize (if c < 0 then -c else c) = whole at w0
    have hk : ∀ k ob, h[k]? = some ob → k ≠ h.length + 2 := fun k ob e q => by have := lt_of_at e; omega
    by_cases big : 1000000000000000000 ≤ whole
    · have g1 : (hh ++ [Ob.lst [.int whole]])[h.length + 2]? = some (.dct [(.inr "deep", .ref m), (.inr "state", .int s)]) := at_old hn
      have g2 : (hh ++ [Ob.lst [.int whole]])[m]? = some (.lst (xs.map D.int)) := at_old hm
      have g3 : (hh ++ [Ob.lst [.int whole]])[hh.length]? = some (.lst [.int whole]) := at_new _ _
      have g4 : (hh ++ [Ob.lst [D.int whole], Ob.lst (D.int whole :: xs.map D.int)])[h.length + 2]? = some (.dct [(.inr "deep", .ref m), (.inr "state", .int s)]) := at_old hn
      have g5 : (hh ++ [Ob.lst [D.int whole], Ob.lst (D.int whole :: xs.map D.int)])[h.length + 3]? = some (.lst (ns.map D.int)) := at_old hw
      have li : i < ns.length := (List.getElem?_eq_some_iff.mp hc).1
      have e1 : 1 + xs.length ≤ 1000000 := by omega
      have g6 : ((hh ++ [Ob.lst [D.int whole], Ob.lst (D.int whole :: xs.map D.int)]).set (h.length + 2) (.dct [(.inr "deep", .ref (hh.length + 1)), (.inr "state", .int s)]))[h.length + 2]? = some (.dct [(.inr "deep", .ref (hh.length + 1)), (.inr "state", .int s)]) := List.getElem?_set_self (by simp; omega)
      simp [big, g1, g2, g3, g4, g6, val_deep, val_state, put_deep, put_state, e1]
      refine ⟨some (.int c), some (.int whole), _, hh.length + 1, _, whole :: xs, rfl, ?_, ?_, ?_, nw, List.getElem?_set_self (by simp; omega), ?_, ?_, ?_, ?_, hln, ?_, ?_⟩
      · rw [List.getElem?_set_ne (by omega)]; exact g5
      · omega
      · omega
      · rw [List.getElem?_set_ne (by omega), List.getElem?_append_right (by omega)]; simp
      · exact Int.emod_nonneg _ (by decide)
      · exact fun x hx => by
          rcases List.mem_cons.mp hx with rfl | hx
          · exact w0
          · exact x0 x hx
      · simp; omega
      · intro k ob e
        rw [List.getElem?_set_ne (Ne.symm (hk k ob e))]
        exact at_old (kp k ob e)
      · exact Int.emod_lt_of_pos _ (by decide)
    · simp [big, hn, val_state, put_state]
      refine ⟨some (.int c), some (.int whole), _, m, _, xs, rfl, ?_, nm, wm, nw, List.getElem?_set_self ln, ?_, ?_, x0, ?_, hln, ?_, ?_⟩
      · rw [List.getElem?_set_ne (by omega)]; exact hw
      · rw [List.getElem?_set_ne nm]; exact hm
      · exact Int.emod_nonneg _ (by decide)
      · omega
      · intro k ob e
        rw [List.getElem?_set_ne (Ne.symm (hk k ob e))]
        exact kp k ob e
      · exact Int.emod_lt_of_pos _ (by decide)
  · rintro ⟨loc, hh⟩ ⟨a2, a3, a4, m, s, xs, rfl, hw, nm, wm, nw, hn, hm, s0, x0, xl, hln, kp, s1⟩
    dsimp only at hw hn hm kp
    rw [List.length_map] at xl
    simp
    exact ⟨⟨m, nm, s, xs, hn, hm, s0, s1, x0, by omega⟩, kp⟩

theorem Deck.keep {h h' : List Ob} {n m : Nat} (dk : Deck h n m) (k : Kp0 h h') : Deck h' n m := by
  obtain ⟨ne, s, xs, hn, hm, r⟩ := dk
  exact ⟨ne, s, xs, k _ _ hn, k _ _ hm, r⟩
theorem Deck.lst {h : List Ob} {n m k : Nat} {xs : List D} (dk : Deck h n m) (hk : h[k]? = some (.lst xs)) : k ≠ n := by
  obtain ⟨ne, s, ys, hn, hm, r⟩ := dk
  rintro rfl
  rw [hn] at hk; cases hk
theorem pick_ok {h : List Ob} {n m k : Nat} (dk : Deck h n m) {xs : List D} (hk : h[k]? = some (.lst xs)) (km : k ≠ m) (h1 : 1 ≤ xs.length) (h2 : xs.length < 1000000) : Ok (F_law_pick [.ref n, .ref k] h) fun d S => d ∈ xs ∧ Deck S.h n m ∧ Kp n m h S.h := by
  apply ok_runB
  obtain ⟨d1, S1, e1, r, rfl, r0, r1, D1, k1⟩ := (draw_ok dk (many := xs.length) (by omega) (by omega)).ex
  obtain ⟨d, hd, hm⟩ := atI_nat r0 r1
  have hk1 := k1 k _ (dk.lst hk) km hk
  simp [p_law_pick, hk, e1]
  rw [ix_lst (S := ⟨[some (.ref n), some (.ref k)], S1.h⟩) hk1 hd]
  exact ⟨hm, D1, k1⟩
theorem signs_ok : ∀ d ∈ ([.str " ", .str ",", .str ", ", .str "a", .str "s", .str "e", .str "\n", .str "-", .str "A", .str "slow", .str "anew"] : List D), ∃ s, d = .str s ∧ Good s ∧ s.length ≤ 4 := by
  intro d hd
  simp only [List.mem_cons, List.not_mem_nil, or_false] at hd
  rcases hd with rfl | rfl | rfl | rfl | rfl | rfl | rfl | rfl | rfl | rfl | rfl <;> exact ⟨_, rfl, good_of (by decide +kernel), by decide +kernel⟩
theorem sep_len : (Str.ofString ", ").length = 2 := by decide +kernel
theorem spoilt_ok {h : List Ob} {n m : Nat} (dk : Deck h n m) {x : Str} (gx : Good x) (lx : x.length ≤ 20) : Ok (F_law_spoilt [.ref n, .str x] h) fun d S => ∃ z, d = .str z ∧ Good z ∧ z.length ≤ 60 ∧ Deck S.h n m ∧ Kp n m h S.h := by
  apply ok_runB
  obtain ⟨d1, S1, e1, a, rfl, a0, a1, D1, k1⟩ := (draw_ok dk (many := x.length + 1) (by omega) (by omega)).ex
  obtain ⟨d2, S2, e2, w, rfl, w0, w1, D2, k2⟩ := (draw_ok D1 (many := 5) (by omega) (by omega)).ex
  have D3 := D2.keep (Kp0.app S2.h [Ob.lst [.str " ", .str ",", .str ", ", .str "a", .str "s", .str "e", .str "\n", .str "-", .str "A", .str "slow", .str "anew"]])
  have nm : S2.h.length ≠ m := by
    obtain ⟨_, _, _, _, hm, _⟩ := D2
    have := lt_of_at hm
    omega
  obtain ⟨d3, S3, e3, hd3, D4, k4⟩ := (pick_ok (k := S2.h.length) D3 (at_new S2.h _) nm (by decide) (by decide)).ex
  obtain ⟨s, rfl, gs, ls⟩ := signs_ok d3 hd3
  have kk : Kp n m h S3.h := ((k1.trans k2).trans ((Kp0.app _ _).kp n m)).trans k4
  have lx2 : x.length ≤ 1000000 := by omega
  have c1 := len_cut x none (some a)
  have c2 := len_cut x (some (a + 1)) none
  have c3 := len_cut x (some a) none
  have c4 := len_cut x (some a) (some (a + 2))
  have c5 := len_cut x (some (a + 2)) none
  have fin : ∀ z : Str, Good z → z.length ≤ 60 → ∃ y : Str, z = y ∧ Good y ∧ y.length ≤ 60 ∧ Deck S3.h n m ∧ Kp n m h S3.h := fun z g l => ⟨z, rfl, g, l, D4, kk⟩
  simp [p_law_spoilt, e1, e2, e3, lx2]
  by_cases w00 : w = 0
  · have q : (cutS x none (some a)).length + (cutS x (some (a + 1)) none).length ≤ 1000000 := by omega
    simp [w00, q]
    exact ⟨(gx.cut _ _).app (gx.cut _ _), by rw [len_app]; omega, D4, kk⟩
  by_cases w01 : w = 1
  · have q : (cutS x none (some a)).length + s.length ≤ 1000000 := by omega
    have q2 : (cutS x none (some a) ++ s).length + (cutS x (some a) none).length ≤ 1000000 := by rw [len_app]; omega
    simp [w01, q, q2, lx2]
    exact ⟨((gx.cut _ _).app gs).app (gx.cut _ _), by rw [len_app, len_app]; omega, D4, kk⟩
  by_cases w02 : w = 2
  · have q : (cutS x none (some a)).length + s.length ≤ 1000000 := by omega
    have q2 : (cutS x none (some a) ++ s).length + (cutS x (some (a + 1)) none).length ≤ 1000000 := by rw [len_app]; omega
    simp [w02, q, q2, lx2]
    exact ⟨((gx.cut _ _).app gs).app (gx.cut _ _), by rw [len_app, len_app]; omega, D4, kk⟩
  by_cases w03 : w = 3
  · have q : (cutS x none (some a)).length + (revS (cutS x (some a) (some (a + 2)))).length ≤ 1000000 := by rw [revS_size]; omega
    have q0 : (cutS x (some a) (some (a + 2))).length ≤ 1000000 := by omega
    have q2 : (cutS x none (some a) ++ revS (cutS x (some a) (some (a + 2)))).length + (cutS x (some (a + 2)) none).length ≤ 1000000 := by rw [len_app, revS_size]; omega
    simp [w03, q, q2, lx2, q0]
    exact ⟨((gx.cut _ _).app (gx.cut _ _).rev).app (gx.cut _ _), by rw [len_app, len_app, revS_size]; omega, D4, kk⟩
  · have sl := split_len x (Str.ofString ", ")
    rw [sep_len] at sl
    have q0 : x.length + 2 ≤ 1000000 := by omega
    have q1 : joinOk (Str.ofString ", ") (Txt.split x (Str.ofString ", ")).reverse = true := joinOk_of (by rw [lenS_rev, List.length_reverse, sep_len]; omega)
    have q2 : strsOf ((Txt.split x (Str.ofString ", ")).map D.str).reverse = some (Txt.split x (Str.ofString ", ")).reverse := by rw [← List.map_reverse, strsOf_map]
    have ge : Good (Str.join (Str.ofString ", ") (Txt.split x (Str.ofString ", ")).reverse) := good_join (good_of (by decide +kernel)) fun p hp => good_split gx p (List.mem_reverse.mp hp)
    have le : (Str.join (Str.ofString ", ") (Txt.split x (Str.ofString ", ")).reverse).length ≤ 60 := by
      have := join_len (Str.ofString ", ") (Txt.split x (Str.ofString ", ")).reverse
      rw [lenS_rev, List.length_reverse, sep_len] at this
      omega
    simp [w00, w01, w02, w03, sep_len, q0, q2, q1, tjoin]
    exact ⟨ge, le, D4.keep (Kp0.app _ _), kk.trans ((Kp0.app _ _).kp n m)⟩
theorem tuple2_ok (xs : List D) (h : List Ob) : F_is_tuple_of [.tup xs, .int 2] h = .ok (.bl ((xs.length : Int) == 2)) ⟨[], h⟩ := by
  refine runB_ret (S := ⟨[some (.tup xs), some (.int 2)], h⟩) ?_
  simp [p_is_tuple_of, show isaB "tuple" "tuple" = some true by decide]
theorem in_pair {S : DS} {a u v : Str} (ga : Good a) (gu : Good u) (gv : Good v) : inD (.str a) (.tup [.str u, .str v]) S = some (u == a || v == a) := by
  have e : SeqAt.shaped (.tuple [.str u, .str v]) = true := by
    have h1 := SeqAt.canLay_of_shaped gu.shaped
    have h2 := SeqAt.canLay_of_shaped gv.shaped
    unfold SeqAt.shaped
    show ((PyData.canLay0 (.str u) && (PyData.canLay0 (.str v) && true)) && decide (1 ≤ 64)) = true
    rw [h1, h2]; rfl
  show (match pyD S (.str a), [D.str u, D.str v].mapM (pyD S) with
    | some p, some ps => if SeqAt.shaped p && SeqAt.shaped (.tuple ps) then some (ps.any fun z => PyData.eqv z p) else none
    | _, _ => none) = _
  show (if SeqAt.shaped (.str a) && SeqAt.shaped (.tuple [.str u, .str v]) then some ([PyData.str u, PyData.str v].any fun z => PyData.eqv z (.str a)) else none) = _
  rw [ga.shaped, e, if_pos (by rfl)]
  show some ((u == a) || ((v == a) || false)) = _
  rw [Bool.or_false]
def Wd (ys : List Str) : Bool := match ys with
  | [a, b] => ((Str.ofString "slow" == a) || (Str.ofString "at once" == a)) && ((Str.ofString "alike" == b) || (Str.ofString "anew" == b))
  | _ => false
theorem gS : Good (Str.ofString "slow") := good_of (by decide +kernel)
theorem gO : Good (Str.ofString "at once") := good_of (by decide +kernel)
theorem gA : Good (Str.ofString "alike") := good_of (by decide +kernel)
theorem gN' : Good (Str.ofString "anew") := good_of (by decide +kernel)
theorem werr_ok {ys : List Str} (g : ∀ p ∈ ys, Good p) (h : List Ob) : ∃ d, F_world_error [.tup (ys.map D.str)] h = .ok d ⟨[], h⟩ ∧ isNon d = Wd ys := by
  by_cases l2 : ys.length = 2
  · match ys, l2 with
    | [a, b], _ =>
      have ga := g a (by simp)
      have gb := g b (by simp)
      have t2 : F_is_tuple_of [.tup [.str a, .str b], .int 2] h = .ok (.bl true) ⟨[], h⟩ := tuple2_ok _ h
      have i0 : ∀ S, oIx (.tup [.str a, .str b]) (.int 0) S = .ok (.str a) S := fun S => rfl
      have i1 : ∀ S, oIx (.tup [.str a, .str b]) (.int 1) S = .ok (.str b) S := fun S => rfl
      have n1 : ∀ S, oNotIn (.str a) g_ROADS S = .ok (.bl (!((Str.ofString "slow" == a) || (Str.ofString "at once" == a)))) S := fun S => by
        unfold oNotIn g_ROADS; rw [in_pair ga gS gO]
      have n2 : ∀ S, oIn (.str b) g_TOURS S = .ok (.bl ((Str.ofString "alike" == b) || (Str.ofString "anew" == b))) S := fun S => by
        unfold oIn g_TOURS; rw [in_pair gb gA gN']
      cases q1 : ((Str.ofString "slow" == a) || (Str.ofString "at once" == a)) with
      | false =>
        refine ⟨.str "roads", runB_ret (S := ⟨[some (.tup [.str a, .str b])], h⟩) ?_, ?_⟩
        · simp [p_world_error, t2, i0, n1, q1, -z_ixT]
        · show false = (((Str.ofString "slow" == a) || (Str.ofString "at once" == a)) && ((Str.ofString "alike" == b) || (Str.ofString "anew" == b)))
          rw [q1]; rfl
      | true =>
        cases q2 : ((Str.ofString "alike" == b) || (Str.ofString "anew" == b)) with
        | true =>
          refine ⟨.non, runB_ret (S := ⟨[some (.tup [.str a, .str b])], h⟩) ?_, ?_⟩
          · simp [p_world_error, t2, i0, i1, n1, n2, q1, q2, -z_ixT]
          · show true = (((Str.ofString "slow" == a) || (Str.ofString "at once" == a)) && ((Str.ofString "alike" == b) || (Str.ofString "anew" == b)))
            rw [q1, q2]; rfl
        | false =>
          refine ⟨.str "tours", runB_ret (S := ⟨[some (.tup [.str a, .str b])], h⟩) ?_, ?_⟩
          · simp [p_world_error, t2, i0, i1, n1, n2, q1, q2, -z_ixT]
          · show false = (((Str.ofString "slow" == a) || (Str.ofString "at once" == a)) && ((Str.ofString "alike" == b) || (Str.ofString "anew" == b)))
            rw [q1, q2]; rfl
  · have t2 : F_is_tuple_of [.tup (ys.map D.str), .int 2] h = .ok (.bl false) ⟨[], h⟩ := by
      rw [tuple2_ok]
      have : (((ys.map D.str).length : Int) == 2) = false := by
        rw [List.length_map]
        exact beq_false_of_ne (by omega)
      rw [this]
    refine ⟨.str "form", runB_ret (S := ⟨[some (.tup (ys.map D.str))], h⟩) ?_, ?_⟩
    · simp [p_world_error, t2]
    · unfold Wd
      match ys, l2 with
      | [], _ => rfl
      | [_], _ => rfl
      | [_, _], h => exact absurd rfl h
      | _ :: _ :: _ :: _, _ => rfl
def wS (a b : Str) : D := .tup [.str a, .str b]
def tbl : List (Key × D) := [(.inr "slow, alike", wS "slow" "alike"), (.inr "slow, anew", wS "slow" "anew"), (.inr "at once, alike", wS "at once" "alike"), (.inr "at once, anew", wS "at once" "anew")]
def badX : Xn := ⟨"BadText", [("line", .int 0)]⟩
/-- a text that is read: what the table holds of it -/
theorem val4 (x : Str) : valD tbl (.inr x) = if Str.ofString "slow, alike" = x then some (wS "slow" "alike") else if Str.ofString "slow, anew" = x then some (wS "slow" "anew") else if Str.ofString "at once, alike" = x then some (wS "at once" "alike") else if Str.ofString "at once, anew" = x then some (wS "at once" "anew") else none := by
  have key : ∀ k : Str, decide ((Sum.inr k : Key) = Sum.inr x) = decide (k = x) := fun k => by simp
  unfold valD tbl
  rw [List.find?_cons, key, List.find?_cons, key, List.find?_cons, key, List.find?_cons, key]
  by_cases c1 : Str.ofString "slow, alike" = x
  · rw [if_pos c1, decide_eq_true c1]; rfl
  rw [if_neg c1, decide_eq_false c1]
  by_cases c2 : Str.ofString "slow, anew" = x
  · rw [if_pos c2, decide_eq_true c2]; rfl
  rw [if_neg c2, decide_eq_false c2]
  by_cases c3 : Str.ofString "at once, alike" = x
  · rw [if_pos c3, decide_eq_true c3]; rfl
  rw [if_neg c3, decide_eq_false c3]
  by_cases c4 : Str.ofString "at once, anew" = x
  · rw [if_pos c4, decide_eq_true c4]; rfl
  rw [if_neg c4, decide_eq_false c4]; rfl
theorem tbl_split (x : Str) : (Wd (Txt.split x (Str.ofString ", ")) = true ∧ valD tbl (.inr x) = some (.tup ((Txt.split x (Str.ofString ", ")).map D.str))) ∨ (Wd (Txt.split x (Str.ofString ", ")) = false ∧ valD tbl (.inr x) = none) := by
  rw [val4]
  by_cases c1 : Str.ofString "slow, alike" = x
  · subst c1
    have e : Txt.split (Str.ofString "slow, alike") (Str.ofString ", ") = [Str.ofString "slow", Str.ofString "alike"] := by decide +kernel
    rw [e, if_pos rfl]; exact .inl ⟨by decide +kernel, rfl⟩
  by_cases c2 : Str.ofString "slow, anew" = x
  · subst c2
    have e : Txt.split (Str.ofString "slow, anew") (Str.ofString ", ") = [Str.ofString "slow", Str.ofString "anew"] := by decide +kernel
    rw [e, if_neg c1, if_pos rfl]; exact .inl ⟨by decide +kernel, rfl⟩
  by_cases c3 : Str.ofString "at once, alike" = x
  · subst c3
    have e : Txt.split (Str.ofString "at once, alike") (Str.ofString ", ") = [Str.ofString "at once", Str.ofString "alike"] := by decide +kernel
    rw [e, if_neg c1, if_neg c2, if_pos rfl]; exact .inl ⟨by decide +kernel, rfl⟩
  by_cases c4 : Str.ofString "at once, anew" = x
  · subst c4
    have e : Txt.split (Str.ofString "at once, anew") (Str.ofString ", ") = [Str.ofString "at once", Str.ofString "anew"] := by decide +kernel
    rw [e, if_neg c1, if_neg c2, if_neg c3, if_pos rfl]; exact .inl ⟨by decide +kernel, rfl⟩
  refine .inr ⟨?_, by rw [if_neg c1, if_neg c2, if_neg c3, if_neg c4]⟩
  have js := StrLaws.join_split x (Str.ofString ", ")
  cases w : Wd (Txt.split x (Str.ofString ", ")) with
  | false => rfl
  | true =>
    generalize Txt.split x (Str.ofString ", ") = ys at js w
    unfold Wd at w
    split at w
    · rename_i a b
      have js2 : a ++ Str.ofString ", " ++ b = x := js
      simp only [Bool.and_eq_true, Bool.or_eq_true, beq_iff_eq] at w
      obtain ⟨rfl | rfl, rfl | rfl⟩ := w
      · exact absurd ((show Str.ofString "slow, alike" = Str.ofString "slow" ++ Str.ofString ", " ++ Str.ofString "alike" by decide +kernel).trans js2) c1
      · exact absurd ((show Str.ofString "slow, anew" = Str.ofString "slow" ++ Str.ofString ", " ++ Str.ofString "anew" by decide +kernel).trans js2) c2
      · exact absurd ((show Str.ofString "at once, alike" = Str.ofString "at once" ++ Str.ofString ", " ++ Str.ofString "alike" by decide +kernel).trans js2) c3
      · exact absurd ((show Str.ofString "at once, anew" = Str.ofString "at once" ++ Str.ofString ", " ++ Str.ofString "anew" by decide +kernel).trans js2) c4
    · cases w
theorem read_str {x : Str} (gx : Good x) (lx : x.length ≤ 5000) (h : List Ob) : ∃ S, Kp0 h S.h ∧ F_read_world [.str x] h = match valD tbl (.inr x) with
    | some w => .ok w S
    | none => .exc badX S := by
  obtain ⟨d, ed, nd⟩ := werr_ok (good_split (y := Str.ofString ", ") gx) (h ++ [.lst ((Txt.split x (Str.ofString ", ")).map D.str)])
  have l2 : x.length + 2 ≤ 1000000 := by omega
  rcases tbl_split x with ⟨w, e⟩ | ⟨w, e⟩
  · rw [w] at nd
    refine ⟨⟨[], h ++ [.lst ((Txt.split x (Str.ofString ", ")).map D.str)]⟩, Kp0.app _ _, ?_⟩
    rw [e]
    refine runB_ret (S := ⟨[some (.str x), some (.tup ((Txt.split x (Str.ofString ", ")).map D.str))], h ++ [.lst ((Txt.split x (Str.ofString ", ")).map D.str)]⟩) ?_
    simp [p_read_world, show isaB "str" "str" = some true by decide, sep_len, l2, at_new, ed, nd]
  · rw [w] at nd
    refine ⟨⟨[], h ++ [.lst ((Txt.split x (Str.ofString ", ")).map D.str)]⟩, Kp0.app _ _, ?_⟩
    rw [e]
    refine runB_exc (S := ⟨[some (.str x), some (.tup ((Txt.split x (Str.ofString ", ")).map D.str))], h ++ [.lst ((Txt.split x (Str.ofString ", ")).map D.str)]⟩) ?_
    simp [p_read_world, show isaB "str" "str" = some true by decide, sep_len, l2, at_new, ed, nd, badX]
theorem read_not {d : D} {h : List Ob} {t : String} (e : ∀ loc, tyName ⟨loc, h⟩ d = some t) (f : isaB t "str" = some false) : F_read_world [d] h = .exc badX ⟨[], h⟩ := by
  refine runB_exc (S := ⟨[some d, none], h⟩) ?_
  simp [p_read_world, e, f, badX]

theorem lenSl : (Str.ofString "slow").length = 4 := by decide +kernel
theorem lenAo : (Str.ofString "at once").length = 7 := by decide +kernel
theorem lenAl : (Str.ofString "alike").length = 5 := by decide +kernel
theorem lenAn : (Str.ofString "anew").length = 4 := by decide +kernel
theorem cat1 : Str.ofString "slow" ++ Str.ofString ", " ++ Str.ofString "alike" = Str.ofString "slow, alike" := by decide +kernel
theorem cat2 : Str.ofString "slow" ++ Str.ofString ", " ++ Str.ofString "anew" = Str.ofString "slow, anew" := by decide +kernel
theorem cat3 : Str.ofString "at once" ++ Str.ofString ", " ++ Str.ofString "alike" = Str.ofString "at once, alike" := by decide +kernel
theorem cat4 : Str.ofString "at once" ++ Str.ofString ", " ++ Str.ofString "anew" = Str.ofString "at once, anew" := by decide +kernel
theorem kne12 : ¬ (Str.ofString "slow, alike" = Str.ofString "slow, anew") := by decide +kernel
theorem kne13 : ¬ (Str.ofString "slow, alike" = Str.ofString "at once, alike") := by decide +kernel
theorem kne14 : ¬ (Str.ofString "slow, alike" = Str.ofString "at once, anew") := by decide +kernel
theorem kne23 : ¬ (Str.ofString "slow, anew" = Str.ofString "at once, alike") := by decide +kernel
theorem kne24 : ¬ (Str.ofString "slow, anew" = Str.ofString "at once, anew") := by decide +kernel
theorem kne34 : ¬ (Str.ofString "at once, alike" = Str.ofString "at once, anew") := by decide +kernel
theorem texts_ok (h : List Ob) : Ok (F_law_texts [] h) fun d S => d = .ref h.length ∧ S.h = h ++ [.dct tbl] := by
  apply ok_runB
  simp [p_law_texts, sFor, dIter, iOf, forV, lenSl, lenAo, lenAl, lenAn, sep_len, len_app, at_new, putD, hasD, cat1, cat2, cat3, cat4, kne12, kne13, kne14, kne23, kne24, kne34, gN]
  rfl
theorem heard_told {d w : D} {b : Bool} {h : List Ob} {S : DS} (e : F_read_world [d] h = .ok w S) : F_law_heard [d, .bl b] h = .ok (.ref S.h.length) ⟨[], S.h ++ [.lst [.str "told", w]]⟩ := by
  refine runB_ret (S := ⟨[some d, some (.bl b), none], S.h ++ [.lst [.str "told", w]]⟩) ?_
  unfold p_law_heard sTry1
  have pk : pick [0] [d] = [d] := rfl
  cases b <;> simp [e, pk]
theorem heard_text {d : D} {b : Bool} {h : List Ob} {S : DS} (e : F_read_world [d] h = .exc badX S) : F_law_heard [d, .bl b] h = .ok (.ref S.h.length) ⟨[], S.h ++ [.lst [.str "text", .int 0, .bl true]]⟩ := by
  refine runB_ret (S := ⟨[some d, some (.bl b), none], S.h ++ [.lst [.str "text", .int 0, .bl true]]⟩) ?_
  unfold p_law_heard sTry1
  have pk : pick [0] [d] = [d] := rfl
  cases b <;> simp [e, pk, badX, sub_BadText, sRetX, xLst, xCons, xC, xFld, xIsi, xNil, List.lookup]

def Row (x a b : Str) : Prop := (x = Str.ofString "slow, alike" ∧ a = Str.ofString "slow" ∧ b = Str.ofString "alike") ∨ (x = Str.ofString "slow, anew" ∧ a = Str.ofString "slow" ∧ b = Str.ofString "anew") ∨
  (x = Str.ofString "at once, alike" ∧ a = Str.ofString "at once" ∧ b = Str.ofString "alike") ∨ (x = Str.ofString "at once, anew" ∧ a = Str.ofString "at once" ∧ b = Str.ofString "anew")
theorem row_of {x : Str} {w : D} (h : valD tbl (.inr x) = some w) : ∃ a b, w = wS a b ∧ Row x a b := by
  rw [val4] at h
  split at h
  · rename_i c; cases h; exact ⟨_, _, rfl, .inl ⟨c.symm, rfl, rfl⟩⟩
  split at h
  · rename_i c; cases h; exact ⟨_, _, rfl, .inr (.inl ⟨c.symm, rfl, rfl⟩)⟩
  split at h
  · rename_i c; cases h; exact ⟨_, _, rfl, .inr (.inr (.inl ⟨c.symm, rfl, rfl⟩))⟩
  split at h
  · rename_i c; cases h; exact ⟨_, _, rfl, .inr (.inr (.inr ⟨c.symm, rfl, rfl⟩))⟩
  cases h
def okP (p : PyData) : Bool := (PyData.showable p && !p.hasDict && decide (p.depth ≤ 30) && decide (p.shown.length ≤ 1000000)) && SeqAt.shaped (.str p.shown)
def pT (a b : Str) : PyData := .list [.str "told", .tuple [.str a, .str b]]
def p4 (x a b : Str) : PyData := .list [.str x, .str x, .tuple [.str a, .str b], .tuple [.str a, .str b]]
def pB : PyData := .list [.str "text", .int 0, .bool true]
theorem wtext_ok {a b : Str} {h : List Ob} (l : joinOk (Str.ofString ", ") [a, b] = true) : F_world_text [wS a b] h = .ok (.str (a ++ Str.ofString ", " ++ b)) ⟨[], h⟩ := by
  refine runB_ret (S := ⟨[some (wS a b)], h⟩) ?_
  have e : strsOf [.str a, .str b] = some [a, b] := rfl
  simp [p_world_text, wS, e, l, tjoin, Str.join]
theorem row_all {x a b : Str} (r : Row x a b) : goodB x = true ∧ x.length ≤ 14 ∧ valD tbl (.inr x) = some (wS a b) ∧ joinOk (Str.ofString ", ") [a, b] = true ∧ a ++ Str.ofString ", " ++ b = x ∧ okP (pT a b) = true ∧ okP (p4 x a b) = true := by
  rw [val4]
  rcases r with ⟨rfl, rfl, rfl⟩ | ⟨rfl, rfl, rfl⟩ | ⟨rfl, rfl, rfl⟩ | ⟨rfl, rfl, rfl⟩
  · exact ⟨by decide +kernel, by decide +kernel, by rw [if_pos rfl], by decide +kernel, by decide +kernel, by decide +kernel, by decide +kernel⟩
  · exact ⟨by decide +kernel, by decide +kernel, by rw [if_neg kne12, if_pos rfl], by decide +kernel, by decide +kernel, by decide +kernel, by decide +kernel⟩
  · exact ⟨by decide +kernel, by decide +kernel, by rw [if_neg kne13, if_neg kne23, if_pos rfl], by decide +kernel, by decide +kernel, by decide +kernel, by decide +kernel⟩
  · exact ⟨by decide +kernel, by decide +kernel, by rw [if_neg kne14, if_neg kne24, if_neg kne34, if_pos rfl], by decide +kernel, by decide +kernel, by decide +kernel, by decide +kernel⟩
theorem pB_ok : okP pB = true := by decide +kernel
theorem okP_repr {S : DS} {d : D} {p : PyData} (o : okP p = true) (e : pyD S d = some p) : cRepr [d] S = .ok (.str p.shown) S := repr_of e (Bool.and_eq_true_iff.mp o).1
theorem okP_ne {S : DS} {p : PyData} (o : okP p = true) : oNe (.str p.shown) (.str p.shown) S = .ok (.bl false) S := by
  have s := (Bool.and_eq_true_iff.mp o).2
  rw [ne_str s s]; simp
theorem py_lst {S : DS} {k : Nat} {xs : List D} (h : S.h[k]? = some (.lst xs)) : pyD S (.ref k) = (xs.mapM (toPy S.h 19)).map PyData.list := by
  show (match S.h[k]? with | some (.lst xs) => (xs.mapM (toPy S.h 19)).map PyData.list | _ => none) = _
  rw [h]
theorem read_row {x a b : Str} (r : Row x a b) (h : List Ob) : ∃ S, Kp0 h S.h ∧ F_read_world [.str x] h = .ok (wS a b) S := by
  obtain ⟨g, l, v, _⟩ := row_all r
  obtain ⟨S, k, e⟩ := read_str (good_of g) (by omega) h
  rw [v] at e
  exact ⟨S, k, e⟩
theorem val_row {x a b : Str} (r : Row x a b) : valD tbl (.inr x) = some (wS a b) := (row_all r).2.2.1
end K06

namespace K06
open PySem L2 PySem.Spec PyProof.Rows Den
/-! ### G. the law -/
theorem loop1 {x a b : Str} (r : Row x a b) {s0 a4 a5 a6 a7 a8 a9 : Option D} {n t : Nat} {h : List Ob} (ht : h[t]? = some (.fdct tbl)) :
    Ok (sSeq (sAsg (dLst (dCons (dCall F_world_text (dCons (dBin oIx (dVar 2) (dVar 3)) dNil)) (dCons (dCallK F_world_text [0] dNil (dCons (dBin oIx (dVar 2) (dVar 3)) dNil)) (dCons (dCall F_read_world (dCons (dVar 3) dNil)) (dCons (dCallK F_read_world [0] dNil (dCons (dVar 3) dNil)) dNil))))) (gN 5))
      (sIf (tV (dBin oNe (dCB cRepr (dCons (dVar 5) dNil)) (dCB cRepr (dCons (dLst (dCons (dVar 3) (dCons (dVar 3) (dCons (dBin oIx (dVar 2) (dVar 3)) (dCons (dBin oIx (dVar 2) (dVar 3)) dNil))))) dNil)))) (sRet (dC (.bl false))) sNop)
      ⟨[s0, some (.ref n), some (.ref t), some (.str x), a4, a5, a6, a7, a8, a9], h⟩) fun f S2 => (f = .next ∨ f = .cont) ∧ Kp0 h S2.h ∧ ∃ d5, S2.loc = [s0, some (.ref n), some (.ref t), some (.str x), a4, d5, a6, a7, a8, a9] := by
  obtain ⟨g, l, v, j, cx, o1, o2⟩ := row_all r
  obtain ⟨S1, k1, e1⟩ := read_row r h
  obtain ⟨S2, k2, e2⟩ := read_row r S1.h
  have pk : ∀ d : D, pick [0] [d] = [d] := fun _ => rfl
  have w1 := wtext_ok (h := h) j
  rw [cx] at w1
  have t2 := k2 _ _ (k1 _ _ ht)
  have t3 := at_old (t := [Ob.lst [.str x, .str x, wS a b, wS a b]]) t2
  have c1 : ∀ loc, cRepr [.ref S2.h.length] ⟨loc, S2.h ++ [Ob.lst [.str x, .str x, wS a b, wS a b]]⟩ = .ok (.str (p4 x a b).shown) ⟨loc, S2.h ++ [Ob.lst [.str x, .str x, wS a b, wS a b]]⟩ := fun loc => okP_repr o2 (by rw [py_lst (at_new _ _)]; rfl)
  have c2 : ∀ loc, cRepr [.ref (S2.h.length + 1)] ⟨loc, S2.h ++ [Ob.lst [.str x, .str x, wS a b, wS a b], Ob.lst [.str x, .str x, wS a b, wS a b]]⟩ = .ok (.str (p4 x a b).shown) ⟨loc, S2.h ++ [Ob.lst [.str x, .str x, wS a b, wS a b], Ob.lst [.str x, .str x, wS a b, wS a b]]⟩ := fun loc => okP_repr o2 (by
    rw [py_lst (xs := [.str x, .str x, wS a b, wS a b]) (by rw [List.getElem?_append_right (by omega)]; simp)]; rfl)
  simp [ht, v, w1, pk, e1, e2, c1, t3, c2, okP_ne o2]
  exact k1.trans (k2.trans (Kp0.app _ _))

def HD (d : D) (p : PyData) (h : List Ob) : Prop := ∀ h1, Kp0 h h1 → ∀ b, ∃ k h2, F_law_heard [d, .bl b] h1 = .ok (.ref k) ⟨[], h2⟩ ∧ Kp0 h1 h2 ∧ ∀ loc h3, Kp0 h2 h3 → cRepr [.ref k] ⟨loc, h3⟩ = .ok (.str p.shown) ⟨loc, h3⟩
theorem hd_told {x a b : Str} (r : Row x a b) (h : List Ob) : HD (.str x) (pT a b) h := fun h1 _ c => by
  obtain ⟨S, k, e⟩ := read_row r h1
  refine ⟨_, _, heard_told e, k.trans (Kp0.app _ _), fun loc h3 k3 => okP_repr (row_all r).2.2.2.2.2.1 ?_⟩
  rw [py_lst (k3 _ _ (at_new S.h _))]; rfl
theorem hd_text {d : D} {h : List Ob} (e : ∀ h1, Kp0 h h1 → ∃ S, F_read_world [d] h1 = .exc badX S ∧ Kp0 h1 S.h) : HD d pB h := fun h1 k1 c => by
  obtain ⟨S, e, k⟩ := e h1 k1
  refine ⟨_, _, heard_text e, k.trans (Kp0.app _ _), fun loc h3 k3 => okP_repr pB_ok ?_⟩
  rw [py_lst (k3 _ _ (at_new S.h _))]; rfl
def tailF : DSt := sIf (tOrD (tV (dBin oNe (dCB cRepr (dCons (dCall F_law_heard (dCons (dVar 7) (dCons (dBin oEq (dBin oMod (dVar 4) (dC (.int 5))) (dC (.int 2))) dNil))) dNil)) (dCB cRepr (dCons (dVar 9) dNil)))) (tV (dBin oNe (dCB cRepr (dCons (dCall F_law_heard (dCons (dVar 7) (dCons (dC (.bl false)) dNil))) dNil)) (dCB cRepr (dCons (dVar 9) dNil))))) (sRet (dC (.bl false))) sNop
theorem tailF_ok {s0 a1 a2 a3 a5 a6 a8 : Option D} {i : Int} {d : D} {p : PyData} {k9 : Nat} {ds : List D} {h : List Ob} (hd : HD d p h) (o : okP p = true) (h9 : h[k9]? = some (.lst ds)) (py : ∀ h, (ds.mapM (toPy h 19)).map PyData.list = some p) :
    Ok (tailF ⟨[s0, a1, a2, a3, some (.int i), a5, a6, some d, a8, some (.ref k9)], h⟩) fun f S2 => f = .next ∧ Kp0 h S2.h ∧ S2.loc = [s0, a1, a2, a3, some (.int i), a5, a6, some d, a8, some (.ref k9)] := by
  obtain ⟨k, h2, e, kp, c⟩ := hd h (Kp0.refl _) (i % 5 == 2)
  obtain ⟨k', h2', e', kp', c'⟩ := hd h2 kp false
  have g : ∀ loc h3, Kp0 h h3 → cRepr [.ref k9] ⟨loc, h3⟩ = .ok (.str p.shown) ⟨loc, h3⟩ := fun loc h3 k3 => okP_repr o (by rw [py_lst (k3 _ _ h9)]; exact py _)
  simp [tailF, e, c _ _ (Kp0.refl _), g _ _ kp, okP_ne o, e', c' _ _ (Kp0.refl _), g _ _ (kp.trans kp')]
  exact kp.trans kp'
theorem in_tbl {S : DS} {t : Nat} {x : Str} (ht : S.h[t]? = some (.dct tbl)) : oIn (.str x) (.ref t) S = .ok (.bl (valD tbl (.inr x)).isSome) S := by
  unfold oIn inD
  dsimp only
  rw [ht]
  rfl
def tailE : DSt := sSeq (sAsg (dAnd (dCB cIsi (dCons (dVar 7) (dCons (dC (.ty "str")) dNil))) (dBin oIn (dVar 7) (dVar 2))) (gN 8))
  (sSeq (sAsg (dIf (tV (dVar 8)) (dLst (dCons (dC (.str "told")) (dCons (dBin oIx (dVar 2) (dVar 7)) dNil))) (dLst (dCons (dC (.str "text")) (dCons (dC (.int 0)) (dCons (dC (.bl true)) dNil))))) (gN 9)) tailF)
/-- what is handed to read_world -/
inductive Vl (n m : Nat) (h : List Ob) : D → Prop
  | str {x : Str} : Good x → x.length ≤ 5000 → Vl n m h (.str x)
  | non : Vl n m h .non
  | int (i : Int) : Vl n m h (.int i)
  | bl (b : Bool) : Vl n m h (.bl b)
  | tup (xs : List D) : Vl n m h (.tup xs)
  | ref {k : Nat} {ob : Ob} : k ≠ n → k ≠ m → h[k]? = some ob → Vl n m h (.ref k)
theorem Vl.mono {n m : Nat} {h h' : List Ob} {d : D} (v : Vl n m h d) (k : Kp n m h h') : Vl n m h' d := by
  cases v with
  | str g l => exact .str g l
  | non => exact .non
  | int i => exact .int i
  | bl b => exact .bl b
  | tup xs => exact .tup xs
  | ref h1 h2 e => exact .ref h1 h2 (k _ _ h1 h2 e)
theorem Vl.ty {n m : Nat} {h : List Ob} {d : D} (v : Vl n m h d) : (∃ x, d = .str x ∧ Good x ∧ x.length ≤ 5000) ∨ ∃ t, isaB t "str" = some false ∧ ∀ loc h', Kp0 h h' → tyName ⟨loc, h'⟩ d = some t := by
  cases v with
  | str g l => exact .inl ⟨_, rfl, g, l⟩
  | non => exact .inr ⟨"NoneType", by decide, fun _ _ _ => rfl⟩
  | int i => exact .inr ⟨"int", by decide, fun _ _ _ => rfl⟩
  | bl b => exact .inr ⟨"bool", by decide, fun _ _ _ => rfl⟩
  | tup xs => exact .inr ⟨"tuple", by decide, fun _ _ _ => rfl⟩
  | @ref k ob h1 h2 e =>
    cases ob with
    | lst xs => exact .inr ⟨"list", by decide, fun loc h' kk => by rw [z_tyR]; dsimp only; rw [kk _ _ e]⟩
    | dct xs => exact .inr ⟨"dict", by decide, fun loc h' kk => by rw [z_tyR]; dsimp only; rw [kk _ _ e]⟩
    | fdct xs => exact .inr ⟨"dict", by decide, fun loc h' kk => by rw [z_tyR]; dsimp only; rw [kk _ _ e]⟩
theorem tailE_ok {s0 a1 a3 a5 a6 a8 a9 : Option D} {i : Int} {d : D} {n m t : Nat} {h : List Ob} (v : Vl n m h d) (ht : h[t]? = some (.dct tbl)) :
    Ok (tailE ⟨[s0, a1, some (.ref t), a3, some (.int i), a5, a6, some d, a8, a9], h⟩) fun f S2 => f = .next ∧ Kp0 h S2.h ∧ ∃ b8 b9, S2.loc = [s0, a1, some (.ref t), a3, some (.int i), a5, a6, some d, b8, b9] := by
  have fin : ∀ {ds : List D} {p : PyData} {b8 : D}, HD d p h → okP p = true → (∀ h, (ds.mapM (toPy h 19)).map PyData.list = some p) →
      Ok (tailF ⟨[s0, a1, some (.ref t), a3, some (.int i), a5, a6, some d, some b8, some (.ref h.length)], h ++ [.lst ds]⟩) fun f S2 => f = .next ∧ Kp0 h S2.h ∧ ∃ b8 b9, S2.loc = [s0, a1, some (.ref t), a3, some (.int i), a5, a6, some d, b8, b9] := fun hd o py => by
    obtain ⟨f, S, e, rfl, k, l⟩ := (tailF_ok (fun h1 k1 => hd h1 ((Kp0.app _ _).trans k1)) o (at_new h _) py).ex
    rw [e]
    exact ⟨rfl, (Kp0.app _ _).trans k, _, _, l⟩
  rcases v.ty with ⟨x, rfl, gx, lx⟩ | ⟨ty, f, e⟩
  · have it : ∀ loc, oIn (.str x) (.ref t) ⟨loc, h⟩ = .ok (.bl (valD tbl (.inr x)).isSome) ⟨loc, h⟩ := fun loc => in_tbl ht
    cases q : valD tbl (.inr x) with
    | some w =>
      obtain ⟨a, b, rfl, r⟩ := row_of q
      simp [tailE, show isaB "str" "str" = some true by decide, it, q, ht]
      exact fin (hd_told r h) (row_all r).2.2.2.2.2.1 fun _ => rfl
    | none =>
      simp [tailE, show isaB "str" "str" = some true by decide, it, q, ht]
      refine fin (hd_text fun h1 _ => ?_) pB_ok fun _ => rfl
      obtain ⟨S, k, e⟩ := read_str gx lx h1
      rw [q] at e
      exact ⟨S, e, k⟩
  · simp [tailE, e _ _ (Kp0.refl _), f]
    exact fin (hd_text fun h1 k1 => ⟨_, read_not (fun loc => e loc h1 k1) f, Kp0.refl _⟩) pB_ok fun _ => rfl

def restB : DSt := (sSeq (sIf (tV (dBin oEq (dCall F_law_draw (dCons (dVar 1) (dCons (dC (.int 5)) dNil))) (dC (.int 0)))) (sAsg (dCall F_law_pick (dCons (dVar 1) (dCons (dCB cList (dCons (dVar 2) dNil)) dNil))) (gN 7)) sNop) tailE)
def bodyB : DSt := (sSeq (sAsg (dCall F_law_pick (dCons (dVar 1) (dCons (dCB cList (dCons (dVar 2) dNil)) dNil))) (gN 3))
  (sSeq (sAsg (dLst (dCons (dC .non) (dCons (dC (.int 0)) (dCons (dC (.bl true)) (dCons (dLst dNil) (dCons dNew0 (dCons (dBin oIx (dVar 2) (dVar 3)) (dCons (dTup (dCons (dVar 3) dNil)) (dCons (dC (.str "")) (dCons (dC (.str "slow")) (dCons (dC (.str "slow,alike")) (dCons (dC (.str "slow, alike, anew")) (dCons (dBin oMulA (dC (.str " ")) (dC (.int 4000))) dNil))))))))))))) (gN 6))
  (sSeq (sAsg (dIf (tV (dBin oGt (dCall F_law_draw (dCons (dVar 1) (dCons (dC (.int 3)) dNil))) (dC (.int 0)))) (dCall F_law_spoilt (dCons (dVar 1) (dCons (dVar 3) dNil))) (dCall F_law_pick (dCons (dVar 1) (dCons (dVar 6) dNil)))) (gN 7))
  restB)))
def keys : List D := [.str "slow, alike", .str "slow, anew", .str "at once, alike", .str "at once, anew"]
theorem keys_eq : tbl.map (fun kv => keyD kv.1) = keys := rfl
theorem keys_row {d : D} (h : d ∈ keys) : ∃ x a b, d = .str x ∧ Row x a b := by
  unfold keys at h
  simp only [List.mem_cons, List.not_mem_nil, or_false] at h
  rcases h with rfl | rfl | rfl | rfl
  · exact ⟨_, _, _, rfl, .inl ⟨rfl, rfl, rfl⟩⟩
  · exact ⟨_, _, _, rfl, .inr (.inl ⟨rfl, rfl, rfl⟩)⟩
  · exact ⟨_, _, _, rfl, .inr (.inr (.inl ⟨rfl, rfl, rfl⟩))⟩
  · exact ⟨_, _, _, rfl, .inr (.inr (.inr ⟨rfl, rfl, rfl⟩))⟩
/-- a key of the table is drawn -/
theorem key_ok {h : List Ob} {n m t : Nat} (dk : Deck h n m) (ht : h[t]? = some (.dct tbl)) : Ok (F_law_pick [.ref n, .ref h.length] (h ++ [.lst keys])) fun d S => ∃ x a b, d = .str x ∧ Row x a b ∧ Deck S.h n m ∧ Kp n m h S.h := by
  have nm : h.length ≠ m := by
    obtain ⟨_, _, _, _, hm, _⟩ := dk
    have := lt_of_at hm
    omega
  obtain ⟨d, S, e, hd, D1, k1⟩ := (pick_ok (dk.keep (Kp0.app _ _)) (at_new h (.lst keys)) nm (by decide) (by decide)).ex
  rw [e]
  obtain ⟨x, a, b, rfl, r⟩ := keys_row hd
  exact ⟨x, a, b, rfl, r, D1, ((Kp0.app _ _).kp n m).trans k1⟩
theorem restB_ok {s0 a3 a5 a6 a8 a9 : Option D} {i : Int} {d : D} {n m t : Nat} {h : List Ob} (dk : Deck h n m) (v : Vl n m h d) (ht : h[t]? = some (.dct tbl)) (tn : t ≠ n) (tm : t ≠ m) :
    Ok (restB ⟨[s0, some (.ref n), some (.ref t), a3, some (.int i), a5, a6, some d, a8, a9], h⟩) fun f S2 => f = .next ∧ Deck S2.h n m ∧ S2.h[t]? = some (.dct tbl) ∧ ∃ b7 b8 b9, S2.loc = [s0, some (.ref n), some (.ref t), a3, some (.int i), a5, a6, b7, b8, b9] := by
  obtain ⟨d5, S5, e5, r5, rfl, _, _, D5, k5⟩ := (draw_ok dk (many := 5) (by omega) (by omega)).ex
  have ht5 := k5 _ _ tn tm ht
  by_cases z : r5 = 0
  · obtain ⟨d6, S6, e6, x, a, b, rfl, r, D6, k6⟩ := (key_ok D5 ht5).ex
    have ht6 := k6 _ _ tn tm ht5
    simp [restB, e5, z, ht5, keys_eq, e6]
    obtain ⟨f, S7, e7, rfl, k7, b8, b9, l⟩ := (tailE_ok (s0 := s0) (a1 := some (.ref n)) (a3 := a3) (a5 := a5) (a6 := a6) (a8 := a8) (a9 := a9) (i := i) (.str (n := n) (m := m) (good_of (row_all r).1) (by have := (row_all r).2.1; omega)) ht6).ex
    rw [e7]
    exact ⟨rfl, D6.keep k7, k7 _ _ ht6, _, _, _, l⟩
  · simp [restB, e5, z]
    obtain ⟨f, S7, e7, rfl, k7, b8, b9, l⟩ := (tailE_ok (s0 := s0) (a1 := some (.ref n)) (a3 := a3) (a5 := a5) (a6 := a6) (a8 := a8) (a9 := a9) (i := i) (v.mono k5) ht5).ex
    rw [e7]
    exact ⟨rfl, D5.keep k7, k7 _ _ ht5, _, _, _, l⟩
theorem lenSp : (Str.ofString " ").length = 1 := by decide +kernel
theorem sp4_len : (repS (Str.ofString " ") 4000).length ≤ 5000 := by decide +kernel
theorem sp4_good : Good (repS (Str.ofString " ") 4000) := good_of (by decide +kernel)
theorem bodyB_ok {s0 a3 a5 a6 a7 a8 a9 : Option D} {i : Int} {n m t : Nat} {h : List Ob} (dk : Deck h n m) (ht : h[t]? = some (.dct tbl)) (tn : t ≠ n) (tm : t ≠ m) :
    Ok (bodyB ⟨[s0, some (.ref n), some (.ref t), a3, some (.int i), a5, a6, a7, a8, a9], h⟩) fun f S2 => f = .next ∧ Deck S2.h n m ∧ S2.h[t]? = some (.dct tbl) ∧ ∃ b3 b6 b7 b8 b9, S2.loc = [s0, some (.ref n), some (.ref t), b3, some (.int i), a5, b6, b7, b8, b9] := by
  obtain ⟨d1, S1, e1, x, a, b, rfl, r, D1, k1⟩ := (key_ok dk ht).ex
  have ht1 := k1 _ _ tn tm ht
  have ln1 : ∀ j, S1.h.length + j ≠ m ∧ S1.h.length + j ≠ n := fun j => by
    obtain ⟨_, _, _, hn, hm, _⟩ := D1
    have := lt_of_at hm
    have := lt_of_at hn
    omega
  have sp4 : (repS (Str.ofString " ") 4000).length ≤ 1000000 := Nat.le_trans sp4_len (by decide)
  have ht2 : (S1.h ++ [Ob.lst [], Ob.dct []])[t]? = some (.dct tbl) := at_old ht1
  let odd : List D := [.non, .int 0, .bl true, .ref S1.h.length, .ref (S1.h.length + 1), wS a b, .tup [.str x], .str "", .str "slow", .str "slow,alike", .str "slow, alike, anew", .str (repS (Str.ofString " ") 4000)]
  have D2 : Deck (S1.h ++ [Ob.lst [], Ob.dct [], Ob.lst odd]) n m := D1.keep (Kp0.app _ _)
  obtain ⟨d3, S3, e3, r3, rfl, _, _, D3, k3⟩ := (draw_ok D2 (many := 3) (by omega) (by omega)).ex
  -- the value
  have val : Ok ((if 0 < r3 then F_law_spoilt [.ref n, .str x] S3.h else F_law_pick [.ref n, .ref (S1.h.length + 2)] S3.h)) fun d S => Vl n m S.h d ∧ Deck S.h n m ∧ Kp n m S3.h S.h := by
    split
    · obtain ⟨d, S, e, z, rfl, g, l, D4, k4⟩ := (spoilt_ok D3 (good_of (row_all r).1) (by have := (row_all r).2.1; omega)).ex
      rw [e]
      exact ⟨.str g (by omega), D4, k4⟩
    · have ho : S3.h[S1.h.length + 2]? = some (.lst odd) := k3 _ _ (ln1 2).2 (ln1 2).1 (by rw [List.getElem?_append_right (by omega)]; simp)
      have h0 : S3.h[S1.h.length]? = some (.lst []) := k3 _ _ (ln1 0).2 (ln1 0).1 (by rw [List.getElem?_append_right (by omega)]; simp)
      have h1 : S3.h[S1.h.length + 1]? = some (.dct []) := k3 _ _ (ln1 1).2 (ln1 1).1 (by rw [List.getElem?_append_right (by omega)]; simp)
      obtain ⟨d, S, e, hd, D4, k4⟩ := (pick_ok D3 ho (ln1 2).1 (by show 1 ≤ 12; omega) (by show 12 < 1000000; omega)).ex
      rw [e]
      refine ⟨Vl.mono ?_ k4, D4, k4⟩
      simp only [odd, List.mem_cons, List.not_mem_nil, or_false] at hd
      rcases hd with rfl | rfl | rfl | rfl | rfl | rfl | rfl | rfl | rfl | rfl | rfl | rfl
      · exact .non
      · exact .int _
      · exact .bl _
      · exact .ref (ln1 0).2 (ln1 0).1 h0
      · exact .ref (ln1 1).2 (ln1 1).1 h1
      · exact .tup _
      · exact .tup _
      · exact .str (good_of (by decide +kernel)) (by decide +kernel)
      · exact .str (good_of (by decide +kernel)) (by decide +kernel)
      · exact .str (good_of (by decide +kernel)) (by decide +kernel)
      · exact .str (good_of (by decide +kernel)) (by decide +kernel)
      · exact .str sp4_good sp4_len
  have ht3 : S3.h[t]? = some (.dct tbl) := k3 _ _ tn tm (at_old ht1)
  have fin : ∀ {d : D} {S4 : DS} {a3 a6 : Option D}, Vl n m S4.h d → Deck S4.h n m → Kp n m S3.h S4.h → Ok (restB ⟨[s0, some (.ref n), some (.ref t), a3, some (.int i), a5, a6, some d, a8, a9], S4.h⟩) fun f S2 => f = .next ∧ Deck S2.h n m ∧ S2.h[t]? = some (.dct tbl) ∧ ∃ b3 b6 b7 b8 b9, S2.loc = [s0, some (.ref n), some (.ref t), b3, some (.int i), a5, b6, b7, b8, b9] := fun v D4 k4 => by
    obtain ⟨f, S7, e7, rfl, D7, ht7, b7, b8, b9, l⟩ := (restB_ok D4 v (k4 _ _ tn tm ht3) tn tm).ex
    rw [e7]
    exact ⟨rfl, D7, ht7, _, _, _, _, _, l⟩
  simp [bodyB, ht, keys_eq, e1, at_new, ht1, ht2, val_row r, lenSp, sp4, e3, odd]
  by_cases z : 0 < r3
  · rw [if_pos z] at val
    obtain ⟨d, S4, e4, v, D4, k4⟩ := val.ex
    simp [z, e4]
    simpa using fin v D4 k4
  · rw [if_neg z] at val
    obtain ⟨d, S4, e4, v, D4, k4⟩ := val.ex
    simp [z, e4]
    simpa using fin v D4 k4
theorem deck_ne {h : List Ob} {n m t : Nat} (dk : Deck h n m) (ht : h[t]? = some (.dct tbl)) : t ≠ n ∧ t ≠ m := by
  obtain ⟨_, s, xs, hn, hm, _⟩ := dk
  constructor
  · rintro rfl
    rw [hn] at ht
    have := congrArg (fun o => match o with | some (Ob.dct l) => l.length | _ => 0) ht
    cases this
  · rintro rfl
    rw [hm] at ht
    cases ht
theorem holds : ∀ ns : List Int, ns.length ≤ 63 → ∃ S', F_law [.ro (ns.map D.int)] [] = .ok (.bl true) S' := by
  intro ns hl
  have go : Ok (F_law [.ro (ns.map D.int)] []) fun d _ => d = .bl true := by
    apply ok_runB
    obtain ⟨d1, S1, e1, n, m, rfl, D1, k1⟩ := (deck_ok hl []).ex
    obtain ⟨d2, S2, e2, rfl, h2⟩ := (texts_ok S1.h).ex
    have D2 : Deck S2.h n m := by rw [h2]; exact D1.keep (Kp0.app _ _)
    have ht : S2.h[S1.h.length]? = some (.dct tbl) := by rw [h2]; exact at_new _ _
    obtain ⟨tn, tm⟩ := deck_ne D2 ht
    simp [p_law, e1, e2]
    apply ok_sForK (S := ⟨[some (.ro (ns.map D.int)), some (.ref n), some (.ref S1.h.length), none, none, none, none, none, none, none], S2.h⟩) (kvs := tbl) (fun S => ∃ a3 a5, S.loc = [some (.ro (ns.map D.int)), some (.ref n), some (.ref S1.h.length), a3, none, a5, none, none, none, none] ∧ Kp0 (S2.h.set S1.h.length (.fdct tbl)) S.h) rfl ht
    · exact ⟨none, none, rfl, Kp0.refl _⟩
    · rintro d hd ⟨loc, h⟩ ⟨a3, a5, rfl, k⟩
      rw [keys_eq] at hd
      obtain ⟨x, a, b, rfl, r⟩ := keys_row hd
      refine ⟨_, rfl, ?_⟩
      obtain ⟨f, S3, e3, hf, k3, d5, l⟩ := (loop1 r (s0 := some (.ro (ns.map D.int))) (a4 := none) (a5 := a5) (a6 := none) (a7 := none) (a8 := none) (a9 := none) (n := n) (h := h) (k _ _ (List.getElem?_set_self (lt_of_at ht)))).ex
      have e3' := e3
      dsimp only [gN, List.set]
      rw [e3']
      exact ⟨hf, _, _, l, k.trans k3⟩
    · rintro ⟨loc, h⟩ ⟨a3, a5, _, k⟩
      exact ⟨_, k _ _ (List.getElem?_set_self (lt_of_at ht))⟩
    · rintro ⟨loc, h⟩ ⟨a3, a5, rfl, k⟩
      dsimp only at k ⊢
      have lt := lt_of_at ht
      have kh : ∀ j ob, j ≠ S1.h.length → S2.h[j]? = some ob → (h.set S1.h.length (.dct tbl))[j]? = some ob := fun j ob nj e => by
        rw [List.getElem?_set_ne (Ne.symm nj)]
        exact k _ _ (by rw [List.getElem?_set_ne (Ne.symm nj)]; exact e)
      have D3 : Deck (h.set S1.h.length (.dct tbl)) n m := by
        obtain ⟨ne, s, xs, hn, hm, r⟩ := D2
        exact ⟨ne, s, xs, kh _ _ (Ne.symm tn) hn, kh _ _ (Ne.symm tm) hm, r⟩
      have ht3 : (h.set S1.h.length (.dct tbl))[S1.h.length]? = some (.dct tbl) := List.getElem?_set_self (lt_of_at (k _ _ (List.getElem?_set_self lt)))
      apply ok_sForV (rng_one 24 (by decide) _) fun S => ∃ b3 b4 b5 b6 b7 b8 b9, S.loc = [some (.ro (ns.map D.int)), some (.ref n), some (.ref S1.h.length), b3, b4, b5, b6, b7, b8, b9] ∧ Deck S.h n m ∧ S.h[S1.h.length]? = some (.dct tbl)
      · exact ⟨_, _, _, _, _, _, _, rfl, D3, ht3⟩
      · rintro d hd ⟨loc, h⟩ ⟨b3, b4, b5, b6, b7, b8, b9, rfl, D4, ht4⟩
        obtain ⟨i, rfl, _, _⟩ := mem_rgD hd
        refine ⟨_, rfl, ?_⟩
        obtain ⟨f, S5, e5, rfl, D5, ht5, c3, c6, c7, c8, c9, l⟩ := (bodyB_ok (s0 := some (.ro (ns.map D.int))) (a3 := b3) (a5 := b5) (a6 := b6) (a7 := b7) (a8 := b8) (a9 := b9) (i := i) D4 ht4 tn tm).ex
        have e5' := e5
        unfold bodyB restB tailE tailF at e5'
        dsimp only [gN, List.set]
        rw [e5']
        exact ⟨.inl rfl, _, _, _, _, _, _, _, l, D5, ht5⟩
      · rintro S ⟨_, _, _, _, _, _, _, _, _, _⟩
        simp
  obtain ⟨d, S, e, rfl⟩ := go.ex
  exact ⟨S, e⟩
end K06

namespace K06
open PySem L2 PySem.Spec PyProof.Rows Den
/-! ### C. the text by places -/
def top (i : Nat) : Stmt := PySem.Challenge.pw_stillrounds_k06_texts_of_worlds.main.body.getD i (.Pass ⟨0, 0, 0, 0⟩)
abbrev s_is_tuple_of : Stmt := top 4
abbrev s_world_error : Stmt := top 8
abbrev s_world_text : Stmt := top 10
abbrev s_read_world : Stmt := top 11
abbrev s_law_deck : Stmt := top 13
abbrev s_law_draw : Stmt := top 14
abbrev s_law_pick : Stmt := top 15
abbrev s_law_texts : Stmt := top 16
abbrev s_law_heard : Stmt := top 17
abbrev s_law_spoilt : Stmt := top 18
abbrev s_law : Stmt := top 19
abbrev s_init_BadText : Stmt := inClass (top 2) 0
/-! ### D. what is known of the module -/
structure Txt (K : PySem.W.Frag) (mg : Str → Option Value) (cm : Str → Value) where
  a_is_tuple_of : Addr
  fd_is_tuple_of : FuncData
  F_is_tuple_of : Fun K "is_tuple_of" "is_tuple_of" s_is_tuple_of a_is_tuple_of fd_is_tuple_of
  m_is_tuple_of : mg "is_tuple_of" = some (.ref a_is_tuple_of)
  a_world_error : Addr
  fd_world_error : FuncData
  F_world_error : Fun K "world_error" "world_error" s_world_error a_world_error fd_world_error
  m_world_error : mg "world_error" = some (.ref a_world_error)
  a_world_text : Addr
  fd_world_text : FuncData
  F_world_text : Fun K "world_text" "world_text" s_world_text a_world_text fd_world_text
  m_world_text : mg "world_text" = some (.ref a_world_text)
  a_read_world : Addr
  fd_read_world : FuncData
  F_read_world : Fun K "read_world" "read_world" s_read_world a_read_world fd_read_world
  m_read_world : mg "read_world" = some (.ref a_read_world)
  a_law_deck : Addr
  fd_law_deck : FuncData
  F_law_deck : Fun K "_law_deck" "_law_deck" s_law_deck a_law_deck fd_law_deck
  m_law_deck : mg "_law_deck" = some (.ref a_law_deck)
  a_law_draw : Addr
  fd_law_draw : FuncData
  F_law_draw : Fun K "_law_draw" "_law_draw" s_law_draw a_law_draw fd_law_draw
  m_law_draw : mg "_law_draw" = some (.ref a_law_draw)
  a_law_pick : Addr
  fd_law_pick : FuncData
  F_law_pick : Fun K "_law_pick" "_law_pick" s_law_pick a_law_pick fd_law_pick
  m_law_pick : mg "_law_pick" = some (.ref a_law_pick)
  a_law_texts : Addr
  fd_law_texts : FuncData
  F_law_texts : Fun K "_law_texts" "_law_texts" s_law_texts a_law_texts fd_law_texts
  m_law_texts : mg "_law_texts" = some (.ref a_law_texts)
  a_law_heard : Addr
  fd_law_heard : FuncData
  F_law_heard : Fun K "_law_heard" "_law_heard" s_law_heard a_law_heard fd_law_heard
  m_law_heard : mg "_law_heard" = some (.ref a_law_heard)
  a_law_spoilt : Addr
  fd_law_spoilt : FuncData
  F_law_spoilt : Fun K "_law_spoilt" "_law_spoilt" s_law_spoilt a_law_spoilt fd_law_spoilt
  m_law_spoilt : mg "_law_spoilt" = some (.ref a_law_spoilt)
  a_law : Addr
  fd_law : FuncData
  F_law : Fun K "law" "law" s_law a_law fd_law
  m_law : mg "law" = some (.ref a_law)
  z_abs : mg "abs" = none
  z_int : mg "int" = none
  z_isinstance : mg "isinstance" = none
  z_len : mg "len" = none
  z_list : mg "list" = none
  z_range : mg "range" = none
  z_repr : mg "repr" = none
  z_str : mg "str" = none
  z_tuple : mg "tuple" = none
  a_ROADS : Addr
  m_ROADS : mg "ROADS" = some (.ref a_ROADS)
  r_ROADS : ∀ L H, Rep K cm L H g_ROADS (.ref a_ROADS)
  a_TOURS : Addr
  m_TOURS : mg "TOURS" = some (.ref a_TOURS)
  r_TOURS : ∀ L H, Rep K cm L H g_TOURS (.ref a_TOURS)
  a_BadText : Addr
  m_BadText : mg "BadText" = some (.ref a_BadText)
  a_StillError : Addr
  m_StillError : mg "StillError" = some (.ref a_StillError)
  cm_BadText : cm "BadText" = .ref a_BadText
  su_BadText : ∀ m r, sub_BadText m = some r → PySem.W.exmOne K (cm m) (.ref a_BadText) = some r
  ic_BadText : IsC K a_BadText
  fI_BadText : Addr
  fdI_BadText : FuncData
  FI_BadText : Fun K "__init__" "BadText.__init__" s_init_BadText fI_BadText fdI_BadText
  ox_BadText : OexC K a_BadText
  no_BadText : PySem.W.findIn K (.ref a_BadText) "line" = some none
  in_BadText : PySem.W.findIn K (.ref a_BadText) "__init__" = some (some (.ref fI_BadText))
  it_BadText : PySem.W.typeIn K (.ref fI_BadText) = some (.type "function")
  xf_BadText : XfC K a_BadText
  kit_BadText_StillError : PySem.W.kitOne K (.ref a_BadText) (.ref a_StillError) = some true
section
variable {P : Program} {w : World} {K : PySem.W.Frag} {mg : Str → Option Value} {base : Heap} {cm : Str → Value}
theorem pick_len_1_0 (l : List D) (h : l.length = 1) : (pick [0] l).length = 1 := match l, h with | [a], _ => rfl
theorem sc_init_BadText : FnScope ["self", "line"] ["self", "line"] (defScope s_init_BadText) := ⟨rfl, rfl, rfl, by decide +kernel, rfl, by decide +kernel, by decide +kernel⟩
theorem bd_init_BadText (T : Txt K mg cm) : Binds K T.fdI_BadText ["self", "line"] [] := T.FI_BadText.binds fun _ _ _ _ _ _ us hl => match us, hl with | [_, _], _ => rfl
theorem ok_init_BadText (T : Txt K mg cm) : FnOk P w K mg base (L2.CX P w) 1 T.fI_BadText T.fdI_BadText ["self", "line"] (spI K T.a_BadText "line") := T.FI_BadText.okX sc_init_BadText spI_len fun cdv A outer s H vs Q E hr h => by
  obtain ⟨a, v, rfl, T1, hno, ea, q⟩ := h
  exact ⟨_, pss_one (ps_ost (pv 0) (pv 1)), v, rfl, .ref a, rfl, a, _, rfl, T1, hno, .inl ⟨ea, q⟩⟩
theorem sc_is_tuple_of : FnScope ["value", "many"] ["value", "many"] (defScope s_is_tuple_of) := ⟨rfl, rfl, rfl, by decide +kernel, rfl, by decide +kernel, by decide +kernel⟩
theorem bd_is_tuple_of (T : Txt K mg cm) : Binds K T.fd_is_tuple_of ["value", "many"] [] := T.F_is_tuple_of.binds fun _ _ _ _ _ _ us hl => match us, hl with | [_, _], _ => rfl
theorem ok_is_tuple_of (T : Txt K mg cm) : FnG P w K mg base 1 T.a_is_tuple_of T.fd_is_tuple_of ["value", "many"] (spD K cm 2 F_is_tuple_of) := FnG.of T.F_is_tuple_of sc_is_tuple_of fun cdv A fr s H E hr hg =>
  (ss_one (s_ret (e_and (e_cb call_isi co_isi (by rfl) T.z_isinstance rfl (a_cons (e_var 0) (a_cons (e_ty (by rfl) T.z_tuple rfl) a_nil))) (e_and1 (c_eq hr (e_cb call_len_any co_len (by rfl) T.z_len rfl (a_cons (e_var 0) a_nil)) (e_var 1))))))
theorem sc_world_error : FnScope ["value"] ["value"] (defScope s_world_error) := ⟨rfl, rfl, rfl, by decide +kernel, rfl, by decide +kernel, by decide +kernel⟩
theorem bd_world_error (T : Txt K mg cm) : Binds K T.fd_world_error ["value"] [] := T.F_world_error.binds fun _ _ _ _ _ _ us hl => match us, hl with | [_], _ => rfl
theorem ok_world_error (T : Txt K mg cm) : FnG P w K mg base 2 T.a_world_error T.fd_world_error ["value"] (spD K cm 1 F_world_error) := FnG.of T.F_world_error sc_world_error fun cdv A fr s H E hr hg =>
  (ss_cons (s_if (t_not (t_val (e_call (ok_is_tuple_of T) (hr.mono (by decide)) hg (takes_of rfl rfl rfl rfl) (by rfl) T.m_is_tuple_of T.F_is_tuple_of.kp (bd_is_tuple_of T) (a_cons (e_var 0) (a_cons e_int a_nil)) (cnt_cons (cnt_cons cnt_nil))))) (ss_one (s_ret e_str)) ss_nil)
    (ss_cons (s_if (t_nin hr (e_ixR hr (e_var 0) e_int) (e_glob (v := (.ref T.a_ROADS)) (by rfl) T.m_ROADS rfl T.r_ROADS)) (ss_one (s_ret e_str)) ss_nil)
    (ss_one (s_ret (e_if (t_in hr (e_ixR hr (e_var 0) e_int) (e_glob (v := (.ref T.a_TOURS)) (by rfl) T.m_TOURS rfl T.r_TOURS)) e_non e_str)))))
theorem sc_world_text : FnScope ["world"] ["world"] (defScope s_world_text) := ⟨rfl, rfl, rfl, by decide +kernel, rfl, by decide +kernel, by decide +kernel⟩
theorem bd_world_text (T : Txt K mg cm) : Binds K T.fd_world_text ["world"] [] := T.F_world_text.binds fun _ _ _ _ _ _ us hl => match us, hl with | [_], _ => rfl
theorem kb_world_text_0_world (T : Txt K mg cm) : KB T.fd_world_text ["world"] 0 ["world"] [0] := kb_of T.F_world_text fun _ _ _ _ _ _ us ws h1 h2 => match us, ws, h1, h2 with | [], [_], _, _ => rfl
theorem ok_world_text (T : Txt K mg cm) : FnG P w K mg base 1 T.a_world_text T.fd_world_text ["world"] (spD K cm 1 F_world_text) := FnG.of T.F_world_text sc_world_text fun cdv A fr s H E hr hg =>
  (ss_one (s_ret (e_mtS PySem.F.slot_str_join PySem.F.type_str_join mt_join mo_join e_str (e_var 0))))
theorem sc_read_world : FnScope ["value", "world"] ["value"] (defScope s_read_world) := ⟨rfl, rfl, rfl, by decide +kernel, rfl, by decide +kernel, by decide +kernel⟩
theorem bd_read_world (T : Txt K mg cm) : Binds K T.fd_read_world ["value"] [] := T.F_read_world.binds fun _ _ _ _ _ _ us hl => match us, hl with | [_], _ => rfl
theorem kb_read_world_0_value (T : Txt K mg cm) : KB T.fd_read_world ["value"] 0 ["value"] [0] := kb_of T.F_read_world fun _ _ _ _ _ _ us ws h1 h2 => match us, ws, h1, h2 with | [], [_], _, _ => rfl
theorem ok_read_world (T : Txt K mg cm) : FnG P w K mg base 3 T.a_read_world T.fd_read_world ["value"] (spD K cm 1 F_read_world) := FnG.of T.F_read_world sc_read_world fun cdv A fr s H E hr hg =>
  (ss_cons (s_if (t_not (t_val (e_cb call_isi co_isi (by rfl) T.z_isinstance rfl (a_cons (e_var 0) (a_cons (e_ty (by rfl) T.z_str rfl) a_nil))))) (ss_one (s_raise1 rfl (takes_of rfl rfl rfl rfl) T.ox_BadText T.no_BadText T.cm_BadText T.in_BadText T.it_BadText (ok_init_BadText T) (hr.mono (by decide)) (bd_init_BadText T) (by rfl) T.m_BadText (a_cons e_int a_nil))) ss_nil)
    (ss_cons (s_set (i := 1) sc_read_world.nd rfl (by first | exact Or.inl rfl | exact Or.inr rfl) (e_ct call_tuple_of co_tuple (by rfl) T.z_tuple rfl (a_cons (e_mtS PySem.F.slot_str_split PySem.F.type_str_split mt_split mo_split (e_var 0) e_str) a_nil)))
    (ss_cons (s_if (t_isn (e_call (ok_world_error T) (hr.mono (by decide)) hg (takes_of rfl rfl rfl rfl) (by rfl) T.m_world_error T.F_world_error.kp (bd_world_error T) (a_cons (e_var 1) a_nil) (cnt_cons cnt_nil)) e_non) (ss_one (s_raise1 rfl (takes_of rfl rfl rfl rfl) T.ox_BadText T.no_BadText T.cm_BadText T.in_BadText T.it_BadText (ok_init_BadText T) (hr.mono (by decide)) (bd_init_BadText T) (by rfl) T.m_BadText (a_cons e_int a_nil))) ss_nil)
    (ss_one (s_ret (e_var 1))))))
theorem sc_law_deck : FnScope ["script", "deck", "cell", "whole", "state"] ["script"] (defScope s_law_deck) := ⟨rfl, rfl, rfl, by decide +kernel, rfl, by decide +kernel, by decide +kernel⟩
theorem bd_law_deck (T : Txt K mg cm) : Binds K T.fd_law_deck ["script"] [] := T.F_law_deck.binds fun _ _ _ _ _ _ us hl => match us, hl with | [_], _ => rfl
theorem ok_law_deck (T : Txt K mg cm) : FnG P w K mg base 1 T.a_law_deck T.fd_law_deck ["script"] (spD K cm 1 F_law_deck) := FnG.of T.F_law_deck sc_law_deck fun cdv A fr s H E hr hg =>
  (ss_cons (s_set (i := 1) sc_law_deck.nd rfl (by first | exact Or.inl rfl | exact Or.inr rfl) (e_dict (pps_cons e_str (e_lst a_nil) (pps_cons e_str (b_add e_int (e_cb call_len_any co_len (by rfl) T.z_len rfl (a_cons (e_slice (e_var 0) p_none (p_some e_int)) a_nil))) pps_nil))))
    (ss_cons (s_for (passes_of rfl) rfl (i_any (e_slice (e_var 0) p_none (p_some e_int))) (g_name (i := 2) sc_law_deck.nd rfl (by first | exact Or.inl rfl | exact Or.inr rfl)) (ss_cons (s_set (i := 3) sc_law_deck.nd rfl (by first | exact Or.inl rfl | exact Or.inr rfl) (e_cb call_abs co_abs (by rfl) T.z_abs rfl (a_cons (e_var 2) a_nil)))
    (ss_cons (s_if (t_ge (e_var 3) (b_pow e_int e_int)) (ss_one (s_put (hu1 hr) (b_add (e_lst (a_cons (e_var 3) a_nil)) (e_ixR hr (e_var 1) e_str)) (e_var 1) e_str)) ss_nil)
    (ss_cons (s_set (i := 4) sc_law_deck.nd rfl (by first | exact Or.inl rfl | exact Or.inr rfl) (b_add (b_mul (b_add (b_add (b_add (e_ixR hr (e_var 1) e_str) (b_mul e_int (e_var 3))) (e_ct call_int1 co_int (by rfl) T.z_int rfl (a_cons (c_lt (e_var 2) e_int) a_nil))) e_int) e_int) e_int))
    (ss_one (s_put (hu1 hr) (b_mod (e_ct call_int1 co_int (by rfl) T.z_int rfl (a_cons (e_var 4) a_nil)) e_int) (e_var 1) e_str))))))
    (ss_one (s_ret (e_var 1)))))
theorem sc_law_draw : FnScope ["deck", "many", "one", "two", "whole"] ["deck", "many"] (defScope s_law_draw) := ⟨rfl, rfl, rfl, by decide +kernel, rfl, by decide +kernel, by decide +kernel⟩
theorem bd_law_draw (T : Txt K mg cm) : Binds K T.fd_law_draw ["deck", "many"] [] := T.F_law_draw.binds fun _ _ _ _ _ _ us hl => match us, hl with | [_, _], _ => rfl
theorem ok_law_draw (T : Txt K mg cm) : FnG P w K mg base 1 T.a_law_draw T.fd_law_draw ["deck", "many"] (spD K cm 2 F_law_draw) := FnG.of T.F_law_draw sc_law_draw fun cdv A fr s H E hr hg =>
  (ss_cons (s_if (t_lt (e_var 1) e_int) (ss_one (s_ret e_int)) ss_nil)
    (ss_cons (s_if (t_ne hr (e_ixR hr (e_var 0) e_str) (e_lst a_nil)) (ss_cons (s_set (i := 4) sc_law_draw.nd rfl (by first | exact Or.inl rfl | exact Or.inr rfl) (e_mtL0 PySem.F.plainAttrs_list PySem.F.slot_list_pop PySem.F.type_list_pop mt_pop mo_pop (e_ixR hr (e_var 0) e_str)))
    (ss_cons (s_if (t_ge (e_var 4) (e_var 1)) (ss_one (s_expr (e_mtL PySem.F.plainAttrs_list PySem.F.slot_list_append PySem.F.type_list_append mt_append mo_append (e_ixR hr (e_var 0) e_str) (a_cons (b_div (e_var 4) (e_var 1)) a_nil)))) ss_nil)
    (ss_one (s_ret (b_mod (e_ct call_int1 co_int (by rfl) T.z_int rfl (a_cons (e_var 4) a_nil)) (e_var 1)))))) ss_nil)
    (ss_cons (s_set (i := 2) sc_law_draw.nd rfl (by first | exact Or.inl rfl | exact Or.inr rfl) (b_mod (e_ct call_int1 co_int (by rfl) T.z_int rfl (a_cons (b_add (b_mul (e_ixR hr (e_var 0) e_str) e_int) e_int) a_nil)) e_int))
    (ss_cons (s_put (hu1 hr) (e_var 2) (e_var 0) e_str)
    (ss_cons (s_set (i := 3) sc_law_draw.nd rfl (by first | exact Or.inl rfl | exact Or.inr rfl) (b_mod (e_ct call_int1 co_int (by rfl) T.z_int rfl (a_cons (b_add (b_add (b_mul (e_var 2) (e_var 2)) (b_mul e_int (e_var 2))) e_int) a_nil)) e_int))
    (ss_one (s_ret (b_mod (e_ct call_int1 co_int (by rfl) T.z_int rfl (a_cons (b_div (e_var 3) e_int) a_nil)) (e_var 1)))))))))
theorem sc_law_pick : FnScope ["deck", "items"] ["deck", "items"] (defScope s_law_pick) := ⟨rfl, rfl, rfl, by decide +kernel, rfl, by decide +kernel, by decide +kernel⟩
theorem bd_law_pick (T : Txt K mg cm) : Binds K T.fd_law_pick ["deck", "items"] [] := T.F_law_pick.binds fun _ _ _ _ _ _ us hl => match us, hl with | [_, _], _ => rfl
theorem ok_law_pick (T : Txt K mg cm) : FnG P w K mg base 2 T.a_law_pick T.fd_law_pick ["deck", "items"] (spD K cm 2 F_law_pick) := FnG.of T.F_law_pick sc_law_pick fun cdv A fr s H E hr hg =>
  (ss_one (s_ret (e_ixR hr (e_var 1) (e_call (ok_law_draw T) (hr.mono (by decide)) hg (takes_of rfl rfl rfl rfl) (by rfl) T.m_law_draw T.F_law_draw.kp (bd_law_draw T) (a_cons (e_var 0) (a_cons (e_cb call_len_any co_len (by rfl) T.z_len rfl (a_cons (e_var 1) a_nil)) a_nil)) (cnt_cons (cnt_cons cnt_nil))))))
theorem sc_law_texts : FnScope ["found", "roads", "tours"] [] (defScope s_law_texts) := ⟨rfl, rfl, rfl, by decide +kernel, rfl, by decide +kernel, by decide +kernel⟩
theorem bd_law_texts (T : Txt K mg cm) : Binds K T.fd_law_texts [] [] := T.F_law_texts.binds fun _ _ _ _ _ _ us hl => match us, hl with | [], _ => rfl
theorem ok_law_texts (T : Txt K mg cm) : FnG P w K mg base 1 T.a_law_texts T.fd_law_texts [] (spD K cm 0 F_law_texts) := FnG.of T.F_law_texts sc_law_texts fun cdv A fr s H E hr hg =>
  (ss_cons (s_set (i := 0) sc_law_texts.nd rfl (by first | exact Or.inl rfl | exact Or.inr rfl) e_dict0)
    (ss_cons (s_for (passes_of rfl) rfl (i_any (e_tup (a_cons e_str (a_cons e_str a_nil)))) (g_name (i := 1) sc_law_texts.nd rfl (by first | exact Or.inl rfl | exact Or.inr rfl)) (ss_one (s_for (passes_of rfl) rfl (i_any (e_tup (a_cons e_str (a_cons e_str a_nil)))) (g_name (i := 2) sc_law_texts.nd rfl (by first | exact Or.inl rfl | exact Or.inr rfl)) (ss_one (s_put (hu1 hr) (e_tup (a_cons (e_var 1) (a_cons (e_var 2) a_nil))) (e_var 0) (b_add (b_add (e_var 1) e_str) (e_var 2)))))))
    (ss_one (s_ret (e_var 0)))))
theorem sc_law_heard : FnScope ["value", "is_named", "slip"] ["value", "is_named"] (defScope s_law_heard) := ⟨rfl, rfl, rfl, by decide +kernel, rfl, by decide +kernel, by decide +kernel⟩
theorem bd_law_heard (T : Txt K mg cm) : Binds K T.fd_law_heard ["value", "is_named"] [] := T.F_law_heard.binds fun _ _ _ _ _ _ us hl => match us, hl with | [_, _], _ => rfl
theorem ok_law_heard (T : Txt K mg cm) : FnG P w K mg base 4 T.a_law_heard T.fd_law_heard ["value", "is_named"] (spD K cm 2 F_law_heard) := FnG.of T.F_law_heard sc_law_heard fun cdv A fr s H E hr hg =>
  (ss_one (s_try_as (i := 2) rfl rfl sc_law_heard.nd rfl rfl ⟨by rfl, by decide, Or.inl T.m_BadText⟩ (takes_of rfl rfl rfl rfl) T.su_BadText (fun W2 pn2 xe2 tk2 pp2 => (ss_one (s_ret (e_lst (a_cons e_str (a_cons (e_if (t_val (e_var 1)) (e_callK0 (ok_read_world T) (hr.mono (by decide)) hg tk2 (by rfl) T.m_read_world T.F_read_world.kp (kb_read_world_0_value T) (k_cons (e_var 0) k_nil) (cnt_cons cnt_nil) (fun l h => pick_len_1_0 l h)) (e_call (ok_read_world T) (hr.mono (by decide)) hg tk2 (by rfl) T.m_read_world T.F_read_world.kp (bd_read_world T) (a_cons (e_var 0) a_nil) (cnt_cons cnt_nil))) a_nil)))))) (fun a2 oe2 cls2 d2 pn2 z2 f2 => (x_lst (xa_cons (x_of e_str) (xa_cons (x_fld T.xf_BadText T.cm_BadText T.no_BadText z2 f2) (xa_cons (x_isi T.ic_BadText T.kit_BadText_StillError T.cm_BadText z2 f2 (by rfl) T.z_isinstance (by rfl) T.m_StillError (v := .ref T.a_StillError) rfl (fun _ h => h) rfl) xa_nil)))))))
theorem sc_law_spoilt : FnScope ["deck", "text", "sign", "at", "way"] ["deck", "text"] (defScope s_law_spoilt) := ⟨rfl, rfl, rfl, by decide +kernel, rfl, by decide +kernel, by decide +kernel⟩
theorem bd_law_spoilt (T : Txt K mg cm) : Binds K T.fd_law_spoilt ["deck", "text"] [] := T.F_law_spoilt.binds fun _ _ _ _ _ _ us hl => match us, hl with | [_, _], _ => rfl
theorem ok_law_spoilt (T : Txt K mg cm) : FnG P w K mg base 3 T.a_law_spoilt T.fd_law_spoilt ["deck", "text"] (spD K cm 2 F_law_spoilt) := FnG.of T.F_law_spoilt sc_law_spoilt fun cdv A fr s H E hr hg =>
  (ss_cons (s_par rfl sc_law_spoilt.nd rfl rfl (by decide) rfl rfl (a_cons (e_call (ok_law_draw T) (hr.mono (by decide)) hg (takes_of rfl rfl rfl rfl) (by rfl) T.m_law_draw T.F_law_draw.kp (bd_law_draw T) (a_cons (e_var 0) (a_cons (b_add (e_cb call_len_any co_len (by rfl) T.z_len rfl (a_cons (e_var 1) a_nil)) e_int) a_nil)) (cnt_cons (cnt_cons cnt_nil))) (a_cons (e_call (ok_law_draw T) (hr.mono (by decide)) hg (takes_of rfl rfl rfl rfl) (by rfl) T.m_law_draw T.F_law_draw.kp (bd_law_draw T) (a_cons (e_var 0) (a_cons e_int a_nil)) (cnt_cons (cnt_cons cnt_nil))) a_nil)))
    (ss_cons (s_set (i := 2) sc_law_spoilt.nd rfl (by first | exact Or.inl rfl | exact Or.inr rfl) (e_call (ok_law_pick T) (hr.mono (by decide)) hg (takes_of rfl rfl rfl rfl) (by rfl) T.m_law_pick T.F_law_pick.kp (bd_law_pick T) (a_cons (e_var 0) (a_cons (e_lst (a_cons e_str (a_cons e_str (a_cons e_str (a_cons e_str (a_cons e_str (a_cons e_str (a_cons e_str (a_cons e_str (a_cons e_str (a_cons e_str (a_cons e_str a_nil)))))))))))) a_nil)) (cnt_cons (cnt_cons cnt_nil))))
    (ss_cons (s_if (t_eq hr (e_var 4) e_int) (ss_one (s_ret (b_add (e_slice (e_var 1) p_none (p_some (e_var 3))) (e_slice (e_var 1) (p_some (b_add (e_var 3) e_int)) p_none)))) ss_nil)
    (ss_cons (s_if (t_eq hr (e_var 4) e_int) (ss_one (s_ret (b_add (b_add (e_slice (e_var 1) p_none (p_some (e_var 3))) (e_var 2)) (e_slice (e_var 1) (p_some (e_var 3)) p_none)))) ss_nil)
    (ss_cons (s_if (t_eq hr (e_var 4) e_int) (ss_one (s_ret (b_add (b_add (e_slice (e_var 1) p_none (p_some (e_var 3))) (e_var 2)) (e_slice (e_var 1) (p_some (b_add (e_var 3) e_int)) p_none)))) ss_nil)
    (ss_cons (s_if (t_eq hr (e_var 4) e_int) (ss_one (s_ret (b_add (b_add (e_slice (e_var 1) p_none (p_some (e_var 3))) (e_rev (e_slice (e_var 1) (p_some (e_var 3)) (p_some (b_add (e_var 3) e_int))))) (e_slice (e_var 1) (p_some (b_add (e_var 3) e_int)) p_none)))) ss_nil)
    (ss_one (s_ret (e_mtS PySem.F.slot_str_join PySem.F.type_str_join mt_join mo_join e_str (e_rev (e_mtS PySem.F.slot_str_split PySem.F.type_str_split mt_split mo_split (e_var 1) e_str)))))))))))
theorem sc_law : FnScope ["script", "deck", "table", "text", "turn", "told", "odd", "value", "is_right", "due"] ["script"] (defScope s_law) := ⟨rfl, rfl, rfl, by decide +kernel, rfl, by decide +kernel, by decide +kernel⟩
theorem bd_law (T : Txt K mg cm) : Binds K T.fd_law ["script"] [] := T.F_law.binds fun _ _ _ _ _ _ us hl => match us, hl with | [_], _ => rfl
theorem ok_law (T : Txt K mg cm) : FnG P w K mg base 5 T.a_law T.fd_law ["script"] (spD K cm 1 F_law) := FnG.of T.F_law sc_law fun cdv A fr s H E hr hg =>
  (ss_cons (s_set (i := 1) sc_law.nd rfl (by first | exact Or.inl rfl | exact Or.inr rfl) (e_call (ok_law_deck T) (hr.mono (by decide)) hg (takes_of rfl rfl rfl rfl) (by rfl) T.m_law_deck T.F_law_deck.kp (bd_law_deck T) (a_cons (e_var 0) a_nil) (cnt_cons cnt_nil)))
    (ss_cons (s_set (i := 2) sc_law.nd rfl (by first | exact Or.inl rfl | exact Or.inr rfl) (e_call0 (ok_law_texts T) (hr.mono (by decide)) hg (takes_of rfl rfl rfl rfl) (by rfl) T.m_law_texts T.F_law_texts.kp (bd_law_texts T)))
    (ss_cons (s_forK (i := 2) (passes_of rfl) rfl rfl (by first | exact Or.inl rfl | exact Or.inr (Or.inl rfl) | exact Or.inr (Or.inr rfl)) (g_name (i := 3) sc_law.nd rfl (by first | exact Or.inl rfl | exact Or.inr rfl)) (ss_cons (s_set (i := 5) sc_law.nd rfl (by first | exact Or.inl rfl | exact Or.inr rfl) (e_lst (a_cons (e_call (ok_world_text T) (hr.mono (by decide)) hg takes0 (by rfl) T.m_world_text T.F_world_text.kp (bd_world_text T) (a_cons (e_ixR hr (e_var 2) (e_var 3)) a_nil) (cnt_cons cnt_nil)) (a_cons (e_callK0 (ok_world_text T) (hr.mono (by decide)) hg takes0 (by rfl) T.m_world_text T.F_world_text.kp (kb_world_text_0_world T) (k_cons (e_ixR hr (e_var 2) (e_var 3)) k_nil) (cnt_cons cnt_nil) (fun l h => pick_len_1_0 l h)) (a_cons (e_call (ok_read_world T) (hr.mono (by decide)) hg takes0 (by rfl) T.m_read_world T.F_read_world.kp (bd_read_world T) (a_cons (e_var 3) a_nil) (cnt_cons cnt_nil)) (a_cons (e_callK0 (ok_read_world T) (hr.mono (by decide)) hg takes0 (by rfl) T.m_read_world T.F_read_world.kp (kb_read_world_0_value T) (k_cons (e_var 3) k_nil) (cnt_cons cnt_nil) (fun l h => pick_len_1_0 l h)) a_nil))))))
    (ss_one (s_if (t_ne hr (e_cb (call_reprD (hu64 hr) hg) co_repr (by rfl) T.z_repr rfl (a_cons (e_var 5) a_nil)) (e_cb (call_reprD (hu64 hr) hg) co_repr (by rfl) T.z_repr rfl (a_cons (e_lst (a_cons (e_var 3) (a_cons (e_var 3) (a_cons (e_ixR hr (e_var 2) (e_var 3)) (a_cons (e_ixR hr (e_var 2) (e_var 3)) a_nil))))) a_nil))) (ss_one (s_ret e_bl)) ss_nil))))
    (ss_cons (s_for (passes_of rfl) rfl (i_rng1 (by rfl) T.z_range (a_cons e_int a_nil) (cnt_cons cnt_nil)) (g_name (i := 4) sc_law.nd rfl (by first | exact Or.inl rfl | exact Or.inr rfl)) (ss_cons (s_set (i := 3) sc_law.nd rfl (by first | exact Or.inl rfl | exact Or.inr rfl) (e_call (ok_law_pick T) (hr.mono (by decide)) hg (takes_of rfl rfl rfl rfl) (by rfl) T.m_law_pick T.F_law_pick.kp (bd_law_pick T) (a_cons (e_var 1) (a_cons (e_ct (call_list_any rfl) co_list (by rfl) T.z_list rfl (a_cons (e_var 2) a_nil)) a_nil)) (cnt_cons (cnt_cons cnt_nil))))
    (ss_cons (s_set (i := 6) sc_law.nd rfl (by first | exact Or.inl rfl | exact Or.inr rfl) (e_lst (a_cons e_non (a_cons e_int (a_cons e_bl (a_cons (e_lst a_nil) (a_cons e_dict0 (a_cons (e_ixR hr (e_var 2) (e_var 3)) (a_cons (e_tup (a_cons (e_var 3) a_nil)) (a_cons e_str (a_cons e_str (a_cons e_str (a_cons e_str (a_cons (b_mul e_str e_int) a_nil))))))))))))))
    (ss_cons (s_set (i := 7) sc_law.nd rfl (by first | exact Or.inl rfl | exact Or.inr rfl) (e_if (t_gt (e_call (ok_law_draw T) (hr.mono (by decide)) hg (takes_of rfl rfl rfl rfl) (by rfl) T.m_law_draw T.F_law_draw.kp (bd_law_draw T) (a_cons (e_var 1) (a_cons e_int a_nil)) (cnt_cons (cnt_cons cnt_nil))) e_int) (e_call (ok_law_spoilt T) (hr.mono (by decide)) hg (takes_of rfl rfl rfl rfl) (by rfl) T.m_law_spoilt T.F_law_spoilt.kp (bd_law_spoilt T) (a_cons (e_var 1) (a_cons (e_var 3) a_nil)) (cnt_cons (cnt_cons cnt_nil))) (e_call (ok_law_pick T) (hr.mono (by decide)) hg (takes_of rfl rfl rfl rfl) (by rfl) T.m_law_pick T.F_law_pick.kp (bd_law_pick T) (a_cons (e_var 1) (a_cons (e_var 6) a_nil)) (cnt_cons (cnt_cons cnt_nil)))))
    (ss_cons (s_if (t_eq hr (e_call (ok_law_draw T) (hr.mono (by decide)) hg (takes_of rfl rfl rfl rfl) (by rfl) T.m_law_draw T.F_law_draw.kp (bd_law_draw T) (a_cons (e_var 1) (a_cons e_int a_nil)) (cnt_cons (cnt_cons cnt_nil))) e_int) (ss_one (s_set (i := 7) sc_law.nd rfl (by first | exact Or.inl rfl | exact Or.inr rfl) (e_call (ok_law_pick T) (hr.mono (by decide)) hg (takes_of rfl rfl rfl rfl) (by rfl) T.m_law_pick T.F_law_pick.kp (bd_law_pick T) (a_cons (e_var 1) (a_cons (e_ct (call_list_any rfl) co_list (by rfl) T.z_list rfl (a_cons (e_var 2) a_nil)) a_nil)) (cnt_cons (cnt_cons cnt_nil))))) ss_nil)
    (ss_cons (s_set (i := 8) sc_law.nd rfl (by first | exact Or.inl rfl | exact Or.inr rfl) (e_and (e_cb call_isi co_isi (by rfl) T.z_isinstance rfl (a_cons (e_var 7) (a_cons (e_ty (by rfl) T.z_str rfl) a_nil))) (e_and1 (c_in hr (e_var 7) (e_var 2)))))
    (ss_cons (s_set (i := 9) sc_law.nd rfl (by first | exact Or.inl rfl | exact Or.inr rfl) (e_if (t_val (e_var 8)) (e_lst (a_cons e_str (a_cons (e_ixR hr (e_var 2) (e_var 7)) a_nil))) (e_lst (a_cons e_str (a_cons e_int (a_cons e_bl a_nil))))))
    (ss_one (s_if ((w_or (t_ne hr (e_cb (call_reprD (hu64 hr) hg) co_repr (by rfl) T.z_repr rfl (a_cons (e_call (ok_law_heard T) (hr.mono (by decide)) hg (takes_of rfl rfl rfl rfl) (by rfl) T.m_law_heard T.F_law_heard.kp (bd_law_heard T) (a_cons (e_var 7) (a_cons (c_eq hr (b_mod (e_var 4) e_int) e_int) a_nil)) (cnt_cons (cnt_cons cnt_nil))) a_nil)) (e_cb (call_reprD (hu64 hr) hg) co_repr (by rfl) T.z_repr rfl (a_cons (e_var 9) a_nil))) (w_or1 (t_ne hr (e_cb (call_reprD (hu64 hr) hg) co_repr (by rfl) T.z_repr rfl (a_cons (e_call (ok_law_heard T) (hr.mono (by decide)) hg (takes_of rfl rfl rfl rfl) (by rfl) T.m_law_heard T.F_law_heard.kp (bd_law_heard T) (a_cons (e_var 7) (a_cons e_bl a_nil)) (cnt_cons (cnt_cons cnt_nil))) a_nil)) (e_cb (call_reprD (hu64 hr) hg) co_repr (by rfl) T.z_repr rfl (a_cons (e_var 9) a_nil)))))).pt (ss_one (s_ret e_bl)) ss_nil)))))))))
    (ss_one (s_ret e_bl))))))
end
/-! ### E. what the top has written, the head -/
theorem all_mk {P : Program} {w : World} {K : PySem.W.Frag} {h : Heap} {mg : Str → Option Value} {fa : Addr} (X : K.In h) (G : h.Ns mainGlobals mg) (hfa : mg "law" = some (.ref fa))
    {f_is_tuple_of : Addr} {od_is_tuple_of an_is_tuple_of : Option Addr} {sl_is_tuple_of : Array (Option Value)} {oc_is_tuple_of kV_is_tuple_of dc_is_tuple_of pm_is_tuple_of cd_is_tuple_of ct_is_tuple_of : Value}
    {f_world_error : Addr} {od_world_error an_world_error : Option Addr} {sl_world_error : Array (Option Value)} {oc_world_error kV_world_error dc_world_error pm_world_error cd_world_error ct_world_error : Value}
    {f_world_text : Addr} {od_world_text an_world_text : Option Addr} {sl_world_text : Array (Option Value)} {oc_world_text kV_world_text dc_world_text pm_world_text cd_world_text ct_world_text : Value}
    {f_read_world : Addr} {od_read_world an_read_world : Option Addr} {sl_read_world : Array (Option Value)} {oc_read_world kV_read_world dc_read_world pm_read_world cd_read_world ct_read_world : Value}
    {f_law_deck : Addr} {od_law_deck an_law_deck : Option Addr} {sl_law_deck : Array (Option Value)} {oc_law_deck kV_law_deck dc_law_deck pm_law_deck cd_law_deck ct_law_deck : Value}
    {f_law_draw : Addr} {od_law_draw an_law_draw : Option Addr} {sl_law_draw : Array (Option Value)} {oc_law_draw kV_law_draw dc_law_draw pm_law_draw cd_law_draw ct_law_draw : Value}
    {f_law_pick : Addr} {od_law_pick an_law_pick : Option Addr} {sl_law_pick : Array (Option Value)} {oc_law_pick kV_law_pick dc_law_pick pm_law_pick cd_law_pick ct_law_pick : Value}
    {f_law_texts : Addr} {od_law_texts an_law_texts : Option Addr} {sl_law_texts : Array (Option Value)} {oc_law_texts kV_law_texts dc_law_texts pm_law_texts cd_law_texts ct_law_texts : Value}
    {f_law_heard : Addr} {od_law_heard an_law_heard : Option Addr} {sl_law_heard : Array (Option Value)} {oc_law_heard kV_law_heard dc_law_heard pm_law_heard cd_law_heard ct_law_heard : Value}
    {f_law_spoilt : Addr} {od_law_spoilt an_law_spoilt : Option Addr} {sl_law_spoilt : Array (Option Value)} {oc_law_spoilt kV_law_spoilt dc_law_spoilt pm_law_spoilt cd_law_spoilt ct_law_spoilt : Value}
    {f_law : Addr} {od_law an_law : Option Addr} {sl_law : Array (Option Value)} {oc_law kV_law dc_law pm_law cd_law ct_law : Value}
    {r_ROADS : Addr} {n_ROADS : Nat} {sl_ROADS : Array (Option Value)} {t_ROADS_0 t_ROADS_1 : Tok}
    {r_TOURS : Addr} {n_TOURS : Nat} {sl_TOURS : Array (Option Value)} {t_TOURS_0 t_TOURS_1 : Tok}
    {C_BadText : Addr}
    {C_StillError : Addr}
    {fI_BadText : Addr} {odI_BadText anI_BadText : Option Addr} {slI_BadText : Array (Option Value)} {ocI_BadText kVI_BadText dcI_BadText pmI_BadText cdI_BadText ctI_BadText : Value} {nm_BadText q_BadText : Str} {N_BadText B_BadText_StillError : Addr} {bs_BadText sub_c_BadText : List Value} {sn_BadText : List Str} {ab_BadText : Bool} {col_BadText : Option Bool} {dd_BadText : Option Addr} {k0_BadText k1_BadText k2_BadText k3_BadText k5_BadText : Option Value}
    (a_is_tuple_of : PySem.W.nsIn K mainGlobals "is_tuple_of" = some (some (.ref f_is_tuple_of)))
    (l_is_tuple_of : K.lookup f_is_tuple_of = some ⟨oc_is_tuple_of, od_is_tuple_of, .func (PySem.W.fnOf "is_tuple_of" "is_tuple_of" (defArgs s_is_tuple_of) (defBody s_is_tuple_of) (defScope s_is_tuple_of) .none kV_is_tuple_of dc_is_tuple_of pm_is_tuple_of an_is_tuple_of cd_is_tuple_of ct_is_tuple_of), sl_is_tuple_of⟩)
    (c_is_tuple_of : PySem.W.codeIn K cd_is_tuple_of "is_tuple_of" = true)
    (k_is_tuple_of : PySem.W.keepIn K (.ref f_is_tuple_of) = true)
    (a_world_error : PySem.W.nsIn K mainGlobals "world_error" = some (some (.ref f_world_error)))
    (l_world_error : K.lookup f_world_error = some ⟨oc_world_error, od_world_error, .func (PySem.W.fnOf "world_error" "world_error" (defArgs s_world_error) (defBody s_world_error) (defScope s_world_error) .none kV_world_error dc_world_error pm_world_error an_world_error cd_world_error ct_world_error), sl_world_error⟩)
    (c_world_error : PySem.W.codeIn K cd_world_error "world_error" = true)
    (k_world_error : PySem.W.keepIn K (.ref f_world_error) = true)
    (a_world_text : PySem.W.nsIn K mainGlobals "world_text" = some (some (.ref f_world_text)))
    (l_world_text : K.lookup f_world_text = some ⟨oc_world_text, od_world_text, .func (PySem.W.fnOf "world_text" "world_text" (defArgs s_world_text) (defBody s_world_text) (defScope s_world_text) .none kV_world_text dc_world_text pm_world_text an_world_text cd_world_text ct_world_text), sl_world_text⟩)
    (c_world_text : PySem.W.codeIn K cd_world_text "world_text" = true)
    (k_world_text : PySem.W.keepIn K (.ref f_world_text) = true)
    (a_read_world : PySem.W.nsIn K mainGlobals "read_world" = some (some (.ref f_read_world)))
    (l_read_world : K.lookup f_read_world = some ⟨oc_read_world, od_read_world, .func (PySem.W.fnOf "read_world" "read_world" (defArgs s_read_world) (defBody s_read_world) (defScope s_read_world) .none kV_read_world dc_read_world pm_read_world an_read_world cd_read_world ct_read_world), sl_read_world⟩)
    (c_read_world : PySem.W.codeIn K cd_read_world "read_world" = true)
    (k_read_world : PySem.W.keepIn K (.ref f_read_world) = true)
    (a_law_deck : PySem.W.nsIn K mainGlobals "_law_deck" = some (some (.ref f_law_deck)))
    (l_law_deck : K.lookup f_law_deck = some ⟨oc_law_deck, od_law_deck, .func (PySem.W.fnOf "_law_deck" "_law_deck" (defArgs s_law_deck) (defBody s_law_deck) (defScope s_law_deck) .none kV_law_deck dc_law_deck pm_law_deck an_law_deck cd_law_deck ct_law_deck), sl_law_deck⟩)
    (c_law_deck : PySem.W.codeIn K cd_law_deck "_law_deck" = true)
    (k_law_deck : PySem.W.keepIn K (.ref f_law_deck) = true)
    (a_law_draw : PySem.W.nsIn K mainGlobals "_law_draw" = some (some (.ref f_law_draw)))
    (l_law_draw : K.lookup f_law_draw = some ⟨oc_law_draw, od_law_draw, .func (PySem.W.fnOf "_law_draw" "_law_draw" (defArgs s_law_draw) (defBody s_law_draw) (defScope s_law_draw) .none kV_law_draw dc_law_draw pm_law_draw an_law_draw cd_law_draw ct_law_draw), sl_law_draw⟩)
    (c_law_draw : PySem.W.codeIn K cd_law_draw "_law_draw" = true)
    (k_law_draw : PySem.W.keepIn K (.ref f_law_draw) = true)
    (a_law_pick : PySem.W.nsIn K mainGlobals "_law_pick" = some (some (.ref f_law_pick)))
    (l_law_pick : K.lookup f_law_pick = some ⟨oc_law_pick, od_law_pick, .func (PySem.W.fnOf "_law_pick" "_law_pick" (defArgs s_law_pick) (defBody s_law_pick) (defScope s_law_pick) .none kV_law_pick dc_law_pick pm_law_pick an_law_pick cd_law_pick ct_law_pick), sl_law_pick⟩)
    (c_law_pick : PySem.W.codeIn K cd_law_pick "_law_pick" = true)
    (k_law_pick : PySem.W.keepIn K (.ref f_law_pick) = true)
    (a_law_texts : PySem.W.nsIn K mainGlobals "_law_texts" = some (some (.ref f_law_texts)))
    (l_law_texts : K.lookup f_law_texts = some ⟨oc_law_texts, od_law_texts, .func (PySem.W.fnOf "_law_texts" "_law_texts" (defArgs s_law_texts) (defBody s_law_texts) (defScope s_law_texts) .none kV_law_texts dc_law_texts pm_law_texts an_law_texts cd_law_texts ct_law_texts), sl_law_texts⟩)
    (c_law_texts : PySem.W.codeIn K cd_law_texts "_law_texts" = true)
    (k_law_texts : PySem.W.keepIn K (.ref f_law_texts) = true)
    (a_law_heard : PySem.W.nsIn K mainGlobals "_law_heard" = some (some (.ref f_law_heard)))
    (l_law_heard : K.lookup f_law_heard = some ⟨oc_law_heard, od_law_heard, .func (PySem.W.fnOf "_law_heard" "_law_heard" (defArgs s_law_heard) (defBody s_law_heard) (defScope s_law_heard) .none kV_law_heard dc_law_heard pm_law_heard an_law_heard cd_law_heard ct_law_heard), sl_law_heard⟩)
    (c_law_heard : PySem.W.codeIn K cd_law_heard "_law_heard" = true)
    (k_law_heard : PySem.W.keepIn K (.ref f_law_heard) = true)
    (a_law_spoilt : PySem.W.nsIn K mainGlobals "_law_spoilt" = some (some (.ref f_law_spoilt)))
    (l_law_spoilt : K.lookup f_law_spoilt = some ⟨oc_law_spoilt, od_law_spoilt, .func (PySem.W.fnOf "_law_spoilt" "_law_spoilt" (defArgs s_law_spoilt) (defBody s_law_spoilt) (defScope s_law_spoilt) .none kV_law_spoilt dc_law_spoilt pm_law_spoilt an_law_spoilt cd_law_spoilt ct_law_spoilt), sl_law_spoilt⟩)
    (c_law_spoilt : PySem.W.codeIn K cd_law_spoilt "_law_spoilt" = true)
    (k_law_spoilt : PySem.W.keepIn K (.ref f_law_spoilt) = true)
    (a_law : PySem.W.nsIn K mainGlobals "law" = some (some (.ref f_law)))
    (l_law : K.lookup f_law = some ⟨oc_law, od_law, .func (PySem.W.fnOf "law" "law" (defArgs s_law) (defBody s_law) (defScope s_law) .none kV_law dc_law pm_law an_law cd_law ct_law), sl_law⟩)
    (c_law : PySem.W.codeIn K cd_law "law" = true)
    (k_law : PySem.W.keepIn K (.ref f_law) = true)
    (z_abs : PySem.W.nsIn K mainGlobals "abs" = some none)
    (z_int : PySem.W.nsIn K mainGlobals "int" = some none)
    (z_isinstance : PySem.W.nsIn K mainGlobals "isinstance" = some none)
    (z_len : PySem.W.nsIn K mainGlobals "len" = some none)
    (z_list : PySem.W.nsIn K mainGlobals "list" = some none)
    (z_range : PySem.W.nsIn K mainGlobals "range" = some none)
    (z_repr : PySem.W.nsIn K mainGlobals "repr" = some none)
    (z_str : PySem.W.nsIn K mainGlobals "str" = some none)
    (z_tuple : PySem.W.nsIn K mainGlobals "tuple" = some none)
    (a_ROADS : PySem.W.nsIn K mainGlobals "ROADS" = some (some (.ref r_ROADS)))
    (l_ROADS : K.lookup r_ROADS = some ⟨.type "tuple", none, .seq (List.toArray [(Value.str "slow" t_ROADS_0), (Value.str "at once" t_ROADS_1)]) n_ROADS, sl_ROADS⟩)
    (a_TOURS : PySem.W.nsIn K mainGlobals "TOURS" = some (some (.ref r_TOURS)))
    (l_TOURS : K.lookup r_TOURS = some ⟨.type "tuple", none, .seq (List.toArray [(Value.str "alike" t_TOURS_0), (Value.str "anew" t_TOURS_1)]) n_TOURS, sl_TOURS⟩)
    (a_BadText : PySem.W.nsIn K mainGlobals "BadText" = some (some (.ref C_BadText)))
    (a_StillError : PySem.W.nsIn K mainGlobals "StillError" = some (some (.ref C_StillError)))
    (hd_BadText : PySem.W.hasDictIn K C_BadText = true)
    (sb_BadText : PySem.W.subIn K (.ref C_BadText) (.type "BaseException") = some true)
    (ty_BadText : PySem.W.typeIn K (.ref C_BadText) = some (.type "type"))
    (ga_BadText : PySem.W.findIn K (.ref C_BadText) "__getattribute__" = some (some (.builtin "BaseException.__getattribute__")))
    (gt_BadText : PySem.W.findIn K (.ref C_BadText) "__getattr__" = some none)
    (cc_BadText : PySem.W.findIn K (.ref C_BadText) "__class__" = some (some (.builtin "object.__class__")))
    (mo_BadText : PySem.W.mroIn K C_BadText (.type "object") = some true)
    (cl_BadText : PySem.W.isClsIn K C_BadText = true)
    (nn_ : PySem.W.specialIn K (.builtin "object.__class__") "__get__" = some (some (.builtin "getset_descriptor.__get__")))
    (tk_ : PySem.W.takesIn K (.builtin "object.__class__") = some true)
    (s_BadText_BadText : PySem.W.subIn K (.ref C_BadText) (.ref C_BadText) = some true)
    (kp_BadText : PySem.W.keepIn K (.ref C_BadText) = true)
    (x_BadText : K.lookup C_BadText = some (excClassObj nm_BadText q_BadText C_BadText N_BadText bs_BadText [.ref B_BadText_StillError, .type "ValueError", .type "Exception", .type "BaseException", .type "object"] true sn_BadText sub_c_BadText ab_BadText col_BadText dd_BadText k0_BadText k1_BadText k2_BadText k3_BadText k5_BadText "ValueError.__new__"))
    (sa_BadText : PySem.W.findIn K (.ref C_BadText) "__setattr__" = some (some (.builtin "object.__setattr__")))
    (no_BadText : PySem.W.findIn K (.ref C_BadText) "line" = some none)
    (in_BadText : PySem.W.findIn K (.ref C_BadText) "__init__" = some (some (.ref fI_BadText)))
    (it_BadText : PySem.W.typeIn K (.ref fI_BadText) = some (.type "function"))
    (lI_BadText : K.lookup fI_BadText = some ⟨ocI_BadText, odI_BadText, .func (PySem.W.fnOf "__init__" "BadText.__init__" (defArgs s_init_BadText) (defBody s_init_BadText) (defScope s_init_BadText) .none kVI_BadText dcI_BadText pmI_BadText anI_BadText cdI_BadText ctI_BadText), slI_BadText⟩)
    (cI_BadText : PySem.W.codeIn K cdI_BadText "BadText.__init__" = true)
    (kI_BadText : PySem.W.keepIn K (.ref fI_BadText) = true)
    (cl_StillError : PySem.W.isClsIn K C_StillError = true)
    (ty_StillError : PySem.W.typeIn K (.ref C_StillError) = some (.type "type"))
    (ki_BadText_StillError : PySem.W.subIn K (.ref C_BadText) (.ref C_StillError) = some true)
    : ∃ (fd : FuncData) (cm : Str → Value), (∀ (s : Shared) (u : Value), BindsTo s fd ⟨[u], []⟩ [("script", u)]) ∧ ∀ base : Heap, K.In base → FnG P w K mg base 5 fa fd ["script"] (spD K cm 1 F_law) := by
  have e := hfa.symm.trans (PySem.W.mg_of X G a_law)
  cases e
  let cmf : Str → Value := fun n => if n = "BadText" then .ref C_BadText else .none
  have su_BadText : ∀ m r, sub_BadText m = some r → PySem.W.exmOne K (cmf m) (.ref C_BadText) = some r := by
    intro m r h
    unfold sub_BadText at h
    by_cases e0 : m = "BadText"
    · rw [if_pos e0] at h
      cases h
      subst e0
      exact (congrArg (fun c => PySem.W.exmOne K c (.ref C_BadText)) (show cmf "BadText" = .ref C_BadText from if_pos rfl)).trans (PySem.W.exm_ref sb_BadText hd_BadText ty_BadText s_BadText_BadText)
    · rw [if_neg e0] at h
      cases h
  let T : Txt K mg cmf := {
    a_is_tuple_of := f_is_tuple_of, fd_is_tuple_of := _, F_is_tuple_of := fun_mk (st := s_is_tuple_of) l_is_tuple_of c_is_tuple_of k_is_tuple_of, m_is_tuple_of := PySem.W.mg_of X G a_is_tuple_of,
    a_world_error := f_world_error, fd_world_error := _, F_world_error := fun_mk (st := s_world_error) l_world_error c_world_error k_world_error, m_world_error := PySem.W.mg_of X G a_world_error,
    a_world_text := f_world_text, fd_world_text := _, F_world_text := fun_mk (st := s_world_text) l_world_text c_world_text k_world_text, m_world_text := PySem.W.mg_of X G a_world_text,
    a_read_world := f_read_world, fd_read_world := _, F_read_world := fun_mk (st := s_read_world) l_read_world c_read_world k_read_world, m_read_world := PySem.W.mg_of X G a_read_world,
    a_law_deck := f_law_deck, fd_law_deck := _, F_law_deck := fun_mk (st := s_law_deck) l_law_deck c_law_deck k_law_deck, m_law_deck := PySem.W.mg_of X G a_law_deck,
    a_law_draw := f_law_draw, fd_law_draw := _, F_law_draw := fun_mk (st := s_law_draw) l_law_draw c_law_draw k_law_draw, m_law_draw := PySem.W.mg_of X G a_law_draw,
    a_law_pick := f_law_pick, fd_law_pick := _, F_law_pick := fun_mk (st := s_law_pick) l_law_pick c_law_pick k_law_pick, m_law_pick := PySem.W.mg_of X G a_law_pick,
    a_law_texts := f_law_texts, fd_law_texts := _, F_law_texts := fun_mk (st := s_law_texts) l_law_texts c_law_texts k_law_texts, m_law_texts := PySem.W.mg_of X G a_law_texts,
    a_law_heard := f_law_heard, fd_law_heard := _, F_law_heard := fun_mk (st := s_law_heard) l_law_heard c_law_heard k_law_heard, m_law_heard := PySem.W.mg_of X G a_law_heard,
    a_law_spoilt := f_law_spoilt, fd_law_spoilt := _, F_law_spoilt := fun_mk (st := s_law_spoilt) l_law_spoilt c_law_spoilt k_law_spoilt, m_law_spoilt := PySem.W.mg_of X G a_law_spoilt,
    a_law := fa, fd_law := _, F_law := fun_mk (st := s_law) l_law c_law k_law, m_law := PySem.W.mg_of X G a_law,
    z_abs := PySem.W.mg_none_of X G z_abs,
    z_int := PySem.W.mg_none_of X G z_int,
    z_isinstance := PySem.W.mg_none_of X G z_isinstance,
    z_len := PySem.W.mg_none_of X G z_len,
    z_list := PySem.W.mg_none_of X G z_list,
    z_range := PySem.W.mg_none_of X G z_range,
    z_repr := PySem.W.mg_none_of X G z_repr,
    z_str := PySem.W.mg_none_of X G z_str,
    z_tuple := PySem.W.mg_none_of X G z_tuple,
    a_ROADS := r_ROADS, m_ROADS := PySem.W.mg_of X G a_ROADS, r_ROADS := ro_line (vs := [(.str "slow"), (.str "at once")]) l_ROADS (.cons ⟨_, rfl⟩ (.cons ⟨_, rfl⟩ .nil)) (by show 2 ≤ sizeLine; rw [sizeLine_eq]; omega) fun _ _ => (.cons (.str _) (.cons (.str _) .nil)),
    a_TOURS := r_TOURS, m_TOURS := PySem.W.mg_of X G a_TOURS, r_TOURS := ro_line (vs := [(.str "alike"), (.str "anew")]) l_TOURS (.cons ⟨_, rfl⟩ (.cons ⟨_, rfl⟩ .nil)) (by show 2 ≤ sizeLine; rw [sizeLine_eq]; omega) fun _ _ => (.cons (.str _) (.cons (.str _) .nil)),
    a_BadText := C_BadText, m_BadText := PySem.W.mg_of X G a_BadText,
    a_StillError := C_StillError, m_StillError := PySem.W.mg_of X G a_StillError,
    cm_BadText := if_pos rfl, ic_BadText := ⟨cl_BadText, ga_BadText, gt_BadText, sb_BadText, cc_BadText, nn_, tk_, mo_BadText⟩,
    fI_BadText := fI_BadText, fdI_BadText := _, FI_BadText := fun_mk (st := s_init_BadText) lI_BadText cI_BadText kI_BadText, ox_BadText := ⟨⟨_, _, _, _, _, _, _, _, _, _, _, _, _, _, _, x_BadText, by rfl⟩, sa_BadText, sb_BadText, ty_BadText, kp_BadText⟩, no_BadText := no_BadText, in_BadText := in_BadText, it_BadText := it_BadText, xf_BadText := ⟨ga_BadText, gt_BadText, sb_BadText, hd_BadText⟩,
    kit_BadText_StillError := kit_true cl_StillError ty_StillError ki_BadText_StillError,
    su_BadText := su_BadText }
  exact ⟨PySem.W.fnOf "law" "law" (defArgs s_law) (defBody s_law) (defScope s_law) .none kV_law dc_law pm_law an_law cd_law ct_law, cmf, fun s v => .of_eq rfl, fun base _ => ok_law T⟩
end K06

open PySem PySem.W PyProof.Rows in
set_option maxRecDepth 100000 in
set_option maxHeartbeats 0 in
theorem PySem.Challenge.cw_stillrounds_k06_texts_of_worlds_holds : PySem.Challenge.rw_stillrounds_k06_texts_of_worlds.Holds := by
  w_on; o_law; k_head; (case hw => w_witness2)
  k_fill
  refine Den.walk_den (l := PySem.Challenge.rw_stillrounds_k06_texts_of_worlds) (n := 63) (k := 5) (x := "script") (F0 := K06.F_law) rfl (by decide) rfl ⟨rfl, by decide, by decide⟩ (fun w h Y => PySem.W.kIn_of Y) ?F K06.holds
  case F =>
    intro w mg fa h KX G hmg
    refine' K06.all_mk KX G hmg ?q0 ?q1 ?q2 ?q3 ?q4 ?q5 ?q6 ?q7 ?q8 ?q9 ?q10 ?q11 ?q12 ?q13 ?q14 ?q15 ?q16 ?q17 ?q18 ?q19 ?q20 ?q21 ?q22 ?q23 ?q24 ?q25 ?q26 ?q27 ?q28 ?q29 ?q30 ?q31 ?q32 ?q33 ?q34 ?q35 ?q36 ?q37 ?q38 ?q39 ?q40 ?q41 ?q42 ?q43 ?q44 ?q45 ?q46 ?q47 ?q48 ?q49 ?q50 ?q51 ?q52 ?q53 ?q54 ?q55 ?q56 ?q57 ?q58 ?q59 ?q60 ?q61 ?q62 ?q63 ?q64 ?q65 ?q66 ?q67 ?q68 ?q69 ?q70 ?q71 ?q72 ?q73 ?q74 ?q75 ?q76 ?q77 ?q78 ?q79 ?q80 ?q81
    (case q0 => k_is)
    (case q1 => k_is)
    (case q2 => k_is)
    (case q3 => k_is)
    (case q4 => k_is)
    (case q5 => k_is)
    (case q6 => k_is)
    (case q7 => k_is)
    (case q8 => k_is)
    (case q9 => k_is)
    (case q10 => k_is)
    (case q11 => k_is)
    (case q12 => k_is)
    (case q13 => k_is)
    (case q14 => k_is)
    (case q15 => k_is)
    (case q16 => k_is)
    (case q17 => k_is)
    (case q18 => k_is)
    (case q19 => k_is)
    (case q20 => k_is)
    (case q21 => k_is)
    (case q22 => k_is)
    (case q23 => k_is)
    (case q24 => k_is)
    (case q25 => k_is)
    (case q26 => k_is)
    (case q27 => k_is)
    (case q28 => k_is)
    (case q29 => k_is)
    (case q30 => k_is)
    (case q31 => k_is)
    (case q32 => k_is)
    (case q33 => k_is)
    (case q34 => k_is)
    (case q35 => k_is)
    (case q36 => k_is)
    (case q37 => k_is)
    (case q38 => k_is)
    (case q39 => k_is)
    (case q40 => k_is)
    (case q41 => k_is)
    (case q42 => k_is)
    (case q43 => k_is)
    (case q44 => k_is)
    (case q45 => k_is)
    (case q46 => k_is)
    (case q47 => k_is)
    (case q48 => k_is)
    (case q49 => k_is)
    (case q50 => k_is)
    (case q51 => k_is)
    (case q52 => k_is)
    (case q53 => k_is)
    (case q54 => k_is)
    (case q55 => k_is)
    (case q56 => k_is)
    (case q57 => k_is)
    (case q58 => k_is)
    (case q59 => k_is)
    (case q60 => k_is)
    (case q61 => k_is)
    (case q62 => k_is)
    (case q63 => k_is)
    (case q64 => k_is)
    (case q65 => k_is)
    (case q66 => k_is)
    (case q67 => k_is)
    (case q68 => k_is)
    (case q69 => k_is)
    (case q70 => k_is)
    (case q71 => k_is)
    (case q72 => k_is)
    (case q73 => k_is)
    (case q74 => k_is)
    (case q75 => k_is)
    (case q76 => k_is)
    (case q77 => k_is)
    (case q78 => k_is)
    (case q79 => k_is)
    (case q80 => k_is)
    (case q81 => k_is)
#print axioms PySem.Challenge.cw_stillrounds_k06_texts_of_worlds_holds

