import PyProof.Rows.All
import Wide.All
import OpenK.AllK
import Wide.FinOn
import HandS.ForMost
import HandS.ForExc
import HandS.ExcInit
import HandS.ExcField
import HandS.ExcIs
import HandS.IsInst
import HandS.TupAny
import HandS.Deep
import HandS.Conv
import HandS.Text
import HandS.Iter
import HandS.Style
import HandS.WordsExc
import KE.KExcIs
import HandS.RaiseMore
import HandS.TupMul
import HandS.More
import HandS.List
import KE.GoesEnumKw
import KE.GoesMore
import PyProof.StrLawsIn
import PySem.Challenge.RW_stillrounds_k10_whole_spoilt_texts_of_ru
set_option Elab.async false
set_option linter.all false
set_option maxRecDepth 100000
set_option maxHeartbeats 4000000
/-! Den: plain values and plain heaps beside the machine's own; a program's parts as plain functions over them. -/
namespace Den
open PySem L2

/-! ### 1. values, objects, states, results: nothing of the machine -/
inductive D where
  | non | bl (b : Bool) | int (i : Int) | str (x : Str) | tup (xs : List D) | ro (xs : List D) | ref (n : Nat) | ty (n : String) | cls (n : Str)
  deriving Inhabited
inductive Ob where
  | lst (xs : List D) | dct (kvs : List (Key × D)) | fdct (kvs : List (Key × D))
structure DS where
  loc : List (Option D)
  h : List Ob
structure Xn where
  cls : Str
  fs : List (Str × D)
inductive Res (α : Type) where
  | ok (a : α) (S : DS) | exc (e : Xn) (S : DS) | stuck
inductive Fl where
  | next | ret (d : D) | brk | cont
namespace Res
def bind {α β : Type} (r : Res α) (k : α → DS → Res β) : Res β := match r with
  | .ok a S => k a S
  | .exc e S => .exc e S
  | .stuck => .stuck
def map {α β : Type} (f : α → β) (r : Res α) : Res β := r.bind fun a S => .ok (f a) S
@[simp] theorem bind_ok {α β : Type} (a : α) (S : DS) (k : α → DS → Res β) : (Res.ok a S).bind k = k a S := rfl
@[simp] theorem bind_exc {α β : Type} (e : Xn) (S : DS) (k : α → DS → Res β) : (Res.exc e S : Res α).bind k = .exc e S := rfl
@[simp] theorem bind_stuck {α β : Type} (k : α → DS → Res β) : (Res.stuck : Res α).bind k = .stuck := rfl
end Res
abbrev DE := DS → Res D
abbrev DT := DS → Res Bool
abbrev DA := DS → Res (List D)
abbrev DSt := DS → Res Fl
/-- a def: its arguments, the objects; what it gives, with the objects behind it -/
abbrev Fn := List D → List Ob → Res D

/-! ### 2. how they stand in the machine -/
section
variable (K : PySem.W.Frag) (cm : Str → Value)
/-- a list that nobody writes -/
def SqR (H : Hp) (a : Addr) (xs : List V) : Prop :=
  (∃ o, H a = some (.frz o (.lst xs))) ∨
    ∃ (o : Obj) (its : Array Value) (n : Nat), K.lookup a = some o ∧ o.cls = .type "list" ∧ o.dict = none ∧ o.data = .seq its n ∧ its.size ≤ sizeLine ∧ Vals xs its.toList
mutual
inductive Rep (L : List Addr) (H : Hp) : D → V → Prop
  | non : Rep L H .non .non
  | bl (b : Bool) : Rep L H (.bl b) (.bl b)
  | int (i : Int) : Rep L H (.int i) (.int i)
  | str (x : Str) : Rep L H (.str x) (.str x)
  | ty (n : String) : Rep L H (.ty n) (.ty n)
  | cls {n : Str} {a : Addr} : cm n = .ref a → Rep L H (.cls n) (.ref a)
  | tup {xs : List D} {vs : List V} {a : Addr} : SqT K H a vs → Reps L H xs vs → Rep L H (.tup xs) (.ref a)
  | ro {xs : List D} {vs : List V} {a : Addr} : SqR K H a vs → Reps L H xs vs → Rep L H (.ro xs) (.ref a)
  | ref {n : Nat} {a : Addr} : L[n]? = some a → Rep L H (.ref n) (.ref a)
inductive Reps (L : List Addr) (H : Hp) : List D → List V → Prop
  | nil : Reps L H [] []
  | cons {d : D} {ds : List D} {v : V} {vs : List V} : Rep L H d v → Reps L H ds vs → Reps L H (d :: ds) (v :: vs)
end
/-- a dict's entries -/
inductive RepK (L : List Addr) (H : Hp) : List (Key × D) → List (Key × V) → Prop
  | nil : RepK L H [] []
  | cons {k : Key} {d : D} {v : V} {ds : List (Key × D)} {vs : List (Key × V)} : Rep K cm L H d v → RepK L H ds vs → RepK L H ((k, d) :: ds) ((k, v) :: vs)
def ObR (L : List Addr) (H : Hp) (a : Addr) : Ob → Prop
  | .lst ds => ∃ vs, H a = some (.lst vs) ∧ Reps K cm L H ds vs
  | .dct ds => ∃ vs, H a = some (.dK vs) ∧ RepK K cm L H ds vs
  | .fdct ds => ∃ o vs, H a = some (.frz o (.dK vs)) ∧ RepK K cm L H ds vs
structure HAb (L : List Addr) (H : Hp) (h : List Ob) : Prop where
  nd : L.Nodup
  len : L.length = h.length
  obs : ∀ (n : Nat) (ob : Ob) (a : Addr), h[n]? = some ob → L[n]? = some a → ObR K cm L H a ob
def LocR (L : List Addr) (H : Hp) (ls : List (Option D)) (σ : St) : Prop :=
  ls.length = σ.length ∧ ∀ (i : Nat) (d : D), ls[i]? = some (some d) → ∃ v, σ[i]? = some (some v) ∧ Rep K cm L H d v
structure AbS (L : List Addr) (H : Hp) (S : DS) (σ : St) : Prop where
  hp : HAb K cm L H S.h
  loc : LocR K cm L H S.loc σ
/-- the heap has gone on -/
structure Ext (L : List Addr) (H : Hp) (L' : List Addr) (H' : Hp) : Prop where
  pre : ∃ M, L' = L ++ M ∧ ∀ a ∈ M, H a = none
  tup : ∀ a vs, SqT K H a vs → SqT K H' a vs
  rol : ∀ a vs, SqR K H a vs → SqR K H' a vs
  oth : ∀ a o, a ∉ L → H a = some o → H' a = some o
  thr : ∀ a o, H a = some o → ∃ o', H' a = some o'
  frz : ∀ a o u, H a = some (.frz o u) → H' a = some (.frz o u)
/-- an exception: its class, its own dict -/
def XnR (L : List Addr) (H : Hp) (e : Xn) (c : Value) (dx : Option Addr) : Prop :=
  c = cm e.cls ∧ ((e.fs = [] ∧ dx = none) ∨ ∃ d vs, dx = some d ∧ H d = some (.xd vs) ∧ ∀ f x, e.fs.lookup f = some x → ∃ v, vs.lookup f = some v ∧ Rep K cm L H x v)
end

section
variable {K : PySem.W.Frag} {cm : Str → Value} {L L' L1 L2' : List Addr} {H H' H1 H2 : Hp} {S S' : DS} {σ : St}
theorem Ext.refl : Ext K L H L H := ⟨⟨[], by simp, by simp⟩, fun _ _ h => h, fun _ _ h => h, fun _ _ _ h => h, fun _ o h => ⟨o, h⟩, fun _ _ _ h => h⟩
theorem Ext.trans (a : Ext K L H L1 H1) (b : Ext K L1 H1 L' H') : Ext K L H L' H' := by
  obtain ⟨M1, e1, n1⟩ := a.pre
  obtain ⟨M2, e2, n2⟩ := b.pre
  have nn : ∀ x, H1 x = none → H x = none := fun x q => by
    cases z : H x with
    | none => rfl
    | some o =>
      obtain ⟨o', z'⟩ := a.thr x o z
      rw [q] at z'; cases z'
  refine ⟨⟨M1 ++ M2, by rw [e2, e1, List.append_assoc], fun x hx => ?_⟩, fun x vs h => b.tup x vs (a.tup x vs h), fun x vs h => b.rol x vs (a.rol x vs h), fun x o hx h => ?_, fun x o h => ?_, fun x o u h => b.frz x o u (a.frz x o u h)⟩
  · rcases List.mem_append.mp hx with q | q
    · exact n1 x q
    · exact nn x (n2 x q)
  · refine b.oth x o (fun q => ?_) (a.oth x o hx h)
    rw [e1] at q
    rcases List.mem_append.mp q with q | q
    · exact hx q
    · rw [n1 x q] at h; cases h
  · obtain ⟨o1, h1⟩ := a.thr x o h
    exact b.thr x o1 h1
theorem Ext.ix (a : Ext K L H L' H') {n : Nat} {x : Addr} (h : L[n]? = some x) : L'[n]? = some x := by
  obtain ⟨M, e, _⟩ := a.pre
  rw [e, List.getElem?_append_left (List.getElem?_eq_some_iff.mp h).1]
  exact h
/-- what values lean on -/
structure ExtW (K : PySem.W.Frag) (L : List Addr) (H : Hp) (L' : List Addr) (H' : Hp) : Prop where
  pre : ∃ M, L' = L ++ M
  tup : ∀ a vs, SqT K H a vs → SqT K H' a vs
  rol : ∀ a vs, SqR K H a vs → SqR K H' a vs
theorem Ext.w (e : Ext K L H L' H') : ExtW K L H L' H' := ⟨let ⟨M, q, _⟩ := e.pre; ⟨M, q⟩, e.tup, e.rol⟩
theorem ExtW.ix (a : ExtW K L H L' H') {n : Nat} {x : Addr} (h : L[n]? = some x) : L'[n]? = some x := by
  obtain ⟨M, e⟩ := a.pre
  rw [e, List.getElem?_append_left (List.getElem?_eq_some_iff.mp h).1]
  exact h
mutual
theorem Rep.monoW (e : ExtW K L H L' H') : ∀ {d : D} {v : V}, Rep K cm L H d v → Rep K cm L' H' d v
  | _, _, .non => .non
  | _, _, .bl b => .bl b
  | _, _, .int i => .int i
  | _, _, .str x => .str x
  | _, _, .ty n => .ty n
  | _, _, .cls h => .cls h
  | _, _, .tup h r => .tup (e.tup _ _ h) (Reps.monoW e r)
  | _, _, .ro h r => .ro (e.rol _ _ h) (Reps.monoW e r)
  | _, _, .ref h => .ref (e.ix h)
theorem Reps.monoW (e : ExtW K L H L' H') : ∀ {ds : List D} {vs : List V}, Reps K cm L H ds vs → Reps K cm L' H' ds vs
  | _, _, .nil => .nil
  | _, _, .cons r t => .cons (Rep.monoW e r) (Reps.monoW e t)
end
theorem RepK.monoW (e : ExtW K L H L' H') : ∀ {ds : List (Key × D)} {vs : List (Key × V)}, RepK K cm L H ds vs → RepK K cm L' H' ds vs
  | _, _, .nil => .nil
  | _, _, .cons r t => .cons (r.monoW e) (RepK.monoW e t)
theorem LocR.monoW {ls : List (Option D)} (e : ExtW K L H L' H') (h : LocR K cm L H ls σ) : LocR K cm L' H' ls σ :=
  ⟨h.1, fun i d q => let ⟨v, a, r⟩ := h.2 i d q; ⟨v, a, r.monoW e⟩⟩
mutual
theorem Rep.mono (e : Ext K L H L' H') : ∀ {d : D} {v : V}, Rep K cm L H d v → Rep K cm L' H' d v
  | _, _, .non => .non
  | _, _, .bl b => .bl b
  | _, _, .int i => .int i
  | _, _, .str x => .str x
  | _, _, .ty n => .ty n
  | _, _, .cls h => .cls h
  | _, _, .tup h r => .tup (e.tup _ _ h) (Reps.mono e r)
  | _, _, .ro h r => .ro (e.rol _ _ h) (Reps.mono e r)
  | _, _, .ref h => .ref (e.ix h)
theorem Reps.mono (e : Ext K L H L' H') : ∀ {ds : List D} {vs : List V}, Reps K cm L H ds vs → Reps K cm L' H' ds vs
  | _, _, .nil => .nil
  | _, _, .cons r t => .cons (Rep.mono e r) (Reps.mono e t)
end
theorem RepK.mono (e : Ext K L H L' H') : ∀ {ds : List (Key × D)} {vs : List (Key × V)}, RepK K cm L H ds vs → RepK K cm L' H' ds vs
  | _, _, .nil => .nil
  | _, _, .cons r t => .cons (r.mono e) (RepK.mono e t)
theorem LocR.mono {ls : List (Option D)} (e : Ext K L H L' H') (h : LocR K cm L H ls σ) : LocR K cm L' H' ls σ :=
  ⟨h.1, fun i d q => let ⟨v, a, r⟩ := h.2 i d q; ⟨v, a, r.mono e⟩⟩
theorem Reps.length : ∀ {ds : List D} {vs : List V}, Reps K cm L H ds vs → ds.length = vs.length
  | _, _, .nil => rfl
  | _, _, .cons _ t => by rw [List.length_cons, List.length_cons, Reps.length t]
theorem Reps.get : ∀ {ds : List D} {vs : List V} {i : Nat} {d : D}, Reps K cm L H ds vs → ds[i]? = some d → ∃ v, vs[i]? = some v ∧ Rep K cm L H d v
  | _, _, _, _, .nil, q => by simp at q
  | _, _, 0, _, .cons r _, q => by simp at q; subst q; exact ⟨_, rfl, r⟩
  | _, _, i + 1, _, .cons _ t, q => by
    obtain ⟨v, a, r⟩ := Reps.get (i := i) t (by simpa using q)
    exact ⟨v, by simpa using a, r⟩
theorem Reps.back : ∀ {ds : List D} {vs : List V} {i : Nat} {v : V}, Reps K cm L H ds vs → vs[i]? = some v → ∃ d, ds[i]? = some d ∧ Rep K cm L H d v
  | _, _, _, _, .nil, q => by simp at q
  | _, _, 0, _, .cons r _, q => by simp at q; subst q; exact ⟨_, rfl, r⟩
  | _, _, i + 1, _, .cons _ t, q => by
    obtain ⟨v, a, r⟩ := Reps.back (i := i) t (by simpa using q)
    exact ⟨v, by simpa using a, r⟩
theorem Reps.append : ∀ {ds es : List D} {vs ws : List V}, Reps K cm L H ds vs → Reps K cm L H es ws → Reps K cm L H (ds ++ es) (vs ++ ws)
  | _, _, _, _, .nil, q => q
  | _, _, _, _, .cons r t, q => .cons r (Reps.append t q)
theorem Reps.take : ∀ {ds : List D} {vs : List V} (n : Nat), Reps K cm L H ds vs → Reps K cm L H (ds.take n) (vs.take n)
  | _, _, 0, _ => .nil
  | _, _, _ + 1, .nil => .nil
  | _, _, n + 1, .cons r t => .cons r (Reps.take n t)
theorem Reps.drop : ∀ {ds : List D} {vs : List V} (n : Nat), Reps K cm L H ds vs → Reps K cm L H (ds.drop n) (vs.drop n)
  | _, _, 0, r => r
  | _, _, _ + 1, .nil => .nil
  | _, _, n + 1, .cons _ t => Reps.drop n t
theorem Reps.set {d : D} {v : V} (r : Rep K cm L H d v) : ∀ {ds : List D} {vs : List V} (n : Nat), Reps K cm L H ds vs → Reps K cm L H (ds.set n d) (vs.set n v)
  | _, _, _, .nil => .nil
  | _, _, 0, .cons _ t => .cons r t
  | _, _, n + 1, .cons q t => .cons q (Reps.set r n t)
theorem ints_reps : ∀ ns : List Int, Reps K cm L H (ns.map D.int) (ns.map V.int)
  | [] => .nil
  | n :: ns => .cons (.int n) (ints_reps ns)

/-- what is tracked of ours stands in the heap -/
theorem HAb.there {h : List Ob} (x : HAb K cm L H h) {a : Addr} (ha : a ∈ L) : ∃ o, H a = some o := by
  obtain ⟨n, hn, e⟩ := List.getElem_of_mem ha
  have hl : n < h.length := by rw [← x.len]; exact hn
  have q := x.obs n h[n] a (by simp [hl]) (by rw [List.getElem?_eq_getElem hn, e])
  generalize h[n] = ob at q
  cases ob with
  | lst ds => obtain ⟨vs, e, _⟩ := q; exact ⟨_, e⟩
  | dct ds => obtain ⟨vs, e, _⟩ := q; exact ⟨_, e⟩
  | fdct ds => obtain ⟨o, vs, e, _⟩ := q; exact ⟨_, e⟩
theorem HAb.fresh {h : List Ob} (x : HAb K cm L H h) {p : Addr} (hp : H p = none) : p ∉ L := fun q => by
  obtain ⟨o, e⟩ := x.there q
  rw [hp] at e; cases e
/-- an object beside ours -/
theorem Ext.beside {p : Addr} {o : HO} (hp : H p = none) : Ext K L H L (upd H p o) := by
  have k : ∀ a u, H a = some u → upd H p o a = some u := fun a u e => by rw [upd_ne (ne_of_none e hp)]; exact e
  refine ⟨⟨[], by simp, by simp⟩, fun a vs h => ?_, fun a vs h => ?_, fun a u _ e => k a u e, fun a u e => ⟨u, k a u e⟩, fun a q u e => k a _ e⟩
  · rcases h with (h | ⟨q, h⟩) | h
    · exact .inl (.inl (k _ _ h))
    · exact .inl (.inr ⟨q, k _ _ h⟩)
    · exact .inr h
  · rcases h with ⟨q, h⟩ | h
    · exact .inl ⟨q, k _ _ h⟩
    · exact .inr h
theorem ObR.mono {a : Addr} {ob : Ob} (e : Ext K L H L' H') (ha : ∀ o, H a = some o → H' a = some o) (h : ObR K cm L H a ob) : ObR K cm L' H' a ob := by
  cases ob with
  | lst ds => obtain ⟨vs, q, r⟩ := h; exact ⟨vs, ha _ q, r.mono e⟩
  | dct ds => obtain ⟨vs, q, r⟩ := h; exact ⟨vs, ha _ q, r.mono e⟩
  | fdct ds => obtain ⟨o, vs, q, r⟩ := h; exact ⟨o, vs, ha _ q, r.mono e⟩
theorem HAb.beside {h : List Ob} {p : Addr} {o : HO} (x : HAb K cm L H h) (hp : H p = none) : HAb K cm L (upd H p o) h :=
  ⟨x.nd, x.len, fun n ob a e1 e2 => (x.obs n ob a e1 e2).mono (Ext.beside hp) fun u q => by rw [upd_ne (ne_of_none q hp)]; exact q⟩
theorem AbS.beside {p : Addr} {o : HO} (x : AbS K cm L H S σ) (hp : H p = none) : AbS K cm L (upd H p o) S σ := ⟨x.hp.beside hp, x.loc.mono (Ext.beside hp)⟩
/-- a new object of ours -/
theorem Ext.new {p : Addr} {o : HO} (hp : H p = none) : Ext K L H (L ++ [p]) (upd H p o) := by
  have b : Ext K L H L (upd H p o) := Ext.beside hp
  exact ⟨⟨[p], rfl, fun a ha => by rw [List.mem_singleton.mp ha]; exact hp⟩, b.tup, b.rol, b.oth, b.thr, b.frz⟩
theorem HAb.new {h : List Ob} {p : Addr} {o : HO} {ob : Ob} (x : HAb K cm L H h) (hp : H p = none) (r : ObR K cm (L ++ [p]) (upd H p o) p ob) : HAb K cm (L ++ [p]) (upd H p o) (h ++ [ob]) := by
  have np := x.fresh hp
  refine ⟨?_, by rw [List.length_append, List.length_append, x.len]; rfl, fun n ob' a e1 e2 => ?_⟩
  · rw [List.nodup_append]
    exact ⟨x.nd, by simp, fun a ha b hb => by rw [List.mem_singleton.mp hb]; exact fun z => np (z ▸ ha)⟩
  · by_cases hn : n < h.length
    · rw [List.getElem?_append_left hn] at e1
      rw [List.getElem?_append_left (by rw [x.len]; exact hn)] at e2
      exact (x.obs n ob' a e1 e2).mono (Ext.new hp) fun u q => by rw [upd_ne (ne_of_none q hp)]; exact q
    · rw [List.getElem?_append_right (Nat.le_of_not_lt hn)] at e1
      rw [List.getElem?_append_right (by rw [x.len]; exact Nat.le_of_not_lt hn)] at e2
      have e0 : n - h.length = 0 := by
        cases z : n - h.length with
        | zero => rfl
        | succ m => rw [z] at e1; simp at e1
      rw [x.len, e0] at e2
      rw [e0] at e1
      simp at e1 e2
      subst e1; subst e2
      exact r
theorem AbS.new {p : Addr} {o : HO} {ob : Ob} (x : AbS K cm L H S σ) (hp : H p = none) (r : ObR K cm (L ++ [p]) (upd H p o) p ob) : AbS K cm (L ++ [p]) (upd H p o) { S with h := S.h ++ [ob] } σ :=
  ⟨x.hp.new hp r, x.loc.mono (Ext.new hp)⟩
theorem HAb.newIx {h : List Ob} (x : HAb K cm L H h) {p : Addr} : (L ++ [p])[h.length]? = some p := by
  rw [← x.len, List.getElem?_append_right (Nat.le_refl _)]; simp
theorem ObR.monoW {a : Addr} {ob : Ob} (e : ExtW K L H L' H') (ha : ∀ o, H a = some o → H' a = some o) (h : ObR K cm L H a ob) : ObR K cm L' H' a ob := by
  cases ob with
  | lst ds => obtain ⟨vs, q, r⟩ := h; exact ⟨vs, ha _ q, r.monoW e⟩
  | dct ds => obtain ⟨vs, q, r⟩ := h; exact ⟨vs, ha _ q, r.monoW e⟩
  | fdct ds => obtain ⟨o, vs, q, r⟩ := h; exact ⟨o, vs, ha _ q, r.monoW e⟩
/-- what we write on -/
def Wr (H : Hp) (a : Addr) : Prop := (∃ vs, H a = some (.lst vs)) ∨ ∃ vs, H a = some (.dK vs)
theorem Ext.put {h : List Ob} {n : Nat} {a : Addr} {o : HO} (x : HAb K cm L H h) (ha : L[n]? = some a) (hw : Wr H a) : Ext K L H L (upd H a o) := by
  have hm := List.mem_of_getElem? ha
  have k : ∀ b u, H b = some u → (∀ vs, u ≠ .lst vs) → (∀ vs, u ≠ .dK vs) → upd H a o b = some u := fun b u e h1 h2 => by
    by_cases z : b = a
    · subst z
      rcases hw with ⟨vs, q⟩ | ⟨vs, q⟩
      · rw [q] at e; cases e; exact absurd rfl (h1 vs)
      · rw [q] at e; cases e; exact absurd rfl (h2 vs)
    · rw [upd_ne z]; exact e
  refine ⟨⟨[], by simp, by simp⟩, fun b vs h => ?_, fun b vs h => ?_, fun b u nb e => ?_, fun b u e => ?_, fun b q u e => k _ _ e (fun _ z => nomatch z) fun _ z => nomatch z⟩
  · rcases h with (h | ⟨q, h⟩) | h
    · exact .inl (.inl (k _ _ h (fun _ z => nomatch z) fun _ z => nomatch z))
    · exact .inl (.inr ⟨q, k _ _ h (fun _ z => nomatch z) fun _ z => nomatch z⟩)
    · exact .inr h
  · rcases h with ⟨q, h⟩ | h
    · exact .inl ⟨q, k _ _ h (fun _ z => nomatch z) fun _ z => nomatch z⟩
    · exact .inr h
  · rw [upd_ne (fun z : b = a => nb (by rw [z]; exact hm))]; exact e
  · by_cases z : b = a
    · subst z; exact ⟨o, upd_same⟩
    · rw [upd_ne z]; exact ⟨u, e⟩
theorem HAb.put {h : List Ob} {n : Nat} {a : Addr} {o : HO} {ob : Ob} (x : HAb K cm L H h) (ha : L[n]? = some a) (hw : Wr H a) (r : ObR K cm L (upd H a o) a ob) : HAb K cm L (upd H a o) (h.set n ob) := by
  refine ⟨x.nd, by rw [List.length_set]; exact x.len, fun m ob' b e1 e2 => ?_⟩
  by_cases hm : m = n
  · subst hm
    have hl : m < h.length := by rw [← x.len]; exact (List.getElem?_eq_some_iff.mp ha).1
    rw [List.getElem?_set_self hl] at e1
    rw [ha] at e2
    cases e1; cases e2
    exact r
  · rw [List.getElem?_set_ne (Ne.symm hm)] at e1
    have nb : b ≠ a := fun z => by
      subst z
      obtain ⟨h1, q1⟩ := List.getElem?_eq_some_iff.mp e2
      obtain ⟨h2, q2⟩ := List.getElem?_eq_some_iff.mp ha
      exact hm ((List.getElem_inj x.nd).mp (q1.trans q2.symm))
    exact (x.obs m ob' b e1 e2).mono (Ext.put x ha hw) fun u q => by rw [upd_ne nb]; exact q
theorem AbS.put {n : Nat} {a : Addr} {o : HO} {ob : Ob} (x : AbS K cm L H S σ) (ha : L[n]? = some a) (hw : Wr H a) (r : ObR K cm L (upd H a o) a ob) : AbS K cm L (upd H a o) { S with h := S.h.set n ob } σ :=
  ⟨x.hp.put ha hw r, x.loc.mono (Ext.put x.hp ha hw)⟩
/-- an object beside ours becomes ours -/
theorem ExtW.adopt {p : Addr} {o : HO} (hw : Wr H p) : ExtW K L H (L ++ [p]) (upd H p o) := by
  have k : ∀ b u, H b = some u → (∀ vs, u ≠ .lst vs) → (∀ vs, u ≠ .dK vs) → upd H p o b = some u := fun b u e h1 h2 => by
    by_cases z : b = p
    · subst z
      rcases hw with ⟨vs, q⟩ | ⟨vs, q⟩
      · rw [q] at e; cases e; exact absurd rfl (h1 vs)
      · rw [q] at e; cases e; exact absurd rfl (h2 vs)
    · rw [upd_ne z]; exact e
  refine ⟨⟨[p], rfl⟩, fun b vs h => ?_, fun b vs h => ?_⟩
  · rcases h with (h | ⟨q, h⟩) | h
    · exact .inl (.inl (k _ _ h (fun _ z => nomatch z) fun _ z => nomatch z))
    · exact .inl (.inr ⟨q, k _ _ h (fun _ z => nomatch z) fun _ z => nomatch z⟩)
    · exact .inr h
  · rcases h with ⟨q, h⟩ | h
    · exact .inl ⟨q, k _ _ h (fun _ z => nomatch z) fun _ z => nomatch z⟩
    · exact .inr h
theorem HAb.adopt {h : List Ob} {p : Addr} {o : HO} {ob : Ob} (x : HAb K cm L H h) (np : p ∉ L) (hw : Wr H p) (r : ObR K cm (L ++ [p]) (upd H p o) p ob) : HAb K cm (L ++ [p]) (upd H p o) (h ++ [ob]) := by
  refine ⟨?_, by rw [List.length_append, List.length_append, x.len]; rfl, fun n ob' a e1 e2 => ?_⟩
  · rw [List.nodup_append]
    exact ⟨x.nd, by simp, fun a ha b hb => by rw [List.mem_singleton.mp hb]; exact fun z => np (z ▸ ha)⟩
  · by_cases hn : n < h.length
    · rw [List.getElem?_append_left hn] at e1
      rw [List.getElem?_append_left (by rw [x.len]; exact hn)] at e2
      have na : a ≠ p := fun z => np (z ▸ List.mem_of_getElem? e2)
      exact (x.obs n ob' a e1 e2).monoW (ExtW.adopt hw) fun u q => by rw [upd_ne na]; exact q
    · rw [List.getElem?_append_right (Nat.le_of_not_lt hn)] at e1
      rw [List.getElem?_append_right (by rw [x.len]; exact Nat.le_of_not_lt hn)] at e2
      have e0 : n - h.length = 0 := by
        cases z : n - h.length with
        | zero => rfl
        | succ m => rw [z] at e1; simp at e1
      rw [x.len, e0] at e2
      rw [e0] at e1
      simp at e1 e2
      subst e1; subst e2
      exact r
theorem Ext.adopt {p : Addr} {o1 o2 : HO} (hp : H p = none) (pf : p ∉ L) (e : Ext K L (upd H p o1) L1 H1) (hw : Wr (upd H p o1) p) : p ∉ L1 ∧ H1 p = some o1 ∧ Wr H1 p ∧ Ext K L H (L1 ++ [p]) (upd H1 p o2) := by
  obtain ⟨M, e1, nM⟩ := e.pre
  have h1 : H1 p = some o1 := e.oth p o1 pf upd_same
  have np : p ∉ L1 := fun q => by
    rw [e1] at q
    rcases List.mem_append.mp q with q | q
    · exact pf q
    · have z := nM p q
      rw [upd_same] at z; cases z
  have w1 : Wr H1 p := by
    rcases hw with ⟨vs, q⟩ | ⟨vs, q⟩
    · rw [upd_same] at q; cases q; exact .inl ⟨vs, h1⟩
    · rw [upd_same] at q; cases q; exact .inr ⟨vs, h1⟩
  have b : Ext K L H L (upd H p o1) := Ext.beside hp
  have aw : ExtW K L1 H1 (L1 ++ [p]) (upd H1 p o2) := ExtW.adopt w1
  have be := b.trans e
  refine ⟨np, h1, w1, ⟨M ++ [p], by rw [e1, List.append_assoc], fun a ha => ?_⟩, fun a vs h => aw.tup a vs (be.tup a vs h), fun a vs h => aw.rol a vs (be.rol a vs h), fun a o na h => ?_, fun a o h => ?_, fun a q u h => ?_⟩
  · rcases List.mem_append.mp ha with z | z
    · have q := nM a z
      by_cases ap : a = p
      · rw [ap]; exact hp
      · rw [upd_ne ap] at q; exact q
    · rw [List.mem_singleton.mp z]; exact hp
  · have ap : a ≠ p := fun z => by rw [z, hp] at h; cases h
    rw [upd_ne ap]; exact be.oth a o na h
  · have ap : a ≠ p := fun z => by rw [z, hp] at h; cases h
    rw [upd_ne ap]; exact be.thr a o h
  · have ap : a ≠ p := fun z => by rw [z, hp] at h; cases h
    rw [upd_ne ap]; exact be.frz a q u h
/-- an object of ours read -/
theorem AbS.lst {n : Nat} {v : V} {ds : List D} (x : AbS K cm L H S σ) (r : Rep K cm L H (.ref n) v) (h : S.h[n]? = some (.lst ds)) : ∃ a vs, v = .ref a ∧ L[n]? = some a ∧ H a = some (.lst vs) ∧ Reps K cm L H ds vs := by
  cases r with
  | ref ha =>
    obtain ⟨vs, q, r⟩ := x.hp.obs n _ _ h ha
    exact ⟨_, vs, rfl, ha, q, r⟩
theorem AbS.dct {n : Nat} {v : V} {ds : List (Key × D)} (x : AbS K cm L H S σ) (r : Rep K cm L H (.ref n) v) (h : S.h[n]? = some (.dct ds)) : ∃ a vs, v = .ref a ∧ L[n]? = some a ∧ H a = some (.dK vs) ∧ RepK K cm L H ds vs := by
  cases r with
  | ref ha =>
    obtain ⟨vs, q, r⟩ := x.hp.obs n _ _ h ha
    exact ⟨_, vs, rfl, ha, q, r⟩
end

/-! ### 3. readings: a plain function in place of a reading -/
section
variable (K : PySem.W.Frag) (cm : Str → Value) (W : WX)
/-- what is wanted behind a plain result -/
def Aft {α β : Type} (R : List Addr → Hp → α → β → Prop) (L : List Addr) (σ : St) (H : Hp) (r : Res α) (Q : β → Hp → Prop) : Prop := match r with
  | .ok d S' => ∀ L' H' v, Ext K L H L' H' → AbS K cm L' H' S' σ → R L' H' d v → Q v H'
  | .exc e S' => ∀ L' H' c dx, Ext K L H L' H' → AbS K cm L' H' S' σ → XnR K cm L' H' e c dx → W c dx σ H'
  | .stuck => False
def rd {α β : Type} (R : List Addr → Hp → α → β → Prop) (f : DS → Res α) : St → Hp → (β → Hp → Prop) → Prop := fun σ H Q =>
  ∃ L S, AbS K cm L H S σ ∧ Aft K cm W R L σ H (f S) Q
abbrev rdE (f : DE) : TE := rd K cm W (Rep K cm) f
abbrev rdT (f : DT) : TT := rd K cm W (fun _ _ (b c : Bool) => b = c) f
abbrev rdA (f : DA) : TA := rd K cm W (Reps K cm) f
abbrev rdO (f : DS → Res (Option Int)) : TO := rd K cm W (fun _ _ (b c : Option Int) => b = c) f
/-- a statement's -/
def AftS (L : List Addr) (H : Hp) (r : Res Fl) (E : Ends) : Prop := match r with
  | .ok .next S' => ∀ L' H' σ', Ext K L H L' H' → AbS K cm L' H' S' σ' → E.nx σ' H'
  | .ok .brk S' => ∀ L' H' σ', Ext K L H L' H' → AbS K cm L' H' S' σ' → E.bk σ' H'
  | .ok .cont S' => ∀ L' H' σ', Ext K L H L' H' → AbS K cm L' H' S' σ' → E.ct σ' H'
  | .ok (.ret d) S' => ∀ L' H' σ' v, Ext K L H L' H' → AbS K cm L' H' S' σ' → Rep K cm L' H' d v → E.rt v H'
  | .exc e S' => ∀ L' H' σ' c dx, Ext K L H L' H' → AbS K cm L' H' S' σ' → XnR K cm L' H' e c dx → W c dx σ' H'
  | .stuck => False
def rdS (f : DSt) : TS := fun E σ H => ∃ L S, AbS K cm L H S σ ∧ AftS K cm W L H (f S) E
end
section
variable {K : PySem.W.Frag} {cm : Str → Value} {W : WX} {L L1 : List Addr} {H H1 : Hp} {S : DS} {σ : St} {α β γ δ : Type} {R : List Addr → Hp → α → β → Prop} {R' : List Addr → Hp → γ → δ → Prop}
theorem Aft.ext {r : Res α} {Q : β → Hp → Prop} (e : Ext K L H L1 H1) (h : Aft K cm W R L σ H r Q) : Aft K cm W R L1 σ H1 r Q := by
  cases r with
  | ok d S' => exact fun L' H' v x y z => h L' H' v (e.trans x) y z
  | exc u S' => exact fun L' H' c dx x y z => h L' H' c dx (e.trans x) y z
  | stuck => exact h
/-- THE STEP: first r, then k -/
theorem Aft.step {r : Res α} {k : α → DS → Res γ} {Q : δ → Hp → Prop} (h : Aft K cm W R' L σ H (r.bind k) Q) :
    Aft K cm W R L σ H r (fun v H1 => ∃ L1 S1 d, Ext K L H L1 H1 ∧ AbS K cm L1 H1 S1 σ ∧ R L1 H1 d v ∧ Aft K cm W R' L1 σ H1 (k d S1) Q) := by
  cases r with
  | ok d S' => exact fun L' H' v x y z => ⟨L', S', d, x, y, z, Aft.ext x h⟩
  | exc u S' => exact h
  | stuck => exact h
theorem Aft.mono {r : Res α} {Q Q' : β → Hp → Prop} (h : Aft K cm W R L σ H r Q) (q : ∀ v H', Q v H' → Q' v H') : Aft K cm W R L σ H r Q' := by
  cases r with
  | ok d S' => exact fun L' H' v x y z => q _ _ (h L' H' v x y z)
  | exc u S' => exact h
  | stuck => exact h
/-- behind a value that is there -/
theorem Aft.give {d : α} {v : β} {Q : β → Hp → Prop} (h : Aft K cm W R L σ H (.ok d S) Q) (x : AbS K cm L H S σ) (r : R L H d v) : Q v H := h L H v Ext.refl x r
theorem Aft.giveE {d : α} {v : β} {Q : β → Hp → Prop} (h : Aft K cm W R L σ H (.ok d S) Q) (e : Ext K L H L1 H1) (x : AbS K cm L1 H1 S σ) (r : R L1 H1 d v) : Q v H1 := h L1 H1 v e x r
theorem AftS.ext {r : Res Fl} {E : Ends} (e : Ext K L H L1 H1) (h : AftS K cm W L H r E) : AftS K cm W L1 H1 r E := by
  cases r with
  | ok d S' =>
    cases d with
    | next => exact fun L' H' s x y => h L' H' s (e.trans x) y
    | brk => exact fun L' H' s x y => h L' H' s (e.trans x) y
    | cont => exact fun L' H' s x y => h L' H' s (e.trans x) y
    | ret d => exact fun L' H' s v x y z => h L' H' s v (e.trans x) y z
  | exc u S' => exact fun L' H' s c dx x y z => h L' H' s c dx (e.trans x) y z
  | stuck => exact h
theorem AftS.step {r : Res α} {k : α → DS → Res Fl} {E : Ends} (h : AftS K cm W L H (r.bind k) E) :
    Aft K cm W R L σ H r (fun v H1 => ∃ L1 S1 d, Ext K L H L1 H1 ∧ AbS K cm L1 H1 S1 σ ∧ R L1 H1 d v ∧ AftS K cm W L1 H1 (k d S1) E) := by
  cases r with
  | ok d S' => exact fun L' H' v x y z => ⟨L', S', d, x, y, z, AftS.ext x h⟩
  | exc u S' => exact fun L' H' c dx x y z => h L' H' σ c dx x y z
  | stuck => exact h
end
theorem weakE {X : Cx} {e : Expr} {t t' : TE} (h : PE X e t) (w : ∀ σ H Q, t' σ H Q → t σ H Q) : PE X e t' := ⟨fun pins s σ H Q I q => h.run pins s σ H Q I (w _ _ _ q)⟩
theorem weakT {X : Cx} {e : Expr} {t t' : TT} (h : PT X e t) (w : ∀ σ H Q, t' σ H Q → t σ H Q) : PT X e t' := ⟨fun pins s σ H Q I q => h.run pins s σ H Q I (w _ _ _ q)⟩
theorem weakW {X : Cx} {e : Expr} {t t' : TT} (h : PW X e t) (w : ∀ σ H Q, t' σ H Q → t σ H Q) : PW X e t' := ⟨fun wh pins s σ H Q I q => h.run wh pins s σ H Q I (w _ _ _ q)⟩
theorem weakA {X : Cx} {e : List Expr} {t t' : TA} (h : PA X e t) (w : ∀ σ H Q, t' σ H Q → t σ H Q) : PA X e t' := ⟨fun pos pins s σ H Q I q => h.run pos pins s σ H Q I (w _ _ _ q)⟩
theorem weakS {X : Cx} {e : Stmt} {t t' : TS} (h : PS X e t) (w : ∀ σ H Q, t' σ H Q → t σ H Q) : PS X e t' := ⟨fun pins s σ H Q I q => h.run pins s σ H Q I (w _ _ _ q)⟩
theorem weakSs {X : Cx} {e : List Stmt} {t t' : TS} (h : PSs X e t) (w : ∀ σ H Q, t' σ H Q → t σ H Q) : PSs X e t' := ⟨fun pins s σ H Q I q => h.run pins s σ H Q I (w _ _ _ q)⟩
end Den

namespace Den
open PySem L2

/-! ### 4. operators on plain values -/
def mxL : Nat := 1000000
theorem mx_line {n : Nat} (h : n ≤ mxL) : n ≤ sizeLine := Nat.le_trans h (by rw [sizeLine_eq]; decide)
theorem mx_lt {n : Nat} (h : n < mxL) : n < sizeLine := Nat.lt_of_lt_of_le h (by rw [sizeLine_eq]; decide)
def newO (ob : Ob) (S : DS) : Res D := .ok (.ref S.h.length) { S with h := S.h ++ [ob] }
def oAdd : D → D → DS → Res D := fun x y S => match x, y with
  | .int i, .int j => .ok (.int (i + j)) S
  | .str a, .str b => if a.length + b.length ≤ mxL then .ok (.str (a ++ b)) S else .stuck
  | .tup a, .tup b => if a.length + b.length ≤ mxL then .ok (.tup (a ++ b)) S else .stuck
  | .ref n, .ref m => match S.h[n]?, S.h[m]? with
    | some (.lst a), some (.lst b) => if a.length + b.length ≤ mxL then newO (.lst (a ++ b)) S else .stuck
    | _, _ => .stuck
  | _, _ => .stuck
def oSub : D → D → DS → Res D := fun x y S => match x, y with
  | .int i, .int j => .ok (.int (i - j)) S
  | _, _ => .stuck
def oMul : D → D → DS → Res D := fun x y S => match x, y with
  | .int i, .int j => if (-(2 ^ 64) < i ∧ i < 2 ^ 64) ∨ (-(2 ^ 64) < j ∧ j < 2 ^ 64) then .ok (.int (i * j)) S else .stuck
  | _, _ => .stuck
def oMod : D → D → DS → Res D := fun x y S => match x, y with
  | .int i, .int j => if 0 < j then .ok (.int (i % j)) S else .stuck
  | _, _ => .stuck
def oDiv : D → D → DS → Res D := fun x y S => match x, y with
  | .int i, .int j => if 0 < j ∧ j < 1073741824 then .ok (.int (i / j)) S else .stuck
  | _, _ => .stuck
def oPow : D → D → DS → Res D := fun x y S => match x, y with
  | .int i, .int j => if 0 ≤ j ∧ j ≤ 1000 ∧ i.natAbs < 2 ^ 64 then .ok (.int (i ^ j.toNat)) S else .stuck
  | _, _ => .stuck
def oLt : D → D → DS → Res D := fun x y S => match x, y with
  | .int i, .int j => .ok (.bl (decide (i < j))) S
  | _, _ => .stuck
def oLe : D → D → DS → Res D := fun x y S => match x, y with
  | .int i, .int j => .ok (.bl (decide (i ≤ j))) S
  | _, _ => .stuck
def oGt : D → D → DS → Res D := fun x y S => match x, y with
  | .int i, .int j => .ok (.bl (decide (j < i))) S
  | _, _ => .stuck
def oGe : D → D → DS → Res D := fun x y S => match x, y with
  | .int i, .int j => .ok (.bl (decide (j ≤ i))) S
  | _, _ => .stuck
def isNon : D → Bool
  | .non => true
  | _ => false
def oIsN : D → D → DS → Res D := fun x y S => match y with
  | .non => .ok (.bl (isNon x)) S
  | _ => .stuck
def oNotN : D → D → DS → Res D := fun x y S => match y with
  | .non => .ok (.bl (!isNon x)) S
  | _ => .stuck

/-- the library's data of a plain value -/
def toPy (h : List Ob) : Nat → D → Option PyData
  | _, .non => some .none
  | _, .bl b => some (.bool b)
  | _, .int i => some (.int i)
  | _, .str x => some (.str x)
  | n + 1, .tup xs => (xs.mapM (toPy h n)).map .tuple
  | n + 1, .ro xs => (xs.mapM (toPy h n)).map .list
  | n + 1, .ref k => match h[k]? with
    | some (.lst xs) => (xs.mapM (toPy h n)).map .list
    | _ => none
  | _, _ => none
def pyD (S : DS) (d : D) : Option PyData := toPy S.h 20 d
def oEq : D → D → DS → Res D := fun x y S => match pyD S x, pyD S y with
  | some p, some q => if SeqAt.shaped p && SeqAt.shaped q then .ok (.bl (PyData.eqv p q)) S else .stuck
  | _, _ => .stuck
def oNe : D → D → DS → Res D := fun x y S => match pyD S x, pyD S y with
  | some p, some q => if SeqAt.shaped p && SeqAt.shaped q then .ok (.bl (!PyData.eqv p q)) S else .stuck
  | _, _ => .stuck
def keyOf : D → Option Key
  | .int i => some (.inl i)
  | .str x => some (.inr x)
  | _ => none
def valD (kvs : List (Key × D)) (k : Key) : Option D := (kvs.find? fun p => decide (p.1 = k)).map fun p => p.2
def hasD (kvs : List (Key × D)) (k : Key) : Bool := kvs.any fun p => decide (p.1 = k)
def putD (kvs : List (Key × D)) (k : Key) (d : D) : List (Key × D) := if hasD kvs k = true then kvs.map (fun p => if p.1 = k then (p.1, d) else p) else kvs ++ [(k, d)]

section
variable (X : Cx) (cm : Str → Value) (W : WX)
def ROp (r : R2) (f : D → D → DS → Res D) : Prop := ∀ {L : List Addr} {H : Hp} {S : DS} {σ : St} {x y : V} {d e : D} {Q : VK}, AbS X.K cm L H S σ → Rep X.K cm L H d x → Rep X.K cm L H e y →
  Aft X.K cm W (Rep X.K cm) L σ H (f d e S) Q → r x y H Q
end
def dBin (f : D → D → DS → Res D) (a b : DE) : DE := fun S => (a S).bind fun x S1 => (b S1).bind fun y S2 => f x y S2
section
variable {X : Cx} {cm : Str → Value} {W : WX}
theorem rd_bin {r : R2} {f : D → D → DS → Res D} {fa fb : DE} (h : ROp X cm W r f) {σ : St} {H : Hp} {Q : VK} (q : rdE X.K cm W (dBin f fa fb) σ H Q) : tOp r (rdE X.K cm W fa) (rdE X.K cm W fb) σ H Q := by
  obtain ⟨L, S, x, q⟩ := q
  refine ⟨L, S, x, (Aft.step (R := Rep X.K cm) q).mono fun v H1 z => ?_⟩
  obtain ⟨L1, S1, d, e1, x1, r1, q1⟩ := z
  refine ⟨L1, S1, x1, (Aft.step (R := Rep X.K cm) q1).mono fun u H2 z => ?_⟩
  obtain ⟨L2, S2, d2, e2, x2, r2, q2⟩ := z
  exact h x2 (r1.mono e2) r2 q2

theorem rop_int {g : Int → Int → V} {g' : Int → Int → D} (hg : ∀ L H i j, Rep X.K cm L H (g' i j) (g i j)) {f : D → D → DS → Res D}
    (hf : ∀ d e S, (∃ i j, d = .int i ∧ e = .int j ∧ f d e S = .ok (g' i j) S) ∨ f d e S = .stuck) : ROp X cm W (rI0 g) f := by
  intro L H S σ x y d e Q a r1 r2 q
  rcases hf d e S with ⟨i, j, rfl, rfl, h⟩ | h
  · rw [h] at q
    cases r1; cases r2
    exact ⟨i, j, rfl, rfl, q.give a (hg ..)⟩
  · rw [h] at q
    exact q.elim
theorem rop_intC {C : Int → Int → Prop} {g : Int → Int → V} {g' : Int → Int → D} (hg : ∀ L H i j, Rep X.K cm L H (g' i j) (g i j)) {f : D → D → DS → Res D}
    (hf : ∀ d e S, (∃ i j, d = .int i ∧ e = .int j ∧ C i j ∧ f d e S = .ok (g' i j) S) ∨ f d e S = .stuck) : ROp X cm W (rI C g) f := by
  intro L H S σ x y d e Q a r1 r2 q
  rcases hf d e S with ⟨i, j, rfl, rfl, hc, h⟩ | h
  · rw [h] at q
    cases r1; cases r2
    exact ⟨i, j, rfl, rfl, hc, q.give a (hg ..)⟩
  · rw [h] at q
    exact q.elim
theorem ro_lt : ROp X cm W (rI0 fun i j => .bl (decide (i < j))) oLt := rop_int (g' := fun i j => .bl (decide (i < j))) (fun _ _ _ _ => .bl _) fun d e S => by
  unfold oLt; split
  · exact .inl ⟨_, _, rfl, rfl, rfl⟩
  · exact .inr rfl
theorem ro_le : ROp X cm W (rI0 fun i j => .bl (decide (i ≤ j))) oLe := rop_int (g' := fun i j => .bl (decide (i ≤ j))) (fun _ _ _ _ => .bl _) fun d e S => by
  unfold oLe; split
  · exact .inl ⟨_, _, rfl, rfl, rfl⟩
  · exact .inr rfl
theorem ro_gt : ROp X cm W (rI0 fun i j => .bl (decide (j < i))) oGt := rop_int (g' := fun i j => .bl (decide (j < i))) (fun _ _ _ _ => .bl _) fun d e S => by
  unfold oGt; split
  · exact .inl ⟨_, _, rfl, rfl, rfl⟩
  · exact .inr rfl
theorem ro_ge : ROp X cm W (rI0 fun i j => .bl (decide (j ≤ i))) oGe := rop_int (g' := fun i j => .bl (decide (j ≤ i))) (fun _ _ _ _ => .bl _) fun d e S => by
  unfold oGe; split
  · exact .inl ⟨_, _, rfl, rfl, rfl⟩
  · exact .inr rfl
theorem ro_sub : ROp X cm W (rI0 fun i j => .int (i - j)) oSub := rop_int (g' := fun i j => .int (i - j)) (fun _ _ _ _ => .int _) fun d e S => by
  unfold oSub; split
  · exact .inl ⟨_, _, rfl, rfl, rfl⟩
  · exact .inr rfl
theorem ro_mul : ROp X cm W (rI CMul fun i j => .int (i * j)) oMul := rop_intC (g' := fun i j => .int (i * j)) (fun _ _ _ _ => .int _) fun d e S => by
  unfold oMul; split
  · split
    · rename_i h; exact .inl ⟨_, _, rfl, rfl, h, rfl⟩
    · exact .inr rfl
  · exact .inr rfl
theorem ro_mod : ROp X cm W (rI (fun _ j => 0 < j) fun i j => .int (i % j)) oMod := rop_intC (g' := fun i j => .int (i % j)) (fun _ _ _ _ => .int _) fun d e S => by
  unfold oMod; split
  · split
    · rename_i h; exact .inl ⟨_, _, rfl, rfl, h, rfl⟩
    · exact .inr rfl
  · exact .inr rfl
theorem ro_div : ROp X cm W (rI CDiv fun i j => .int (i / j)) oDiv := rop_intC (g' := fun i j => .int (i / j)) (fun _ _ _ _ => .int _) fun d e S => by
  unfold oDiv; split
  · split
    · rename_i h; exact .inl ⟨_, _, rfl, rfl, h, rfl⟩
    · exact .inr rfl
  · exact .inr rfl
theorem ro_pow : ROp X cm W (rI CPow fun i j => .int (i ^ j.toNat)) oPow := rop_intC (g' := fun i j => .int (i ^ j.toNat)) (fun _ _ _ _ => .int _) fun d e S => by
  unfold oPow; split
  · split
    · rename_i h; exact .inl ⟨_, _, rfl, rfl, ⟨h.1, Int.le_trans h.2.1 (by decide), h.2.2⟩, rfl⟩
    · exact .inr rfl
  · exact .inr rfl
theorem isNon_iff {K : PySem.W.Frag} {L : List Addr} {H : Hp} {d : D} {v : V} (r : Rep K cm L H d v) : decide (v = .non) = isNon d := by
  cases r <;> simp [isNon]
theorem ro_isN : ROp X cm W (fun x y H Q => y = .non ∧ Q (.bl (decide (x = .non))) H) oIsN := by
  intro L H S σ x y d e Q a r1 r2 q
  unfold oIsN at q
  split at q
  · cases r2
    refine ⟨rfl, ?_⟩
    rw [isNon_iff r1]
    exact q.give a (.bl _)
  · exact q.elim
theorem ro_notN : ROp X cm W (fun x y H Q => y = .non ∧ Q (.bl (!decide (x = .non))) H) oNotN := by
  intro L H S σ x y d e Q a r1 r2 q
  unfold oNotN at q
  split at q
  · cases r2
    refine ⟨rfl, ?_⟩
    rw [isNon_iff r1]
    exact q.give a (.bl _)
  · exact q.elim
/-- a new list of ours -/
theorem give_new {L : List Addr} {H : Hp} {S : DS} {σ : St} {ds : List D} {vs : List V} {Q : VK} (a : AbS X.K cm L H S σ) (r : Reps X.K cm L H ds vs) (q : Aft X.K cm W (Rep X.K cm) L σ H (newO (.lst ds) S) Q) {p : Addr} (hp : H p = none) : Q (.ref p) (upd H p (.lst vs)) :=
  q.giveE (Ext.new hp) (a.new hp ⟨vs, upd_same, r.mono (Ext.new hp)⟩) (.ref a.hp.newIx)
theorem ro_add : ROp X cm W (fun x y H Q => (rI0 (fun i j => .int (i + j)) x y H Q ∨ (∃ i j, x = .str i ∧ y = .str j ∧ i.length + j.length ≤ sizeLine ∧ Q (.str (i ++ j)) H)) ∨ (rCatA X.K x y H Q ∨ rCat x y H Q)) oAdd := by
  intro L H S σ x y d e Q a r1 r2 q
  unfold oAdd at q
  split at q
  · cases r1; cases r2
    exact .inl (.inl ⟨_, _, rfl, rfl, q.give a (.int _)⟩)
  · split at q
    · rename_i h
      cases r1; cases r2
      exact .inl (.inr ⟨_, _, rfl, rfl, mx_line h, q.give a (.str _)⟩)
    · exact q.elim
  · split at q
    · rename_i h
      cases r1 with
      | tup h1 r1 =>
        cases r2 with
        | tup h2 r2 =>
          have rr := r1.append r2
          refine .inr (.inl ⟨_, _, _, _, rfl, rfl, h1, h2, mx_line (by rw [← r1.length, ← r2.length]; exact h), fun z => ?_, fun z1 z2 => ?_, fun _ _ p hp => ?_⟩)
          · subst z
            cases r1
            exact q.give a (.tup h2 r2)
          · subst z2
            cases r2
            rw [List.append_nil] at q
            exact q.give a (.tup h1 r1)
          · exact q.giveE (Ext.beside hp) (a.beside hp) (.tup (.inl (.inl upd_same)) (rr.mono (Ext.beside hp)))
    · exact q.elim
  · split at q
    · rename_i h1 h2
      split at q
      · rename_i h
        obtain ⟨p1, vs1, rfl, g1, e1, q1⟩ := a.lst r1 h1
        obtain ⟨p2, vs2, rfl, g2, e2, q2⟩ := a.lst r2 h2
        exact .inr (.inr ⟨_, _, _, _, rfl, rfl, e1, e2, mx_line (by rw [← q1.length, ← q2.length]; exact h), fun p hp => give_new a (q1.append q2) q hp⟩)
      · exact q.elim
    · exact q.elim
  · exact q.elim

/-! ### 5. data of any depth -/
theorem mapM_nil' {α β : Type} {f : α → Option β} : [].mapM f = some [] := rfl
theorem mapM_some {α β : Type} {f : α → Option β} {x : α} {xs : List α} {ys : List β} (h : (x :: xs).mapM f = some ys) : ∃ y r, f x = some y ∧ xs.mapM f = some r ∧ ys = y :: r := by
  rw [List.mapM_cons] at h
  cases e1 : f x with
  | none => rw [e1] at h; cases h
  | some y =>
    rw [e1] at h
    cases e2 : xs.mapM f with
    | none => simp [e2] at h
    | some r =>
      simp [e2] at h
      exact ⟨y, r, rfl, rfl, h.symm⟩
theorem SqR.sq {K : PySem.W.Frag} {H : Hp} {a : Addr} {xs : List V} (h : SqR K H a xs) : SqL K H a xs := by
  rcases h with ⟨o, h⟩ | h
  · exact .inl (.inr ⟨o, h⟩)
  · exact .inr h
theorem toPys_rep {K : PySem.W.Frag} {L : List Addr} {H : Hp} {f : D → Option PyData} (hf : ∀ d v p, Rep K cm L H d v → f d = some p → Dp K H v p) :
    ∀ {ds : List D} {vs : List V} {ps : List PyData}, Reps K cm L H ds vs → ds.mapM f = some ps → DpAll K H vs ps
  | _, _, _, .nil, h => by
    rw [mapM_nil'] at h; cases h; exact .nil
  | _, _, _, .cons r t, h => by
    obtain ⟨y, q, h1, h2, rfl⟩ := mapM_some h
    exact .cons (hf _ _ _ r h1) (toPys_rep hf t h2)
theorem toPy_rep {K : PySem.W.Frag} {L : List Addr} {H : Hp} {h : List Ob} (a : HAb K cm L H h) : ∀ (n : Nat) (d : D) (v : V) (p : PyData), Rep K cm L H d v → toPy h n d = some p → Dp K H v p := by
  intro n
  induction n with
  | zero =>
    intro d v p r e
    cases r <;> simp [toPy] at e <;> subst e
    · exact .non
    · exact .bl _
    · exact .int _
    · exact .str _
  | succ n ih =>
    intro d v p r e
    cases r with
    | non => simp [toPy] at e; subst e; exact .non
    | bl b => simp [toPy] at e; subst e; exact .bl _
    | int b => simp [toPy] at e; subst e; exact .int _
    | str b => simp [toPy] at e; subst e; exact .str _
    | ty b => simp [toPy] at e
    | cls b => simp [toPy] at e
    | tup hs r =>
      simp only [toPy, Option.map_eq_some_iff] at e
      obtain ⟨ps, e1, rfl⟩ := e
      exact .tup hs (toPys_rep ih r e1)
    | ro hs r =>
      simp only [toPy, Option.map_eq_some_iff] at e
      obtain ⟨ps, e1, rfl⟩ := e
      exact .lst hs.sq (toPys_rep ih r e1)
    | ref hL =>
      simp only [toPy] at e
      split at e
      · rename_i xs hx
        obtain ⟨ps, e1, rfl⟩ := Option.map_eq_some_iff.mp e
        obtain ⟨vs, q, r⟩ := a.obs _ _ _ hx hL
        exact .lst (SqL.of q) (toPys_rep ih r e1)
      · cases e
theorem pyD_rep {L : List Addr} {H : Hp} {S : DS} {σ : St} {K : PySem.W.Frag} (a : AbS K cm L H S σ) {d : D} {v : V} {p : PyData} (r : Rep K cm L H d v) (e : pyD S d = some p) : Dp K H v p := toPy_rep a.hp 20 d v p r e
theorem ro_eq : ROp X cm W (rEqD X.K) oEq := by
  intro L H S σ x y d e Q a r1 r2 q
  unfold oEq at q
  split at q
  · rename_i p1 p2 h1 h2
    split at q
    · rename_i h
      obtain ⟨s1, s2⟩ := Bool.and_eq_true_iff.mp h
      exact ⟨_, _, pyD_rep a r1 h1, pyD_rep a r2 h2, s1, s2, q.give a (.bl _)⟩
    · exact q.elim
  · exact q.elim
theorem ro_ne : ROp X cm W (rNeD X.K) oNe := by
  intro L H S σ x y d e Q a r1 r2 q
  unfold oNe at q
  split at q
  · rename_i p1 p2 h1 h2
    split at q
    · rename_i h
      obtain ⟨s1, s2⟩ := Bool.and_eq_true_iff.mp h
      exact ⟨_, _, pyD_rep a r1 h1, pyD_rep a r2 h2, s1, s2, q.give a (.bl _)⟩
    · exact q.elim
  · exact q.elim

/-! ### 6. expressions -/
def dVar (i : Nat) : DE := fun S => match S.loc[i]? with
  | some (some d) => .ok d S
  | _ => .stuck
def dC (d : D) : DE := fun S => .ok d S
def dNil : DA := fun S => .ok [] S
def dCons (a : DE) (r : DA) : DA := fun S => (a S).bind fun d S1 => (r S1).bind fun ds S2 => .ok (d :: ds) S2
def dTup (a : DA) : DE := fun S => (a S).bind fun ds S1 => if ds.length ≤ mxL then .ok (.tup ds) S1 else .stuck
def dLst (a : DA) : DE := fun S => (a S).bind fun ds S1 => if ds.length ≤ mxL then newO (.lst ds) S1 else .stuck
def toB : D → DS → Res Bool := fun d S => match d with
  | .bl b => .ok b S
  | _ => .stuck
def tV (a : DE) : DT := fun S => (a S).bind toB
def tAndD (a b : DT) : DT := fun S => (a S).bind fun c S1 => if c then b S1 else .ok false S1
def tOrD (a b : DT) : DT := fun S => (a S).bind fun c S1 => if c then .ok true S1 else b S1
def tNotD (a : DT) : DT := fun S => (a S).bind fun c S1 => .ok (!c) S1
def dAnd (a b : DE) : DE := fun S => (a S).bind fun d S1 => (toB d S1).bind fun c S2 => if c then b S2 else .ok (.bl false) S2
def dOr (a b : DE) : DE := fun S => (a S).bind fun d S1 => (toB d S1).bind fun c S2 => if c then .ok (.bl true) S2 else b S2
def dNot (a : DE) : DE := fun S => (a S).bind fun d S1 => (toB d S1).bind fun c S2 => .ok (.bl (!c)) S2
def dIf (t : DT) (a b : DE) : DE := fun S => (t S).bind fun c S1 => if c then a S1 else b S1

variable {e e1 e2 : Expr} {es : List Expr} {pos : Pos} {fa fb : DE} {ga : DA} {ta tb : DT}
theorem e_var (i : Nat) {x : Str} (hN : X.N[i]? = some x := by rfl) (hv : Vis X.env.scope x := by first | exact Or.inl rfl | exact Or.inr (Or.inl rfl) | exact Or.inr (Or.inr rfl)) (hd : (x == ("__debug__" : Str)) = false := by decide)
    (hcd : (x == ("__classdict__" : Str)) = false := by decide) : PE X (.Name x pos) (rdE X.K cm W (dVar i)) := weakE (pe_var hN hv hd hcd) fun σ H Q q => by
  obtain ⟨L, S, a, q⟩ := q
  unfold dVar at q
  split at q
  · rename_i d h
    obtain ⟨v, e, r⟩ := a.loc.2 i d h
    exact ⟨v, e, q.give a r⟩
  · exact q.elim
theorem rd_c {d : D} {v : V} (r : ∀ L H, Rep X.K cm L H d v) {σ : St} {H : Hp} {Q : VK} (q : rdE X.K cm W (dC d) σ H Q) : tC v σ H Q := by
  obtain ⟨L, S, a, q⟩ := q
  exact q.give a (r L H)
theorem e_int {i : Int} {j} : PE X (.Constant (.int i) j pos) (rdE X.K cm W (dC (.int i))) := weakE pe_int fun _ _ _ => rd_c fun _ _ => .int i
theorem e_str {i : Str} {j} : PE X (.Constant (.str i) j pos) (rdE X.K cm W (dC (.str i))) := weakE pe_str fun _ _ _ => rd_c fun _ _ => .str i
theorem e_bl {i : Bool} {j} : PE X (.Constant (.bool i) j pos) (rdE X.K cm W (dC (.bl i))) := weakE pe_bl fun _ _ _ => rd_c fun _ _ => .bl i
theorem e_non {j} : PE X (.Constant .none j pos) (rdE X.K cm W (dC .non)) := weakE pe_non fun _ _ _ => rd_c fun _ _ => .non
/-- a constant of the module -/
theorem e_glob {x : Str} {d : D} {v : V} {u : Value} (hg : Gl X x) (hm : X.mg x = some u) (ru : RelV v u) (r : ∀ L H, Rep X.K cm L H d v) (hd : (x == ("__debug__" : Str)) = false := by decide) : PE X (.Name x pos) (rdE X.K cm W (dC d)) :=
  weakE (pe_glob hg hm ru hd) fun _ _ _ => rd_c r
theorem e_op {op : Operator} {r : R2} {f : D → D → DS → Res D} (ho : OpR X (binaryOp op) r) (h : ROp X cm W r f) (ha : PE X e1 (rdE X.K cm W fa)) (hb : PE X e2 (rdE X.K cm W fb)) : PE X (.BinOp e1 op e2 pos) (rdE X.K cm W (dBin f fa fb)) :=
  weakE (pe_op ho ha hb) fun _ _ _ => rd_bin h
theorem e_cmp {op : CmpOp} {r : R2} {f : D → D → DS → Res D} (ho : OpR X (compareOp op) r) (h : ROp X cm W r f) (hm : behindInMarks op e2 = false) (ha : PE X e1 (rdE X.K cm W fa)) (hb : PE X e2 (rdE X.K cm W fb)) : PE X (.Compare e1 [op] [e2] pos) (rdE X.K cm W (dBin f fa fb)) :=
  weakE (pe_cmpR ho ha hb hm) fun _ _ _ => rd_bin h
theorem rd_test {f : DE} {t : TE} (h : ∀ σ H Q, rdE X.K cm W f σ H Q → t σ H Q) {σ : St} {H : Hp} {Q : Bool → Hp → Prop} (q : rdT X.K cm W (tV f) σ H Q) : tTest t σ H Q := by
  obtain ⟨L, S, a, q⟩ := q
  refine h _ _ _ ⟨L, S, a, (Aft.step (R := Rep X.K cm) q).mono fun v H1 z => ?_⟩
  obtain ⟨L1, S1, d, e1, x1, r1, q1⟩ := z
  unfold toB at q1
  split at q1
  · cases r1
    exact ⟨_, rfl, q1.give x1 rfl⟩
  · exact q1.elim
theorem t_cmp {op : CmpOp} {r : R2} {f : D → D → DS → Res D} (ho : OpR X (compareOp op) r) (h : ROp X cm W r f) (hm : behindInMarks op e2 = false) (ha : PE X e1 (rdE X.K cm W fa)) (hb : PE X e2 (rdE X.K cm W fb)) : PT X (.Compare e1 [op] [e2] pos) (rdT X.K cm W (tV (dBin f fa fb))) :=
  weakT (pt_cmpR ho ha hb hm) fun _ _ _ => rd_test fun _ _ _ => rd_bin h
theorem t_val (he : PE X e (rdE X.K cm W fa)) (hp : ∀ whole, isTrue e X.env whole = (do let v ← whole; standAt e.pos; holding [v] (truthy v)) := by intro _; rfl) : PT X e (rdT X.K cm W (tV fa)) :=
  weakT (pt_val he hp) fun _ _ _ => rd_test (t := rdE X.K cm W fa) fun _ _ _ q => q
theorem w_and1 (h : PT X e (rdT X.K cm W ta)) : PW X (.BoolOp .And [e] pos) (rdT X.K cm W ta) := pw_and1 h
theorem w_or1 (h : PT X e (rdT X.K cm W ta)) : PW X (.BoolOp .Or [e] pos) (rdT X.K cm W ta) := pw_or1 h
theorem w_and (h1 : PT X e1 (rdT X.K cm W ta)) (h2 : PW X (.BoolOp .And (e2 :: es) pos) (rdT X.K cm W tb)) : PW X (.BoolOp .And (e1 :: e2 :: es) pos) (rdT X.K cm W (tAndD ta tb)) := weakW (pw_and h1 h2) fun σ H Q q => by
  obtain ⟨L, S, a, q⟩ := q
  refine ⟨L, S, a, (Aft.step (R := fun _ _ (b c : Bool) => b = c) q).mono fun v H1 z => ?_⟩
  obtain ⟨L1, S1, d, e1, x1, r1, q1⟩ := z
  subst r1
  cases d with
  | true => rw [if_pos rfl]; exact ⟨L1, S1, x1, q1⟩
  | false => rw [if_neg (by decide)]; exact q1.give x1 rfl
theorem w_or (h1 : PT X e1 (rdT X.K cm W ta)) (h2 : PW X (.BoolOp .Or (e2 :: es) pos) (rdT X.K cm W tb)) : PW X (.BoolOp .Or (e1 :: e2 :: es) pos) (rdT X.K cm W (tOrD ta tb)) := weakW (pw_or h1 h2) fun σ H Q q => by
  obtain ⟨L, S, a, q⟩ := q
  refine ⟨L, S, a, (Aft.step (R := fun _ _ (b c : Bool) => b = c) q).mono fun v H1 z => ?_⟩
  obtain ⟨L1, S1, d, e1, x1, r1, q1⟩ := z
  subst r1
  cases d with
  | true => rw [if_pos rfl]; exact q1.give x1 rfl
  | false => rw [if_neg (by decide)]; exact ⟨L1, S1, x1, q1⟩
theorem t_not (h : PT X e (rdT X.K cm W ta)) : PT X (.UnaryOp .Not e pos) (rdT X.K cm W (tNotD ta)) := weakT (pt_not h) fun σ H Q q => by
  obtain ⟨L, S, a, q⟩ := q
  refine ⟨L, S, a, (Aft.step (R := fun _ _ (b c : Bool) => b = c) q).mono fun v H1 z => ?_⟩
  obtain ⟨L1, S1, d, e1, x1, r1, q1⟩ := z
  subst r1
  exact q1.give x1 rfl
theorem e_and1 {op} (h : PE X e (rdE X.K cm W fa)) : PE X (.BoolOp op [e] pos) (rdE X.K cm W fa) := pe_one h
theorem e_and (h1 : PE X e1 (rdE X.K cm W fa)) (h2 : PE X (.BoolOp .And (e2 :: es) pos) (rdE X.K cm W fb)) : PE X (.BoolOp .And (e1 :: e2 :: es) pos) (rdE X.K cm W (dAnd fa fb)) := weakE (pe_and h1 h2) fun σ H Q q => by
  obtain ⟨L, S, a, q⟩ := q
  refine ⟨L, S, a, (Aft.step (R := Rep X.K cm) q).mono fun v H1 z => ?_⟩
  obtain ⟨L1, S1, d, e1, x1, r1, q1⟩ := z
  unfold toB at q1
  split at q1
  · cases r1
    rename_i b
    refine ⟨b, rfl, ?_⟩
    cases b with
    | true => rw [if_pos rfl]; exact ⟨L1, S1, x1, q1⟩
    | false => rw [if_neg (by decide)]; exact q1.give x1 (.bl false)
  · exact q1.elim
theorem e_or (h1 : PE X e1 (rdE X.K cm W fa)) (h2 : PE X (.BoolOp .Or (e2 :: es) pos) (rdE X.K cm W fb)) : PE X (.BoolOp .Or (e1 :: e2 :: es) pos) (rdE X.K cm W (dOr fa fb)) := weakE (pe_or h1 h2) fun σ H Q q => by
  obtain ⟨L, S, a, q⟩ := q
  refine ⟨L, S, a, (Aft.step (R := Rep X.K cm) q).mono fun v H1 z => ?_⟩
  obtain ⟨L1, S1, d, e1, x1, r1, q1⟩ := z
  unfold toB at q1
  split at q1
  · cases r1
    rename_i b
    refine ⟨b, rfl, ?_⟩
    cases b with
    | true => rw [if_pos rfl]; exact q1.give x1 (.bl true)
    | false => rw [if_neg (by decide)]; exact ⟨L1, S1, x1, q1⟩
  · exact q1.elim
theorem e_not (h1 : PE X e1 (rdE X.K cm W fa)) : PE X (.UnaryOp .Not e1 pos) (rdE X.K cm W (dNot fa)) := weakE (pe_not h1) fun σ H Q q => by
  obtain ⟨L, S, a, q⟩ := q
  refine ⟨L, S, a, (Aft.step (R := Rep X.K cm) q).mono fun v H1 z => ?_⟩
  obtain ⟨L1, S1, d, e1, x1, r1, q1⟩ := z
  unfold toB at q1
  split at q1
  · cases r1
    exact ⟨_, rfl, q1.give x1 (.bl _)⟩
  · exact q1.elim
theorem e_if (ht : PT X e (rdT X.K cm W ta)) (h1 : PE X e1 (rdE X.K cm W fa)) (h2 : PE X e2 (rdE X.K cm W fb)) : PE X (.IfExp e e1 e2 pos) (rdE X.K cm W (dIf ta fa fb)) := weakE (pe_ifExp ht h1 h2) fun σ H Q q => by
  obtain ⟨L, S, a, q⟩ := q
  refine ⟨L, S, a, (Aft.step (R := fun _ _ (b c : Bool) => b = c) q).mono fun v H1 z => ?_⟩
  obtain ⟨L1, S1, d, e1, x1, r1, q1⟩ := z
  subst r1
  cases d with
  | true => rw [if_pos rfl]; exact ⟨L1, S1, x1, q1⟩
  | false => rw [if_neg (by decide)]; exact ⟨L1, S1, x1, q1⟩
theorem a_nil : PA X [] (rdA X.K cm W dNil) := weakA pa_nil fun σ H Q q => by
  obtain ⟨L, S, a, q⟩ := q
  exact q.give a .nil
theorem a_cons (h : PE X e (rdE X.K cm W fa)) (hr : PA X es (rdA X.K cm W ga)) (hs : starEach (e :: es) X.env = (false, eval e X.env) :: starEach es X.env := by rfl) : PA X (e :: es) (rdA X.K cm W (dCons fa ga)) := weakA (pa_cons h hr hs) fun σ H Q q => by
  obtain ⟨L, S, a, q⟩ := q
  refine ⟨L, S, a, (Aft.step (R := Rep X.K cm) q).mono fun v H1 z => ?_⟩
  obtain ⟨L1, S1, d, e1, x1, r1, q1⟩ := z
  refine ⟨L1, S1, x1, (Aft.step (R := Reps X.K cm) q1).mono fun u H2 z => ?_⟩
  obtain ⟨L2, S2, d2, e2, x2, r2, q2⟩ := z
  exact q2.give x2 (.cons (r1.mono e2) r2)
theorem e_tup {x1} (h : PA X es (rdA X.K cm W ga)) : PE X (.Tuple es x1 pos) (rdE X.K cm W (dTup ga)) := weakE (pe_tup h) fun σ H Q q => by
  obtain ⟨L, S, a, q⟩ := q
  refine ⟨L, S, a, (Aft.step (R := Reps X.K cm) q).mono fun v H1 z => ?_⟩
  obtain ⟨L1, S1, d, e1, x1, r1, q1⟩ := z
  split at q1
  · rename_i h
    refine ⟨mx_line (by rw [← r1.length]; exact h), fun p hp => ?_⟩
    exact q1.giveE (Ext.beside hp) (x1.beside hp) (.tup (.inl (.inl upd_same)) (r1.mono (Ext.beside hp)))
  · exact q1.elim
theorem e_lst (h : PA X es (rdA X.K cm W ga)) : PE X (.List es pos) (rdE X.K cm W (dLst ga)) := weakE (pe_lst h) fun σ H Q q => by
  obtain ⟨L, S, a, q⟩ := q
  refine ⟨L, S, a, (Aft.step (R := Reps X.K cm) q).mono fun v H1 z => ?_⟩
  obtain ⟨L1, S1, d, e1, x1, r1, q1⟩ := z
  split at q1
  · rename_i h
    exact ⟨mx_line (by rw [← r1.length]; exact h), fun p hp => give_new x1 r1 q1 hp⟩
  · exact q1.elim
end
end Den

namespace Den
open PySem L2

/-! ### 7. statements -/
def sNop : DSt := fun S => .ok .next S
def sSeq (a b : DSt) : DSt := fun S => (a S).bind fun f S1 => match f with
  | .next => b S1
  | f => .ok f S1
def sIf (t : DT) (a b : DSt) : DSt := fun S => (t S).bind fun c S1 => if c then a S1 else b S1
def sRet (e : DE) : DSt := fun S => (e S).bind fun d S1 => .ok (.ret d) S1
def sRetN : DSt := fun S => .ok (.ret .non) S
def sExpr (e : DE) : DSt := fun S => (e S).bind fun _ S1 => .ok .next S1
def sBrk : DSt := fun S => .ok .brk S
def sCont : DSt := fun S => .ok .cont S
abbrev DG := D → DS → Option DS
def gN (i : Nat) : DG := fun d S => some { S with loc := S.loc.set i (some d) }
def sAsg (e : DE) (g : DG) : DSt := fun S => (e S).bind fun d S1 => match g d S1 with
  | some S2 => .ok .next S2
  | none => .stuck
/-- targets one by one -/
abbrev DGs := List D → DS → Option DS
def gNil : DGs := fun ds S => match ds with
  | [] => some S
  | _ => none
def gCons (g : DG) (r : DGs) : DGs := fun ds S => match ds with
  | d :: t => (g d S).bind fun S1 => r t S1
  | [] => none
def gTup (n : Nat) (r : DGs) : DG := fun d S => match d with
  | .tup xs => if xs.length = n then r xs S else none
  | _ => none

section
variable (K : PySem.W.Frag) (cm : Str → Value) (W : WX)
/-- behind an assignment -/
def AftG (L : List Addr) (H : Hp) (r : Option DS) (Q : St → Hp → Prop) : Prop := match r with
  | some S' => ∀ L' H' σ', Ext K L H L' H' → AbS K cm L' H' S' σ' → Q σ' H'
  | none => False
def rdG (f : DG) : TG := fun v σ H Q => ∃ L S d, AbS K cm L H S σ ∧ Rep K cm L H d v ∧ AftG K cm L H (f d S) Q
def rdGs (f : DGs) : TGs := fun vs σ H Q => ∃ L S ds, AbS K cm L H S σ ∧ Reps K cm L H ds vs ∧ AftG K cm L H (f ds S) Q
end
section
variable {X : Cx} {cm : Str → Value} {W : WX} {e e1 e2 : Expr} {es : List Expr} {pos : Pos} {fa fb : DE} {ga : DA} {ta tb : DT} {sa sb : DSt} {st : Stmt} {rest rest2 : List Stmt}
theorem LocR.set {K : PySem.W.Frag} {L : List Addr} {H : Hp} {ls : List (Option D)} {σ : St} {d : D} {v : V} (h : LocR K cm L H ls σ) (r : Rep K cm L H d v) (i : Nat) : LocR K cm L H (ls.set i (some d)) (σ.set i (some v)) := by
  refine ⟨by rw [List.length_set, List.length_set]; exact h.1, fun j x q => ?_⟩
  by_cases hj : i = j
  · subst hj
    by_cases hl : i < ls.length
    · rw [List.getElem?_set_self hl] at q
      cases q
      exact ⟨v, List.getElem?_set_self (by rw [← h.1]; exact hl), r⟩
    · rw [List.getElem?_eq_none (by rw [List.length_set]; omega)] at q
      cases q
  · rw [List.getElem?_set_ne hj] at q
    rw [List.getElem?_set_ne hj]
    exact h.2 j x q
theorem AbS.set {K : PySem.W.Frag} {L : List Addr} {H : Hp} {S : DS} {σ : St} {d : D} {v : V} (a : AbS K cm L H S σ) (r : Rep K cm L H d v) (i : Nat) : AbS K cm L H { S with loc := S.loc.set i (some d) } (σ.set i (some v)) := ⟨a.hp, a.loc.set r i⟩
theorem AftG.ext {K : PySem.W.Frag} {L L1 : List Addr} {H H1 : Hp} {r : Option DS} {Q : St → Hp → Prop} (e : Ext K L H L1 H1) (h : AftG K cm L H r Q) : AftG K cm L1 H1 r Q := by
  cases r with
  | some S' => exact fun L' H' s x y => h L' H' s (e.trans x) y
  | none => exact h

theorem ss_nil : PSs X [] (rdS X.K cm W sNop) := weakSs pss_nil fun E σ H q => by
  obtain ⟨L, S, a, q⟩ := q
  exact q L H σ Ext.refl a
theorem rd_seq {E : Ends} {σ : St} {H : Hp} (q : rdS X.K cm W (sSeq sa sb) E σ H) : tSeq (rdS X.K cm W sa) (rdS X.K cm W sb) E σ H := by
  obtain ⟨L, S, a, q⟩ := q
  refine ⟨L, S, a, ?_⟩
  unfold sSeq at q
  generalize sa S = r at q
  cases r with
  | ok f S1 =>
    cases f with
    | next => exact fun L' H' σ' e x => ⟨L', S1, x, AftS.ext e q⟩
    | ret d => exact q
    | brk => exact q
    | cont => exact q
  | exc u S1 => exact q
  | stuck => exact q
theorem ss_cons (h1 : PS X st (rdS X.K cm W sa)) (h2 : PSs X rest (rdS X.K cm W sb)) : PSs X (st :: rest) (rdS X.K cm W (sSeq sa sb)) := weakSs (pss_cons h1 h2) fun _ _ _ => rd_seq
theorem ss_one (h1 : PS X st (rdS X.K cm W sa)) : PSs X [st] (rdS X.K cm W sa) := pss_one h1
theorem s_pass : PS X (.Pass pos) (rdS X.K cm W sNop) := weakS ps_pass fun E σ H q => by
  obtain ⟨L, S, a, q⟩ := q
  exact q L H σ Ext.refl a
theorem s_brk : PS X (.Break pos) (rdS X.K cm W sBrk) := weakS ps_break fun E σ H q => by
  obtain ⟨L, S, a, q⟩ := q
  exact q L H σ Ext.refl a
theorem s_cont : PS X (.Continue pos) (rdS X.K cm W sCont) := weakS ps_continue fun E σ H q => by
  obtain ⟨L, S, a, q⟩ := q
  exact q L H σ Ext.refl a
theorem s_expr (he : PE X e (rdE X.K cm W fa)) (hs : swapsWith e none pos.line X.env = pure false := by rfl) : PS X (.Expr e pos) (rdS X.K cm W (sExpr fa)) := weakS (ps_expr he hs) fun E σ H q => by
  obtain ⟨L, S, a, q⟩ := q
  refine ⟨L, S, a, (AftS.step (R := Rep X.K cm) q).mono fun v H1 z => ?_⟩
  obtain ⟨L1, S1, d, e1, x1, r1, q1⟩ := z
  exact q1 L1 H1 σ Ext.refl x1
theorem s_ret (he : PE X e (rdE X.K cm W fa)) : PS X (.Return (some e) pos) (rdS X.K cm W (sRet fa)) := weakS (ps_ret he) fun E σ H q => by
  obtain ⟨L, S, a, q⟩ := q
  refine ⟨L, S, a, (AftS.step (R := Rep X.K cm) q).mono fun v H1 z => ?_⟩
  obtain ⟨L1, S1, d, e1, x1, r1, q1⟩ := z
  exact q1 L1 H1 σ v Ext.refl x1 r1
theorem s_retN : PS X (.Return none pos) (rdS X.K cm W sRetN) := weakS ps_retN fun E σ H q => by
  obtain ⟨L, S, a, q⟩ := q
  exact q L H σ .non Ext.refl a .non
theorem s_if {c : Expr} {b1 b2 : List Stmt} (hc : PT X c (rdT X.K cm W ta)) (h1 : PSs X b1 (rdS X.K cm W sa)) (h2 : PSs X b2 (rdS X.K cm W sb)) : PS X (.If c b1 b2 pos) (rdS X.K cm W (sIf ta sa sb)) := weakS (ps_if hc h1 h2) fun E σ H q => by
  obtain ⟨L, S, a, q⟩ := q
  refine ⟨L, S, a, (AftS.step (R := fun _ _ (b c : Bool) => b = c) q).mono fun v H1 z => ?_⟩
  obtain ⟨L1, S1, d, e1, x1, r1, q1⟩ := z
  subst r1
  cases d with
  | true => rw [if_pos rfl]; exact ⟨L1, S1, x1, q1⟩
  | false => rw [if_neg (by decide)]; exact ⟨L1, S1, x1, q1⟩
theorem g_name {i : Nat} {x : Str} (hN : X.N.Nodup) (hi : X.N[i]? = some x) (hx : Loc X.env.scope x) (hf : X.fn x = true ∨ X.env.scope.names.lookup x = some .local := by first | exact .inl rfl | exact .inr rfl | assumption) : PG X (.Name x pos) (rdG X.K cm (gN i)) :=
  ⟨fun pins s σ H v u Q I r q => (pg_name hN hi hx hf).run pins s σ H v u Q I r (by
    obtain ⟨L, S, d, a, rd, q⟩ := q
    exact q L H _ Ext.refl (a.set rd i))⟩
theorem gs_nil : PGs X [] (rdGs X.K cm gNil) := ⟨fun pins s σ H vs us Q I r q => pgs_nil.run pins s σ H vs us Q I r (by
  obtain ⟨L, S, ds, a, rd, q⟩ := q
  cases rd with
  | nil => exact ⟨rfl, q L H _ Ext.refl a⟩
  | cons _ _ => exact q.elim)⟩
theorem gs_cons {g : DG} {gs : DGs} (h1 : PG X e (rdG X.K cm g)) (h2 : PGs X es (rdGs X.K cm gs)) (hs : (assignEach (e :: es) X.env).map (·.2) = assign e X.env :: (assignEach es X.env).map (·.2) := by rfl) : PGs X (e :: es) (rdGs X.K cm (gCons g gs)) :=
  ⟨fun pins s σ H vs us Q I r q => (pgs_cons h1 h2 hs).run pins s σ H vs us Q I r (by
    obtain ⟨L, S, ds, a, rd, q⟩ := q
    cases rd with
    | nil => exact q.elim
    | @cons d ds v vs r1 r2 =>
      refine ⟨v, vs, rfl, L, S, d, a, r1, ?_⟩
      unfold gCons at q
      dsimp only at q
      generalize g d S = z at q
      cases z with
      | some S1 => exact fun L' H' σ' e x => ⟨L', S1, ds, x, r2.mono e, AftG.ext e q⟩
      | none => exact q)⟩
theorem g_tup {n : Nat} {k : Nat} {gs : DGs} (hc : X.calm = true) (h : PGs X es (rdGs X.K cm gs)) (hn : (assignEach es X.env).length = n := by rfl) (hst : (assignEach es X.env).findIdx? (·.1) = none := by rfl) : PG X (.Tuple es k pos) (rdG X.K cm (gTup n gs)) :=
  ⟨fun pins s σ H v u Q I r q => (pg_tup hc h hn hst).run pins s σ H v u Q I r (by
    obtain ⟨L, S, d, a, rd, q⟩ := q
    unfold gTup at q
    split at q
    · split at q
      · rename_i hl
        cases rd with
        | tup hq rr => exact ⟨_, _, rfl, hq, by rw [← rr.length]; exact hl, L, S, _, a, rr, q⟩
      · exact q.elim
    · exact q.elim)⟩
theorem rd_asg {g : DG} {E : Ends} {σ : St} {H : Hp} (q : rdS X.K cm W (sAsg fa g) E σ H) : tAsg (rdE X.K cm W fa) (rdG X.K cm g) E σ H := by
  obtain ⟨L, S, a, q⟩ := q
  refine ⟨L, S, a, (AftS.step (R := Rep X.K cm) q).mono fun v H1 z => ?_⟩
  obtain ⟨L1, S1, d, e1, x1, r1, q1⟩ := z
  refine ⟨L1, S1, d, x1, r1, ?_⟩
  generalize g d S1 = z at q1
  cases z with
  | some S2 => exact fun L' H' σ' e x => q1 L' H' σ' e x
  | none => exact q1
theorem s_asg {tg : Expr} {g : DG} (he : PE X e (rdE X.K cm W fa)) (hg : PG X tg (rdG X.K cm g)) (hs : swapsWithSole [tg] e pos.line X.env = pure false := by rfl) (hw : swappedStores [tg] e X.env = pure none := by rfl)
    (h1 : (assignEach [tg] X.env).map (·.2) = [assign tg X.env] := by rfl) : PS X (.Assign [tg] e pos) (rdS X.K cm W (sAsg fa g)) := weakS (ps_asg he hg hs hw h1) fun _ _ _ => rd_asg
/-- a name -/
theorem s_set {i : Nat} {x : Str} {pos' : Pos} (hN : X.N.Nodup) (hi : X.N[i]? = some x) (hx : Loc X.env.scope x) (he : PE X e (rdE X.K cm W fa)) (hs : swapsWith e (some (.Name x pos')) pos.line X.env = pure false := by rfl)
    (hf : X.fn x = true ∨ X.env.scope.names.lookup x = some .local := by first | exact .inl rfl | exact .inr rfl | assumption) : PS X (.Assign [.Name x pos'] e pos) (rdS X.K cm W (sAsg fa (gN i))) := weakS (ps_set hN hi hx he hs hf) fun E σ H q => by
  obtain ⟨L, S, a, q⟩ := q
  refine ⟨L, S, a, (AftS.step (R := Rep X.K cm) q).mono fun v H1 z => ?_⟩
  obtain ⟨L1, S1, d, e1, x1, r1, q1⟩ := z
  exact q1 L1 H1 _ Ext.refl (x1.set r1 i)

/-! ### 8. loops over values that stand still -/
def forV (g : DG) (b : DSt) : List D → DSt
  | [] => fun S => .ok .next S
  | d :: ds => fun S => match g d S with
    | some S1 => (b S1).bind fun f S2 => match f with
      | .next => forV g b ds S2
      | .cont => forV g b ds S2
      | .brk => .ok .next S2
      | .ret d => .ok (.ret d) S2
    | none => .stuck
/-- what a for walks: values that stand still, or what our objects tell at each turn (none: stuck; some none: the end) -/
inductive Iter0 where
  | vals (xs : List D) | dyn (f : List Ob → Nat → Option (Option D))
/-- a list of ours, as it stands at each turn -/
def lstIt (n : Nat) : List Ob → Nat → Option (Option D) := fun h i => match h[n]? with
  | some (.lst xs) => some xs[i]?
  | _ => none
def forO (it : List Ob → Nat → Option (Option D)) (g : DG) (b : DSt) : Nat → Nat → DSt
  | 0, _ => fun _ => .stuck
  | k + 1, i => fun S => match it S.h i with
    | some none => .ok .next S
    | some (some d) => match g d S with
      | some S1 => (b S1).bind fun f S2 => match f with
        | .next => forO it g b k (i + 1) S2
        | .cont => forO it g b k (i + 1) S2
        | .brk => .ok .next S2
        | .ret d => .ok (.ret d) S2
      | none => .stuck
    | none => .stuck
def sFor (it : DS → Res Iter0) (g : DG) (b : DSt) : DSt := fun S => (it S).bind fun I S1 => match I with
  | .vals xs => forV g b xs S1
  | .dyn f => forO f g b 100000 0 S1
section
variable (K : PySem.W.Frag) (cm : Str → Value)
/-- J walks the values xs -/
structure Walks0 (L : List Addr) (H : Hp) (xs : List D) (J : It) : Prop where
  go : ∀ L' H' i d, Ext K L H L' H' → xs[i]? = some d → J.go i H' ∧ ∀ x H2, J.yld i H' x H2 → Ext K L' H' L' H2 ∧ (∀ h, HAb K cm L' H' h → HAb K cm L' H2 h) ∧ Rep K cm L' H2 d x
  stop : ∀ L' H', Ext K L H L' H' → J.stop xs.length H'
/-- J walks what f tells -/
structure WalksD (L : List Addr) (H : Hp) (f : List Ob → Nat → Option (Option D)) (J : It) : Prop where
  go : ∀ L' H' h i d, Ext K L H L' H' → HAb K cm L' H' h → f h i = some (some d) → J.go i H' ∧ ∀ x H2, J.yld i H' x H2 → Ext K L' H' L' H2 ∧ (∀ h', HAb K cm L' H' h' → HAb K cm L' H2 h') ∧ Rep K cm L' H2 d x
  stop : ∀ L' H' h i, Ext K L H L' H' → HAb K cm L' H' h → f h i = some none → J.stop i H'
def ItR (L : List Addr) (H : Hp) (I : Iter0) (J : It) : Prop := match I with
  | .vals xs => Walks0 K cm L H xs J
  | .dyn f => WalksD K cm L H f J
end
/-- an iterable's reading -/
def rdI (K : PySem.W.Frag) (cm : Str → Value) (W : WX) (it : DS → Res Iter0) : TI := rd K cm W (ItR K cm) it
theorem for_vals {xs : List D} {J : It} {g : DG} {b : DSt} {E : Ends} {σ : St} {L1 : List Addr} {H1 : Hp} {S1 : DS} (wk : Walks0 X.K cm L1 H1 xs J) (x1 : AbS X.K cm L1 H1 S1 σ) (q1 : AftS X.K cm W L1 H1 (forV g b xs S1) E) :
    ∃ W' : Nat → Nat → St → Hp → Prop, (∃ m, W' 0 m σ H1) ∧ ∀ i m σ H, W' i m σ H → (J.stop i H ∧ E.nx σ H) ∨ (J.go i H ∧ ∃ N : St → Hp → Prop, (∀ σ' H', N σ' H' → ∃ m', m' < m ∧ W' (i + 1) m' σ' H') ∧
      ∀ x H', J.yld i H x H' → rdG X.K cm g x σ H' fun σ2 H2 => rdS X.K cm W b { E with nx := N, ct := N, bk := E.nx } σ2 H2) := by
  refine ⟨fun i m σ' H' => m = xs.length - i ∧ i ≤ xs.length ∧ ∃ L' S', Ext X.K L1 H1 L' H' ∧ AbS X.K cm L' H' S' σ' ∧ AftS X.K cm W L' H' (forV g b (xs.drop i) S') E, ⟨xs.length, by simp, Nat.zero_le _, L1, S1, Ext.refl, x1, q1⟩, ?_⟩
  rintro i m σ2 H2 ⟨rfl, hi, L2, S2, e2, x2, q2⟩
  by_cases hlt : i < xs.length
  · obtain ⟨go, yl⟩ := wk.go L2 H2 i xs[i] e2 (by simp [hlt])
    refine .inr ⟨go, fun σ' H' => i + 1 ≤ xs.length ∧ ∃ L' S', Ext X.K L1 H1 L' H' ∧ AbS X.K cm L' H' S' σ' ∧ AftS X.K cm W L' H' (forV g b (xs.drop (i + 1)) S') E, fun σ' H' z => ⟨xs.length - (i + 1), by omega, rfl, z⟩, fun x H3 y => ?_⟩
    obtain ⟨e3, hb, rx⟩ := yl x H3 y
    rw [List.drop_eq_getElem_cons hlt] at q2
    refine ⟨L2, S2, xs[i], ⟨hb _ x2.hp, x2.loc.mono e3⟩, rx, ?_⟩
    have q3 := AftS.ext e3 q2
    unfold forV at q3
    generalize g xs[i] S2 = z at q3
    cases z with
    | some S3 =>
      refine fun L4 H4 σ4 e4 x4 => ⟨L4, S3, x4, ?_⟩
      have q4 := AftS.ext e4 q3
      dsimp only at q4
      have e14 := (e2.trans e3).trans e4
      generalize b S3 = z at q4
      cases z with
      | ok f S5 =>
        cases f with
        | next => exact fun L' H' σ' e x => ⟨hlt, L', S5, e14.trans e, x, AftS.ext e q4⟩
        | cont => exact fun L' H' σ' e x => ⟨hlt, L', S5, e14.trans e, x, AftS.ext e q4⟩
        | brk => exact q4
        | ret d => exact q4
      | exc u S5 => exact q4
      | stuck => exact q4
    | none => exact q3
  · have e0 : i = xs.length := by omega
    subst e0
    rw [List.drop_length] at q2
    exact .inl ⟨wk.stop L2 H2 e2, q2 L2 H2 σ2 Ext.refl x2⟩
theorem for_core {it : DS → Res Iter0} {g : DG} {b : DSt} {E : Ends} {σ : St} {H : Hp} (q : rdS X.K cm W (sFor it g b) E σ H) : tFor (rdI X.K cm W it) (rdG X.K cm g) (rdS X.K cm W b) E σ H := by
  obtain ⟨L, S, a, q⟩ := q
  refine ⟨L, S, a, (AftS.step (R := ItR X.K cm) q).mono fun J H1 z => ?_⟩
  obtain ⟨L1, S1, I, e1, x1, r1, q1⟩ := z
  cases I with
  | vals xs =>
    exact for_vals r1 x1 q1
  | dyn n =>
    refine ⟨fun i m σ' H' => ∃ L' S', Ext X.K L1 H1 L' H' ∧ AbS X.K cm L' H' S' σ' ∧ AftS X.K cm W L' H' (forO n g b m i S') E, ⟨100000, L1, S1, Ext.refl, x1, q1⟩, ?_⟩
    rintro i m σ2 H2 ⟨L2, S2, e2, x2, q2⟩
    cases m with
    | zero => exact q2.elim
    | succ m =>
      unfold forO at q2
      split at q2
      · rename_i hn
        exact .inl ⟨r1.stop L2 H2 _ i e2 x2.hp hn, q2 L2 H2 σ2 Ext.refl x2⟩
      · rename_i d hd
        obtain ⟨go, yl⟩ := r1.go L2 H2 _ i d e2 x2.hp hd
        refine .inr ⟨go, fun σ' H' => ∃ L' S', Ext X.K L1 H1 L' H' ∧ AbS X.K cm L' H' S' σ' ∧ AftS X.K cm W L' H' (forO n g b m (i + 1) S') E, fun σ' H' z => ⟨m, Nat.lt_succ_self _, z⟩, fun x H3 y => ?_⟩
        obtain ⟨e3, hb, rx⟩ := yl x H3 y
        refine ⟨L2, S2, d, ⟨hb _ x2.hp, x2.loc.mono e3⟩, rx, ?_⟩
        have q3 := AftS.ext e3 q2
        generalize g d S2 = z at q3
        cases z with
        | some S3 =>
          refine fun L4 H4 σ4 e4 x4 => ⟨L4, S3, x4, ?_⟩
          have q4 := AftS.ext e4 q3
          dsimp only at q4
          have e14 := (e2.trans e3).trans e4
          generalize b S3 = z at q4
          cases z with
          | ok f S5 =>
            cases f with
            | next => exact fun L' H' σ' e x => ⟨L', S5, e14.trans e, x, AftS.ext e q4⟩
            | cont => exact fun L' H' σ' e x => ⟨L', S5, e14.trans e, x, AftS.ext e q4⟩
            | brk => exact q4
            | ret d => exact q4
          | exc u S5 => exact q4
          | stuck => exact q4
        | none => exact q3
      · exact q2.elim
theorem s_for {tg iter : Expr} {body : List Stmt} {it : DS → Res Iter0} {g : DG} {b : DSt} (hp : PassesOwn (model X.prog X.w) X.A X.env X.xe) (hc : X.calm = true) (hi : PI X tg iter (rdI X.K cm W it)) (hg : PG X tg (rdG X.K cm g)) (hb : PSs X body (rdS X.K cm W b))
    (hs : ∀ x, foldedSetIterable iter X.env x = pure x := by intro _; rfl) : PS X (.For tg iter body [] pos) (rdS X.K cm W (sFor it g b)) := weakS (ps_for hp hc hi hg hb hs) fun _ _ _ => for_core
end
end Den

namespace Den
open PySem L2

/-! ### 9. defs: promises over plain values; nothing in the middle of being shown -/
/-- a def that keeps its promise wherever no display is under way -/
structure FnG (P : Program) (w : World) (K : PySem.W.Frag) (mg : Str → Option Value) (base : Heap) (k : Nat) (f : Addr) (fd : FuncData) (ps : List Str) (sp : Sp) : Prop where
  len : ∀ vs H Q E, sp vs H Q E → vs.length = ps.length
  run : ∀ (A : Around) (fr : List Env) (s : Shared) (H : Hp) (args : Args) (us : List Value) (vs : List V) (Q : VK) (E : XK), Room k A → A.guards = some [] → Env0 P w K mg base A fr s H →
    BindsTo s fd args (ps.zip us) → Vals vs us → sp vs H Q E → codeAny (model P w) A (.call (.ref f) args) (CR (L2.CX P w) fr P w H s Q E) s
theorem FnG.mono {P : Program} {w : World} {K : PySem.W.Frag} {mg : Str → Option Value} {base : Heap} {j k : Nat} {f : Addr} {fd : FuncData} {ps : List Str} {sp : Sp} (F : FnG P w K mg base j f fd ps sp) (h : j ≤ k) : FnG P w K mg base k f fd ps sp :=
  ⟨F.len, fun A fr s H args us vs Q E r => F.run A fr s H args us vs Q E (r.mono h)⟩
def wOf (E : XK) : WX := fun c d _ H => E c d H
/-- the promise of a plain def -/
def spD (K : PySem.W.Frag) (cm : Str → Value) (np : Nat) (F : Fn) : Sp := fun vs H Q E => ∃ L ds h, AbS K cm L H ⟨[], h⟩ [] ∧ Reps K cm L H ds vs ∧ ds.length = np ∧ Aft K cm (wOf E) (Rep K cm) L [] H (F ds h) Q
/-- a body as a plain def -/
def runB (n : Nat) (b : DSt) : Fn := fun ds h => match b ⟨ds.map some ++ List.replicate (n - ds.length) none, h⟩ with
  | .ok (.ret d) S => .ok d ⟨[], S.h⟩
  | .ok .next S => .ok .non ⟨[], S.h⟩
  | .ok _ _ => .stuck
  | .exc e S => .exc e ⟨[], S.h⟩
  | .stuck => .stuck
theorem AbS.bare {K : PySem.W.Frag} {cm : Str → Value} {L : List Addr} {H : Hp} {S : DS} {σ : L2.St} (a : AbS K cm L H S σ) : AbS K cm L H ⟨[], S.h⟩ [] := ⟨a.hp, rfl, fun i d h => by simp at h⟩
theorem loc_start {K : PySem.W.Frag} {cm : Str → Value} {L : List Addr} {H : Hp} {ds : List D} {vs : List V} (N : List Str) (r : Reps K cm L H ds vs) : LocR K cm L H (ds.map some ++ List.replicate (N.length - ds.length) none) (L2.start N vs) := by
  unfold L2.start
  refine ⟨by simp [r.length], fun i d h => ?_⟩
  by_cases hi : i < ds.length
  · rw [List.getElem?_append_left (by simpa using hi), List.getElem?_map] at h
    cases q : ds[i]? with
    | none => rw [q] at h; cases h
    | some x =>
      rw [q] at h
      cases h
      obtain ⟨v, hv, rv⟩ := r.get q
      refine ⟨v, ?_, rv⟩
      rw [List.getElem?_append_left (by simpa [← r.length] using hi), List.getElem?_map, hv]
      rfl
  · rw [List.getElem?_append_right (by simpa using hi), List.getElem?_replicate] at h
    split at h <;> cases h
section
variable {P : Program} {w : World} {K : PySem.W.Frag} {mg : Str → Option Value} {base : Heap} {cm : Str → Value}
theorem aft_run {L : List Addr} {H : Hp} {Q : VK} {E : XK} {n : Nat} {b : DSt} {ds : List D} {h : List Ob} (q : Aft K cm (wOf E) (Rep K cm) L [] H (runB n b ds h) Q) :
    AftS K cm (wOf E) L H (b ⟨ds.map some ++ List.replicate (n - ds.length) none, h⟩) { nx := fun _ H' => Q .non H', rt := Q } := by
  unfold runB at q
  generalize b ⟨ds.map some ++ List.replicate (n - ds.length) none, h⟩ = r at q
  cases r with
  | ok f S =>
    cases f with
    | next => exact fun L' H' σ' e x => q L' H' .non e x.bare .non
    | ret d => exact fun L' H' σ' v e x r => q L' H' v e x.bare r
    | brk => exact q.elim
    | cont => exact q.elim
  | exc e S => exact fun L' H' σ' c dx e x r => q L' H' c dx e x.bare r
  | stuck => exact q
/-- THE RULE of a def: from its body's plain form -/
theorem FnG.of {x qual : Str} {st : Stmt} {f : Addr} {fd : FuncData} {N ps : List Str} {k : Nat} {b : DSt} (F : Fun K x qual st f fd) (S : FnScope N ps (defScope st))
    (hbody : ∀ (cdv : Value) (A : Around) (fr : List Env) (s : Shared) (H : Hp) (E : XK), Room k (A.deeper (PyProof.Rows.envOfC qual (defScope st) s.heap.objs.size f cdv)) → (A.deeper (PyProof.Rows.envOfC qual (defScope st) s.heap.objs.size f cdv)).guards = some [] →
      PSs (cxOf (L2.CX P w) P w K mg base N qual (defScope st) f cdv A fr s H E) (defBody st) (rdS K cm (wOf E) b)) : FnG P w K mg base (k + 1) f fd ps (spD K cm ps.length (runB N.length b)) := by
  constructor
  · rintro vs H Q E ⟨L, ds, h, _, r, e, _⟩
    rw [← r.length, e]
  · rintro A fr s H args us vs Q E hr hg e0 hb rv ⟨L, ds, h, ab, rr, hn, q⟩
    obtain ⟨oc, od, kV, doc, pm, an, cdv, ct, osl, rfl, lk, hcd⟩ := F.ex
    have keep : ∀ (b : Addr) (o : Obj), base.get? b = some o → s.heap.get? b = some o := fun b o z => (e0.bs b o z).1
    have inK : K.In s.heap := e0.mod.kin.keeps keep
    have free : s.heap.NoLimit := e0.mod.nolimit.keeps keep
    have hl : vs.length = ps.length := by rw [← rr.length]; exact hn
    have kinds : ∀ z ∈ ps.zip us, (defScope st).names.lookup z.1 = some .local ∨ ((defScope st).names.lookup z.1 = some .cell ∧ ((cellsFrom (s.heap.objs.size + 1) (defScope st).names []).lookup z.1).isSome = true) := by
      rintro ⟨y, v⟩ hz
      rcases S.par y (List.of_mem_zip hz).1 with q | q
      · exact Or.inl q
      · exact Or.inr ⟨q, PySem.W.cellsFrom_some _ _ _ (Or.inl q)⟩
    apply codeAny_call_function hr.depth (inK _ _ lk) rfl S.co S.gen rfl (PySem.W.codeRec_of inK hcd)
    apply hb
    apply wpAny_newFunctionEnv_cells S.kind kinds
    rintro env rfl s1 x1
    refine ⟨free.keeps x1.toInCall.keep, codeAny_func ?_⟩
    have B := hbody cdv A fr s H E (hr.deeper _) hg
    have I := inv_start (CX := L2.CX P w) (E := E) S hr.hd e0 hl rv x1
    have start0 : AbS K cm L H ⟨ds.map some ++ List.replicate (N.length - ds.length) none, h⟩ (L2.start N vs) := ⟨ab.hp, loc_start N rr⟩
    apply wpAny_mono (B.run [] s1 (L2.start N vs) H { nx := fun _ H' => Q .non H', rt := Q } I ⟨L, _, start0, aft_run q⟩)
    · intro fl s2 h2
      cases fl with
      | ret u =>
        obtain ⟨v, σ2, H2, J, ru, q2⟩ := h2
        exact ⟨v, H2, J.os, J.bare, J.base, J.hok, ru, q2⟩
      | next =>
        obtain ⟨σ2, H2, J, q2⟩ := h2
        exact ⟨V.non, H2, J.os, J.bare, J.base, J.hok, rfl, q2⟩
      | brk => obtain ⟨_, _, _, q2⟩ := h2; exact q2.elim
      | cont => obtain ⟨_, _, _, q2⟩ := h2; exact q2.elim
    · exact fun _ _ z => z
end

/-! ### 10. calls -/
def dCall (F : Fn) (a : DA) : DE := fun S => (a S).bind fun ds S1 => match F ds S1.h with
  | .ok d S2 => .ok d ⟨S1.loc, S2.h⟩
  | .exc e S2 => .exc e ⟨S1.loc, S2.h⟩
  | .stuck => .stuck
section
variable {X : Cx} {cm : Str → Value} {W : WX} {k : Nat} {f : Addr} {fd : FuncData} {ps : List Str} {sp : Sp} {x : Str} {p pos : Pos} {e : Expr} {es : List Expr} {F0 : Fn} {ga : DA} {np : Nat}
theorem run_g {pins : List (Addr × Obj)} {σ : L2.St} {H : Hp} {s : Shared} {Q : VK} {us : List Value} {vs : List V} {args : Args} (F : FnG X.prog X.w X.K X.mg X.base k f fd ps sp) (hr : Room k X.A) (hg : X.A.guards = some []) (tk : Takes X W)
    (hb : BindsTo s fd args (ps.zip us)) (I : Inv X pins σ H s) (r : Vals vs us) (h : sp vs H Q (WE W σ)) : codeAny (model X.prog X.w) X.A (.call (.ref f) args) (callEnd (EP X pins σ Q) X.xe) s := by
  refine codeAny_mono (F.run X.A X.stack s H args us vs Q (WE W σ) hr hg I.env0 hb r h) fun r' s' hq => ?_
  cases r' with
  | error er => exact passAt tk σ pins H s er s' I hq
  | ok fl =>
    cases fl with
    | ret u => exact I.after hq
    | next => exact hq.elim
    | brk => exact hq.elim
    | cont => exact hq.elim
/-- a call's reading over a promise -/
theorem rd_call {σ : L2.St} {H : Hp} {Q : VK} (q : rdE X.K cm W (dCall F0 ga) σ H Q) (hn : ∀ ds S S1, ga S = .ok ds S1 → ds.length = np) : rdA X.K cm W ga σ H (fun vs H1 => spD X.K cm np F0 vs H1 Q (WE W σ)) := by
  obtain ⟨L, S, a, q⟩ := q
  refine ⟨L, S, a, ?_⟩
  unfold dCall at q
  have hl : ∀ ds S1, ga S = .ok ds S1 → ds.length = _ := fun ds S1 h => hn ds S S1 h
  generalize hr : ga S = r at q hl
  cases r with
  | ok ds S1 =>
    intro L1 H1 vs e1 x1 r1
    refine ⟨L1, ds, S1.h, x1.bare, r1, hl _ _ rfl, ?_⟩
    rw [Res.bind_ok] at q
    have q1 := Aft.ext e1 q
    generalize F0 ds S1.h = z at q1
    cases z with
    | ok d S2 => exact fun L2 H2 v e2 x2 r2 => q1 L2 H2 v e2 ⟨x2.hp, x1.loc.mono e2⟩ r2
    | exc u S2 => exact fun L2 H2 c dx e2 x2 r2 => q1 L2 H2 c dx e2 ⟨x2.hp, x1.loc.mono e2⟩ r2
    | stuck => exact q1
  | exc u S1 => exact q
  | stuck => exact q
/-- how many values an argument list gives -/
def Cnt (ga : DA) (n : Nat) : Prop := ∀ ds S S1, ga S = .ok ds S1 → ds.length = n
theorem cnt_nil : Cnt dNil 0 := fun ds S S1 h => by
  cases h; rfl
theorem cnt_cons {fa : DE} {ga : DA} {n : Nat} (h : Cnt ga n) : Cnt (dCons fa ga) (n + 1) := fun ds S S1 q => by
  unfold dCons at q
  cases e1 : fa S with
  | ok d S2 =>
    rw [e1, Res.bind_ok] at q
    cases e2 : ga S2 with
    | ok es S3 =>
      rw [e2, Res.bind_ok] at q
      cases q
      rw [List.length_cons, h _ _ _ e2]
    | exc u S3 => rw [e2] at q; cases q
    | stuck => rw [e2] at q; cases q
  | exc u S2 => rw [e1] at q; cases q
  | stuck => rw [e1] at q; cases q
theorem e_call (F : FnG X.prog X.w X.K X.mg X.base k f fd ps (spD X.K cm np F0)) (hr : Room k X.A) (hg : X.A.guards = some []) (tk : Takes X W) (hx : Gl X x) (hm : X.mg x = some (.ref f)) (hk : PySem.W.keepIn X.K (.ref f) = true) (hb : Binds X.K fd ps [])
    (ha : PA X (e :: es) (rdA X.K cm W ga)) (hn : Cnt ga np) (hdb : (x == ("__debug__" : Str)) = false := by decide) (he : starEach (e :: es) X.env = (false, eval e X.env) :: starEach es X.env := by rfl) (hpl : (backTo pos (starEach es X.env)).any (·.1) = false := by rfl) :
    PE X (.Call (.Name x p) (e :: es) [] pos) (rdE X.K cm W (dCall F0 ga)) := by
  constructor
  intro pins s σ H Q I q
  apply wpAny_Call_Name_kw
  apply ld_glob I hx hm _ hdb
  apply PySem.W.callWith_K (h₀ := X.base) I.ok.mod.kin hk _ he hpl
  apply thn (ha.run pos pins s σ H _ I (rd_call q hn))
  intro us s1 h1
  obtain ⟨vs, H1, I1, r1, q1⟩ := h1
  have hl : us.length = ps.length := by rw [← r1.length]; exact F.len _ _ _ _ q1
  have b := hb s1 us I1.kIn (by simpa using hl)
  rw [List.append_nil] at b
  exact ⟨I1.kIn, wpAny_call (run_g F hr hg tk b I1 r1 q1)⟩
theorem e_call0 (F : FnG X.prog X.w X.K X.mg X.base k f fd ps (spD X.K cm 0 F0)) (hr : Room k X.A) (hg : X.A.guards = some []) (tk : Takes X W) (hx : Gl X x) (hm : X.mg x = some (.ref f)) (hk : PySem.W.keepIn X.K (.ref f) = true) (hb : Binds X.K fd ps [])
    (hdb : (x == ("__debug__" : Str)) = false := by decide) : PE X (.Call (.Name x p) [] [] pos) (rdE X.K cm W (dCall F0 dNil)) := by
  constructor
  intro pins s σ H Q I q
  apply wpAny_Call_Name_kw
  apply ld_glob I hx hm _ hdb
  obtain ⟨L, S, a, q1⟩ := rd_call (np := 0) q cnt_nil
  have q2 := q1.give a .nil
  have hl : ([] : List Value).length = ps.length := F.len _ _ _ _ q2
  have b := hb s [] I.kIn (by simpa using hl)
  exact PySem.W.callWith_K0 I.kIn hk (wpAny_call (run_g F hr hg tk b I .nil q2))
/-- values by their places -/
def pick {α : Type} (perm : List Nat) (l : List α) : List α := perm.filterMap fun i => l[i]?
theorem pick_reps {K : PySem.W.Frag} {L : List Addr} {H : Hp} {ds : List D} {vs : List V} (r : Reps K cm L H ds vs) : ∀ perm : List Nat, Reps K cm L H (pick perm ds) (pick perm vs)
  | [] => .nil
  | i :: p => by
    unfold pick
    rw [List.filterMap_cons, List.filterMap_cons]
    cases hd : ds[i]? with
    | none =>
      have hv : vs[i]? = none := by
        rw [List.getElem?_eq_none_iff] at hd ⊢
        rw [← r.length]; exact hd
      rw [hv]
      exact pick_reps r p
    | some d =>
      obtain ⟨v, hv, rv⟩ := r.get hd
      rw [hv]
      exact .cons rv (pick_reps r p)
theorem pick_vals {vs : List V} {us : List Value} (r : Vals vs us) : ∀ perm : List Nat, Vals (pick perm vs) (pick perm us)
  | [] => .nil
  | i :: p => by
    unfold pick
    rw [List.filterMap_cons, List.filterMap_cons]
    cases hv : vs[i]? with
    | none =>
      rw [r.none_of hv]
      exact pick_vals r p
    | some v =>
      obtain ⟨u, hu, ru⟩ := r.get hv
      rw [hu]
      exact .cons ru (pick_vals r p)
def dCallK (F : Fn) (perm : List Nat) (a z : DA) : DE := fun S => (a S).bind fun ds S1 => (z S1).bind fun es S2 => match F (pick perm (ds ++ es)) S2.h with
  | .ok d S3 => .ok d ⟨S2.loc, S3.h⟩
  | .exc e S3 => .exc e ⟨S2.loc, S3.h⟩
  | .stuck => .stuck
/-- keywords: n positional values, the keywords ks; where each parameter's value stands -/
def KB (fd : FuncData) (ps : List Str) (n : Nat) (ks : List Str) (perm : List Nat) : Prop := ∀ us ws : List Value, us.length = n → ws.length = ks.length → bindArgs fd ⟨us, ks.zip ws⟩ = pure (ps.zip (pick perm (us ++ ws)))
theorem kb_of {y qual : Str} {st : Stmt} {n : Nat} {ks : List Str} {perm : List Nat} {K : PySem.W.Frag} (F : Fun K y qual st f fd) (h : ∀ (kV doc pm : Value) (an : Option Addr) (cdv ct : Value) (us ws : List Value), us.length = n → ws.length = ks.length →
    bindArgs (PySem.W.fnOf y qual (defArgs st) (defBody st) (defScope st) .none kV doc pm an cdv ct) ⟨us, ks.zip ws⟩ = pure (ps.zip (pick perm (us ++ ws)))) : KB fd ps n ks perm := by
  obtain ⟨oc, od, kV, doc, pm, an, cdv, ct, osl, rfl, _, _⟩ := F.ex
  exact h kV doc pm an cdv ct
theorem k_nil : PK X [] (rdA X.K cm W dNil) := ⟨fun pos pins s σ H Q I q => pk_nil.run pos pins s σ H Q I (by
  obtain ⟨L, S, a, q⟩ := q
  exact q.give a .nil)⟩
theorem k_cons {nm : Option Str} {kpos : Pos} {kws : List Keyword} {fa : DE} (h : PE X e (rdE X.K cm W fa)) (hr : PK X kws (rdA X.K cm W ga)) : PK X (⟨nm, e, kpos⟩ :: kws) (rdA X.K cm W (dCons fa ga)) := ⟨fun pos pins s σ H Q I q => (pk_cons h hr).run pos pins s σ H Q I (by
  obtain ⟨L, S, a, q⟩ := q
  refine ⟨L, S, a, (Aft.step (R := Rep X.K cm) q).mono fun v H1 z => ?_⟩
  obtain ⟨L1, S1, d, e1, x1, r1, q1⟩ := z
  refine ⟨L1, S1, x1, (Aft.step (R := Reps X.K cm) q1).mono fun u H2 z => ?_⟩
  obtain ⟨L2, S2, d2, e2, x2, r2, q2⟩ := z
  exact q2.give x2 (.cons (r1.mono e2) r2))⟩
theorem rd_callK {gz : DA} {perm : List Nat} {σ : L2.St} {H : Hp} {Q : VK} {n m : Nat} (q : rdE X.K cm W (dCallK F0 perm ga gz) σ H Q) (hn : Cnt ga n) (hm : Cnt gz m) (hp : ∀ l : List D, l.length = n + m → (pick perm l).length = np) :
    rdA X.K cm W ga σ H (fun vs H1 => vs.length = n ∧ rdA X.K cm W gz σ H1 (fun zs H2 => zs.length = m ∧ spD X.K cm np F0 (pick perm (vs ++ zs)) H2 Q (WE W σ))) := by
  obtain ⟨L, S, a, q⟩ := q
  refine ⟨L, S, a, ?_⟩
  unfold dCallK at q
  have hl : ∀ ds S1, ga S = .ok ds S1 → ds.length = _ := fun ds S1 h => hn ds S S1 h
  generalize hr : ga S = r at q hl
  cases r with
  | ok ds S1 =>
    intro L1 H1 vs e1 x1 r1
    refine ⟨by rw [← r1.length]; exact hl _ _ rfl, L1, S1, x1, ?_⟩
    rw [Res.bind_ok] at q
    have q1 := Aft.ext e1 q
    have hl2 : ∀ es S2, gz S1 = .ok es S2 → es.length = _ := fun es S2 h => hm es S1 S2 h
    generalize hr2 : gz S1 = r at q1 hl2
    cases r with
    | ok es S2 =>
      intro L2 H2 zs e2 x2 r2
      refine ⟨by rw [← r2.length]; exact hl2 _ _ rfl, ?_⟩
      rw [Res.bind_ok] at q1
      have q2 := Aft.ext e2 q1
      refine ⟨L2, pick perm (ds ++ es), S2.h, x2.bare, pick_reps ((r1.mono e2).append r2) perm, hp _ (by rw [List.length_append, hl _ _ rfl, hl2 _ _ rfl]), ?_⟩
      generalize F0 (pick perm (ds ++ es)) S2.h = z at q2
      cases z with
      | ok d S3 => exact fun L3 H3 v e3 x3 r3 => q2 L3 H3 v e3 ⟨x3.hp, x2.loc.mono e3⟩ r3
      | exc u S3 => exact fun L3 H3 c dx e3 x3 r3 => q2 L3 H3 c dx e3 ⟨x3.hp, x2.loc.mono e3⟩ r3
      | stuck => exact q2
    | exc u S2 => exact q1
    | stuck => exact q1
  | exc u S1 => exact q
  | stuck => exact q
/-- f(e, .., k = v, ..) -/
theorem e_callK {gz : DA} {perm : List Nat} {n m : Nat} {ks : List Str} {kws : List Keyword} (F : FnG X.prog X.w X.K X.mg X.base k f fd ps (spD X.K cm np F0)) (hr : Room k X.A) (hg : X.A.guards = some []) (tk : Takes X W) (hx : Gl X x) (hm : X.mg x = some (.ref f)) (hk : PySem.W.keepIn X.K (.ref f) = true)
    (hb : KB fd ps n ks perm) (ha : PA X (e :: es) (rdA X.K cm W ga)) (hz : PK X kws (rdA X.K cm W gz)) (hn : Cnt ga n) (hmm : Cnt gz m) (hp : ∀ l : List D, l.length = n + m → (pick perm l).length = np) (hkm : ks.length = m := by rfl)
    (hall : (backToKw pos (keywordEach kws X.env)).all (·.1.isSome) = true := by rfl) (hks : (backToKw pos (keywordEach kws X.env)).filterMap (·.1) = ks := by rfl) (hdb : (x == ("__debug__" : Str)) = false := by decide)
    (he : starEach (e :: es) X.env = (false, eval e X.env) :: starEach es X.env := by rfl) (hpl : ((backTo pos (starEach (e :: es) X.env)).any (·.1) || (backToKw pos (keywordEach kws X.env)).any (·.1.isNone)) = false := by rfl) :
    PE X (.Call (.Name x p) (e :: es) kws pos) (rdE X.K cm W (dCallK F0 perm ga gz)) := by
  constructor
  intro pins s σ H Q I q
  apply wpAny_Call_Name_kw
  apply ld_glob I hx hm _ hdb
  apply PySem.W.callWith_KW (h₀ := X.base) I.ok.mod.kin hk hall _ hpl he
  apply thn (ha.run pos pins s σ H _ I (rd_callK q hn hmm hp))
  rintro us s1 ⟨vs, H1, I1, r1, l1, q1⟩
  apply thn (hz.run pos pins s1 σ H1 _ I1 q1)
  rintro ws s2 ⟨zs, H2, I2, r2, l2, q2⟩
  have b : BindsTo s2 fd ⟨us, ks.zip ws⟩ (ps.zip (pick perm (us ++ ws))) := .of_eq (hb us ws (by rw [← r1.length]; exact l1) (by rw [← r2.length, hkm]; exact l2))
  rw [hks]
  exact ⟨I2.kIn, wpAny_call (run_g F hr hg tk b I2 (pick_vals (r1.append r2) perm) q2)⟩
theorem e_callK0 {gz : DA} {perm : List Nat} {m : Nat} {ks : List Str} {kws : List Keyword} (F : FnG X.prog X.w X.K X.mg X.base k f fd ps (spD X.K cm np F0)) (hr : Room k X.A) (hg : X.A.guards = some []) (tk : Takes X W) (hx : Gl X x) (hm : X.mg x = some (.ref f)) (hk : PySem.W.keepIn X.K (.ref f) = true)
    (hb : KB fd ps 0 ks perm) (hz : PK X kws (rdA X.K cm W gz)) (hmm : Cnt gz m) (hp : ∀ l : List D, l.length = 0 + m → (pick perm l).length = np) (hkm : ks.length = m := by rfl)
    (hall : (backToKw pos (keywordEach kws X.env)).all (·.1.isSome) = true := by rfl) (hks : (backToKw pos (keywordEach kws X.env)).filterMap (·.1) = ks := by rfl) (hdb : (x == ("__debug__" : Str)) = false := by decide)
    (hpl : ((backTo pos (starEach [] X.env)).any (·.1) || (backToKw pos (keywordEach kws X.env)).any (·.1.isNone)) = false := by rfl) :
    PE X (.Call (.Name x p) [] kws pos) (rdE X.K cm W (dCallK F0 perm dNil gz)) := by
  constructor
  intro pins s σ H Q I q
  apply wpAny_Call_Name_kw
  apply ld_glob I hx hm _ hdb
  apply PySem.W.callWith_KW0 (h₀ := X.base) I.ok.mod.kin hk hall _ hpl
  obtain ⟨L, S, a, q0⟩ := rd_callK q cnt_nil hmm hp
  obtain ⟨_, q1⟩ := q0.give a .nil
  apply thn (hz.run pos pins s σ H _ I q1)
  rintro ws s2 ⟨zs, H2, I2, r2, l2, q2⟩
  have b : BindsTo s2 fd ⟨[], ks.zip ws⟩ (ps.zip (pick perm ([] ++ ws))) := .of_eq (hb [] ws rfl (by rw [← r2.length, hkm]; exact l2))
  rw [hks]
  exact ⟨I2.kIn, wpAny_call (run_g F hr hg tk b I2 (pick_vals (.append .nil r2) perm) q2)⟩
end
end Den

namespace Den
open PySem L2

/-! ### 11. built-in calls -/
theorem callR_or {X : Cx} {f : Value} {r r' : List V → Hp → VK → Prop} (h : CallR X f r) (h' : CallR X f r') : CallR X f (fun xs H Q => r xs H Q ∨ r' xs H Q) := by
  intro pins s σ H xs us Q I rv q
  rcases q with q | q
  · exact h pins s σ H xs us Q I rv q
  · exact h' pins s σ H xs us Q I rv q
section
variable (X : Cx) (cm : Str → Value) (W : WX)
def COp (r : List V → Hp → VK → Prop) (f : List D → DS → Res D) : Prop := ∀ {L : List Addr} {H : Hp} {S : DS} {σ : L2.St} {xs : List V} {ds : List D} {Q : VK}, AbS X.K cm L H S σ → Reps X.K cm L H ds xs →
  Aft X.K cm W (Rep X.K cm) L σ H (f ds S) Q → r xs H Q
/-- a method of a built-in's instance -/
def MOp (r : V → List V → Hp → VK → Prop) (f : D → List D → DS → Res D) : Prop := ∀ {L : List Addr} {H : Hp} {S : DS} {σ : L2.St} {x : V} {xs : List V} {d : D} {ds : List D} {Q : VK}, AbS X.K cm L H S σ → Rep X.K cm L H d x → Reps X.K cm L H ds xs →
  Aft X.K cm W (Rep X.K cm) L σ H (f d ds S) Q → r x xs H Q
end
def dCB (f : List D → DS → Res D) (a : DA) : DE := fun S => (a S).bind fun ds S1 => f ds S1
def cLen : List D → DS → Res D := fun ds S => match ds with
  | [.str x] => if x.length ≤ mxL then .ok (.int x.length) S else .stuck
  | [.tup xs] => .ok (.int xs.length) S
  | [.ro xs] => .ok (.int xs.length) S
  | [.ref n] => match S.h[n]? with
    | some (.lst xs) => .ok (.int xs.length) S
    | some (.dct kvs) => .ok (.int kvs.length) S
    | _ => .stuck
  | _ => .stuck
def cAbs : List D → DS → Res D := fun ds S => match ds with
  | [.int i] => .ok (.int (if i < 0 then -i else i)) S
  | _ => .stuck
def cInt : List D → DS → Res D := fun ds S => match ds with
  | [.int i] => .ok (.int i) S
  | [.bl b] => .ok (.int (if b then 1 else 0)) S
  | _ => .stuck
def cTuple : List D → DS → Res D := fun ds S => match ds with
  | [.tup xs] => .ok (.tup xs) S
  | [.ro xs] => .ok (.tup xs) S
  | [.ref n] => match S.h[n]? with
    | some (.lst xs) => .ok (.tup xs) S
    | _ => .stuck
  | _ => .stuck
def keyD : Key → D
  | .inl i => .int i
  | .inr x => .str x
def cList : List D → DS → Res D := fun ds S => match ds with
  | [.tup xs] => newO (.lst xs) S
  | [.ro xs] => newO (.lst xs) S
  | [.ref n] => match S.h[n]? with
    | some (.lst xs) => newO (.lst xs) S
    | some (.dct kvs) => newO (.lst (kvs.map fun kv => keyD kv.1)) S
    | _ => .stuck
  | _ => .stuck
/-- the built-in type's name -/
def tyName (S : DS) : D → Option String
  | .non => some "NoneType"
  | .bl _ => some "bool"
  | .int _ => some "int"
  | .str _ => some "str"
  | .tup _ => some "tuple"
  | .ro _ => some "list"
  | .ref n => match S.h[n]? with
    | some (.lst _) => some "list"
    | some (.dct _) => some "dict"
    | some (.fdct _) => some "dict"
    | none => none
  | _ => none
def isaB (a b : String) : Option Bool :=
  if ["NoneType", "bool", "int", "str", "tuple", "list", "dict"].contains a && ["bool", "int", "str", "tuple", "list", "dict"].contains b then some (a == b || (a == "bool" && b == "int")) else none
theorem isaB_ok {a b : String} {r : Bool} (h : isaB a b = some r) : kitB a b = some r := by
  unfold isaB at h
  split at h
  · rename_i hc
    obtain ⟨h1, h2⟩ := Bool.and_eq_true_iff.mp hc
    have m1 : a ∈ ["NoneType", "bool", "int", "str", "tuple", "list", "dict"] := by simpa using h1
    have m2 : b ∈ ["bool", "int", "str", "tuple", "list", "dict"] := by simpa using h2
    rw [← h]
    simp only [List.mem_cons, List.not_mem_nil, or_false] at m1 m2
    rcases m1 with rfl | rfl | rfl | rfl | rfl | rfl | rfl <;> rcases m2 with rfl | rfl | rfl | rfl | rfl | rfl <;> decide +kernel
  · cases h
def cIsi : List D → DS → Res D := fun ds S => match ds with
  | [d, .ty n] => match tyName S d with
    | some m => match isaB m n with
      | some b => .ok (.bl b) S
      | none => .stuck
    | none => .stuck
  | _ => .stuck
def cRepr : List D → DS → Res D := fun ds S => match ds with
  | [d] => match pyD S d with
    | some p => if PyData.showable p && !p.hasDict && decide (p.depth ≤ 30) && decide (p.shown.length ≤ mxL) then .ok (.str p.shown) S else .stuck
    | none => .stuck
  | _ => .stuck

section
variable {X : Cx} {cm : Str → Value} {W : WX} {e e1 e2 o : Expr} {es : List Expr} {x : Str} {p pos apos cpos : Pos} {fa fb fo : DE} {ga : DA}
theorem rd_cb {r : List V → Hp → VK → Prop} {f : List D → DS → Res D} (h : COp X cm W r f) {σ : L2.St} {H : Hp} {Q : VK} (q : rdE X.K cm W (dCB f ga) σ H Q) : tCB r (rdA X.K cm W ga) σ H Q := by
  obtain ⟨L, S, a, q⟩ := q
  refine ⟨L, S, a, (Aft.step (R := Reps X.K cm) q).mono fun v H1 z => ?_⟩
  obtain ⟨L1, S1, d, e1, x1, r1, q1⟩ := z
  exact h x1 r1 q1
theorem e_cb {id : String} {r : List V → Hp → VK → Prop} {f : List D → DS → Res D} (hc : CallR X (.builtin id) r) (h : COp X cm W r f) (hg : Gl X x) (hm : X.mg x = none) (hv : bootBuiltins x = some (.builtin id)) (ha : PA X (e :: es) (rdA X.K cm W ga))
    (hn : x ≠ "__name__" := by decide) (hdb : (x == ("__debug__" : Str)) = false := by decide) (he : starEach (e :: es) X.env = (false, eval e X.env) :: starEach es X.env := by rfl) (hpl : (backTo pos (starEach es X.env)).any (·.1) = false := by rfl) :
    PE X (.Call (.Name x p) (e :: es) [] pos) (rdE X.K cm W (dCB f ga)) := weakE (pe_callB hc hg hm hv ha hn hdb he hpl) fun _ _ _ => rd_cb h
theorem e_ct {T : String} {r : List V → Hp → VK → Prop} {f : List D → DS → Res D} (hc : CallR X (.type T) r) (h : COp X cm W r f) (hg : Gl X x) (hm : X.mg x = none) (hv : bootBuiltins x = some (.type T)) (ha : PA X (e :: es) (rdA X.K cm W ga))
    (hn : x ≠ "__name__" := by decide) (hdb : (x == ("__debug__" : Str)) = false := by decide) (he : starEach (e :: es) X.env = (false, eval e X.env) :: starEach es X.env := by rfl) (hpl : (backTo pos (starEach es X.env)).any (·.1) = false := by rfl) :
    PE X (.Call (.Name x p) (e :: es) [] pos) (rdE X.K cm W (dCB f ga)) := weakE (pe_callTy hc hg hm hv ha hn hdb he hpl) fun _ _ _ => rd_cb h
/-- a built-in class as a value -/
theorem e_ty {n : String} (hg : Gl X x) (hm : X.mg x = none) (hv : bootBuiltins x = some (.type n)) (hn : x ≠ "__name__" := by decide) (hd : (x == ("__debug__" : Str)) = false := by decide) : PE X (.Name x pos) (rdE X.K cm W (dC (.ty n))) :=
  weakE (pe_bltn (v := .ty n) hg hm hv rfl hn hd) fun _ _ _ => rd_c fun _ _ => .ty n
theorem repK_length {K : PySem.W.Frag} {L : List Addr} {H : Hp} : ∀ {ds : List (Key × D)} {vs : List (Key × V)}, RepK K cm L H ds vs → ds.length = vs.length
  | _, _, .nil => rfl
  | _, _, .cons _ t => by rw [List.length_cons, List.length_cons, repK_length t]
theorem co_len : COp X cm W (fun xs H Q => ((∃ z, xs = [.str z] ∧ z.length ≤ sizeLine ∧ Q (.int z.length) H) ∨ (∃ p ys, xs = [.ref p] ∧ (SqL X.K H p ys ∨ SqT X.K H p ys) ∧ Q (.int ys.length) H)) ∨ (∃ a kvs, xs = [V.ref a] ∧ H a = some (.dK kvs) ∧ Q (.int kvs.length) H)) cLen := by
  intro L H S σ xs ds Q a r q
  unfold cLen at q
  split at q
  · split at q
    · rename_i h
      cases r with
      | cons r1 r2 => cases r2; cases r1; exact .inl (.inl ⟨_, rfl, mx_line h, q.give a (.int _)⟩)
    · exact q.elim
  · cases r with
    | cons r1 r2 =>
      cases r2
      cases r1 with
      | tup h rr => exact .inl (.inr ⟨_, _, rfl, .inr h, by rw [← rr.length]; exact q.give a (.int _)⟩)
  · cases r with
    | cons r1 r2 =>
      cases r2
      cases r1 with
      | ro h rr => exact .inl (.inr ⟨_, _, rfl, .inl h.sq, by rw [← rr.length]; exact q.give a (.int _)⟩)
  · cases r with
    | cons r1 r2 =>
      cases r2
      split at q
      · rename_i h
        obtain ⟨p1, vs1, rfl, g1, e1, q1⟩ := a.lst r1 h
        exact .inl (.inr ⟨_, _, rfl, .inl (SqL.of e1), by rw [← q1.length]; exact q.give a (.int _)⟩)
      · rename_i h
        obtain ⟨p1, vs1, rfl, g1, e1, q1⟩ := a.dct r1 h
        exact .inr ⟨_, _, rfl, e1, by rw [← repK_length q1]; exact q.give a (.int _)⟩
      · exact q.elim
  · exact q.elim
theorem call_len_any : CallR X (.builtin "len") (fun xs H Q => ((∃ z, xs = [.str z] ∧ z.length ≤ sizeLine ∧ Q (.int z.length) H) ∨ (∃ p ys, xs = [.ref p] ∧ (SqL X.K H p ys ∨ SqT X.K H p ys) ∧ Q (.int ys.length) H)) ∨ (∃ a kvs, xs = [V.ref a] ∧ H a = some (.dK kvs) ∧ Q (.int kvs.length) H)) :=
  callR_or (callR_or call_len_str call_len_seq) call_lenD
theorem co_abs : COp X cm W (fun xs H Q => ∃ i, xs = [.int i] ∧ Q (.int (if i < 0 then -i else i)) H) cAbs := by
  intro L H S σ xs ds Q a r q
  unfold cAbs at q
  split at q
  · cases r with
    | cons r1 r2 => cases r2; cases r1; exact ⟨_, rfl, q.give a (.int _)⟩
  · exact q.elim
theorem co_int : COp X cm W (fun xs H Q => (∃ i, xs = [.int i] ∧ Q (.int i) H) ∨ ∃ k, xs = [.bl k] ∧ Q (.int (if k then 1 else 0)) H) cInt := by
  intro L H S σ xs ds Q a r q
  unfold cInt at q
  split at q
  · cases r with
    | cons r1 r2 => cases r2; cases r1; exact .inl ⟨_, rfl, q.give a (.int _)⟩
  · cases r with
    | cons r1 r2 => cases r2; cases r1; exact .inr ⟨_, rfl, q.give a (.int _)⟩
  · exact q.elim
theorem co_tuple : COp X cm W (fun xs H Q => ∃ p ys, xs = [.ref p] ∧ ((SqL X.K H p ys ∧ ∀ l, H l = none → Q (.ref l) (upd H l (.tup ys))) ∨ (SqT X.K H p ys ∧ Q (.ref p) H))) cTuple := by
  intro L H S σ xs ds Q a r q
  unfold cTuple at q
  split at q
  · cases r with
    | cons r1 r2 =>
      cases r2
      cases r1 with
      | tup h rr => exact ⟨_, _, rfl, .inr ⟨h, q.give a (.tup h rr)⟩⟩
  · cases r with
    | cons r1 r2 =>
      cases r2
      cases r1 with
      | ro h rr => exact ⟨_, _, rfl, .inl ⟨h.sq, fun l hl => q.giveE (Ext.beside hl) (a.beside hl) (.tup (.inl (.inl upd_same)) (rr.mono (Ext.beside hl)))⟩⟩
  · cases r with
    | cons r1 r2 =>
      cases r2
      split at q
      · rename_i h
        obtain ⟨p1, vs1, rfl, g1, e1, q1⟩ := a.lst r1 h
        exact ⟨_, _, rfl, .inl ⟨SqL.of e1, fun l hl => q.giveE (Ext.beside hl) (a.beside hl) (.tup (.inl (.inl upd_same)) (q1.mono (Ext.beside hl)))⟩⟩
      · exact q.elim
  · exact q.elim
theorem keys_reps {K : PySem.W.Frag} {L : List Addr} {H : Hp} : ∀ {ds : List (Key × D)} {vs : List (Key × V)}, RepK K cm L H ds vs → Reps K cm L H (ds.map fun kv => keyD kv.1) (vs.map fun kv => kV kv.1)
  | _, _, .nil => .nil
  | _, _, .cons (k := k) _ t => .cons (by cases k with
    | inl i => exact .int i
    | inr x => exact .str x) (keys_reps t)
theorem co_list : COp X cm W (fun xs H Q => (∃ p ys, xs = [.ref p] ∧ (SqL X.K H p ys ∨ SqT X.K H p ys) ∧ ∀ l, H l = none → Q (.ref l) (upd H l (.lst ys))) ∨ rListD xs H Q) cList := by
  intro L H S σ xs ds Q a r q
  unfold cList at q
  split at q
  · cases r with
    | cons r1 r2 =>
      cases r2
      cases r1 with
      | tup h rr => exact .inl ⟨_, _, rfl, .inr h, fun l hl => give_new a rr q hl⟩
  · cases r with
    | cons r1 r2 =>
      cases r2
      cases r1 with
      | ro h rr => exact .inl ⟨_, _, rfl, .inl h.sq, fun l hl => give_new a rr q hl⟩
  · cases r with
    | cons r1 r2 =>
      cases r2
      split at q
      · rename_i h
        obtain ⟨p1, vs1, rfl, g1, e1, q1⟩ := a.lst r1 h
        exact .inl ⟨_, _, rfl, .inl (SqL.of e1), fun l hl => give_new a q1 q hl⟩
      · rename_i h
        obtain ⟨p1, vs1, rfl, g1, e1, q1⟩ := a.dct r1 h
        exact .inr ⟨_, _, rfl, e1, fun l hl => give_new a (keys_reps q1) q hl⟩
      · exact q.elim
  · exact q.elim
theorem call_list_any (hc : X.calm = true) : CallR X (.type "list") (fun xs H Q => (∃ p ys, xs = [.ref p] ∧ (SqL X.K H p ys ∨ SqT X.K H p ys) ∧ ∀ l, H l = none → Q (.ref l) (upd H l (.lst ys))) ∨ rListD xs H Q) :=
  callR_or call_list_of (call_list_dK hc)
theorem ty_tup {K : PySem.W.Frag} {H : Hp} {a : Addr} {vs : List V} (h : SqT K H a vs) : TyX K H (.ref a) (.type "tuple") := by
  rcases h with (h | ⟨o, h⟩) | ⟨o, its, n, h, c, _⟩
  · exact .base (.tup h)
  · exact .fTuple h
  · exact .kTuple h c
theorem ty_lst {K : PySem.W.Frag} {H : Hp} {a : Addr} {vs : List V} (h : SqR K H a vs) : TyX K H (.ref a) (.type "list") := by
  rcases h with ⟨o, h⟩ | ⟨o, its, n, h, c, _⟩
  · exact .base (.frz h)
  · exact .kList h c
theorem ty_of {L : List Addr} {H : Hp} {S : DS} {σ : L2.St} {K : PySem.W.Frag} (a : AbS K cm L H S σ) {d : D} {v : V} (r : Rep K cm L H d v) {m : String} (h : tyName S d = some m) : TyX K H v (.type m) := by
  cases r with
  | non => cases h; exact .base .non
  | bl b => cases h; exact .base (.bl b)
  | int b => cases h; exact .base (.int b)
  | str b => cases h; exact .base (.str b)
  | ty n => cases h
  | cls n => cases h
  | tup hs _ => cases h; exact ty_tup hs
  | ro hs _ => cases h; exact ty_lst hs
  | @ref n p hL =>
    unfold tyName at h
    dsimp only at h
    split at h
    · rename_i xs hx
      cases h
      obtain ⟨vs, q, _⟩ := a.hp.obs _ _ _ hx hL
      exact .base (.lst q)
    · rename_i xs hx
      cases h
      obtain ⟨vs, q, _⟩ := a.hp.obs _ _ _ hx hL
      exact .base (.dK q)
    · rename_i xs hx
      cases h
      obtain ⟨o, vs, q, _⟩ := a.hp.obs _ _ _ hx hL
      exact .fDict q
    · cases h
theorem co_isi : COp X cm W (rIsi X.K) cIsi := by
  intro L H S σ xs ds Q a r q
  unfold cIsi at q
  split at q
  · split at q
    · rename_i m hm
      split at q
      · rename_i b hb
        cases r with
        | cons r1 r2 =>
          cases r2 with
          | cons r2 r3 =>
            cases r3
            cases r2
            exact ⟨_, _, _, _, b, rfl, .ty _, ty_of a r1 hm, kit_ty (isaB_ok hb), q.give a (.bl b)⟩
      · exact q.elim
    · exact q.elim
  · exact q.elim
/-- repr of data of any depth -/
def rReprD (K : PySem.W.Frag) : List V → Hp → VK → Prop := fun xs H Q => ∃ v p, xs = [v] ∧ Dp K H v p ∧ PyData.showable p = true ∧ p.hasDict = false ∧ p.depth ≤ 30 ∧ p.shown.length ≤ sizeLine ∧ Q (.str p.shown) H
theorem call_reprD (hu : X.A.units + 64 < cLine) (hg : X.A.guards = some []) : CallR X (.builtin "repr") (rReprD X.K) := by
  intro pins s σ H xs us Q I r h
  obtain ⟨v, p, rfl, hd, hs, hnd, hdp, hz, q⟩ := h
  obtain ⟨u, rfl, ru⟩ := vals1 r
  obtain ⟨as, rr⟩ := Dp.reads I p v u hd ru
  have big : ∀ a, Reads s.heap (.ref a) p as → wpAny (model X.prog X.w) X.A (call (.builtin "repr") [.ref a]) (EP X pins σ Q) X.xe s := fun a rr =>
    repr_of_reads' rr hs (PyData.noDict_hsm hnd) hg (by omega) (fun _ _ z => z) (fun h' t tk k => ⟨.str p.shown, H, I.kept k, ⟨_, rfl⟩, q⟩) hz
  cases rr with
  | none =>
    rw [PyData.shown_none] at q
    exact PySem.P.repr_of_none ⟨.str _, H, I.tok _, ⟨_, rfl⟩, q⟩
  | bool b =>
    rw [PyData.shown_bool] at q
    exact PySem.P.repr_of_bool ⟨.str _, H, I.tok _, ⟨_, rfl⟩, q⟩
  | int i t =>
    rw [PyData.shown_int] at q
    exact PySem.P.repr_of_int (by simpa [PyData.showable] using hs) ⟨.str _, H, I.tok _, ⟨_, rfl⟩, q⟩
  | str x t =>
    rw [PyData.shown_str] at q hz
    exact PySem.P.repr_of_str ⟨.str _, H, I.tok _, ⟨_, rfl⟩, q⟩ hz
  | list h1 h2 h3 h4 => exact big _ (.list h1 h2 h3 h4)
  | tuple h1 h2 h3 h4 => exact big _ (.tuple h1 h2 h3 h4)
  | dict h1 h2 h3 h4 h5 => exact big _ (.dict h1 h2 h3 h4 h5)
theorem co_repr : COp X cm W (rReprD X.K) cRepr := by
  intro L H S σ xs ds Q a r q
  unfold cRepr at q
  split at q
  · split at q
    · rename_i p hp
      split at q
      · rename_i h
        simp only [Bool.and_eq_true, Bool.not_eq_true', decide_eq_true_eq] at h
        obtain ⟨⟨⟨h1, h2⟩, h3⟩, h4⟩ := h
        cases r with
        | cons r1 r2 =>
          cases r2
          exact ⟨_, p, rfl, pyD_rep a r1 hp, h1, h2, h3, mx_line h4, q.give a (.str _)⟩
      · exact q.elim
    · exact q.elim
  · exact q.elim
end
end Den

namespace Den
open PySem L2

/-! ### 12. subscripts, slices, in -/
def oIx : D → D → DS → Res D := fun x y S => match x, y with
  | .tup xs, .int i => match atI xs i with
    | some d => .ok d S
    | none => .stuck
  | .ro xs, .int i => match atI xs i with
    | some d => .ok d S
    | none => .stuck
  | .str z, .int i => if z.length ≤ mxL then match atI z.cps.toList i with
    | some c => .ok (.str ⟨#[c]⟩) S
    | none => .stuck else .stuck
  | .ref n, y => match S.h[n]?, y with
    | some (.lst xs), .int i => match atI xs i with
      | some d => .ok d S
      | none => .stuck
    | some (.dct kvs), y => match keyOf y with
      | some k => match valD kvs k with
        | some d => .ok d S
        | none => .stuck
      | none => .stuck
    | some (.fdct kvs), y => match keyOf y with
      | some k => match valD kvs k with
        | some d => .ok d S
        | none => .stuck
      | none => .stuck
    | _, _ => .stuck
  | _, _ => .stuck
def rIxD : R2 := fun x y H Q => ∃ a v, x = .ref a ∧ DGet H a y (some v) ∧ Q v H
section
variable {X : Cx} {cm : Str → Value} {W : WX} {e e1 e2 o : Expr} {es : List Expr} {x : Str} {p pos apos cpos : Pos} {fa fb fo : DE} {ga : DA} {K : PySem.W.Frag} {L : List Addr} {H : Hp} {S : DS} {σ : L2.St}
theorem ix_dct (hu : X.A.units + 1 < cLine) : IxR X rIxD := by
  intro value slice pins s σ H x y v u Q I rx ry h hs
  obtain ⟨a, z, rfl, g, q⟩ := h
  cases rx
  exact PyProof.Rows.tail_any (dict_typeIs I g) PySem.F.slot_dict_getitem.lookup (d_getItem hu I g ry fun w' s3 I3 rw' => ⟨z, H, I3, rw', q⟩) hs
theorem reps_at {ds : List D} {vs : List V} {i : Int} {d : D} (r : Reps K cm L H ds vs) (h : atI ds i = some d) : ∃ v, atI vs i = some v ∧ Rep K cm L H d v := by
  unfold atI at h ⊢
  rw [← r.length]
  cases e : ixN ds.length i with
  | none => rw [e] at h; cases h
  | some j =>
    rw [e] at h
    exact r.get h
theorem repK_find {f : Key → Bool} : ∀ {ds : List (Key × D)} {vs : List (Key × V)}, RepK K cm L H ds vs → (∀ p, ds.find? (fun p => f p.1) = some p → ∃ q, vs.find? (fun p => f p.1) = some q ∧ q.1 = p.1 ∧ Rep K cm L H p.2 q.2) ∧ (ds.find? (fun p => f p.1) = none → vs.find? (fun p => f p.1) = none)
  | [], [], .nil => ⟨fun _ h => (by cases h), fun _ => rfl⟩
  | (j, d0) :: ds, (_, v0) :: vs, .cons r t => by
    obtain ⟨h1, h2⟩ := repK_find (f := f) t
    rw [List.find?_cons, List.find?_cons]
    cases f j with
    | true => exact ⟨fun p h => (by cases h; exact ⟨_, rfl, rfl, r⟩), fun h => (by cases h)⟩
    | false => exact ⟨h1, h2⟩
theorem repK_val {ds : List (Key × D)} {vs : List (Key × V)} (k : Key) (r : RepK K cm L H ds vs) : (∀ d, valD ds k = some d → ∃ v, valV vs k = some v ∧ Rep K cm L H d v) ∧ (valD ds k = none → valV vs k = none) := by
  obtain ⟨h1, h2⟩ := repK_find (f := fun j => decide (j = k)) r
  unfold valD valV
  refine ⟨fun d h => ?_, fun h => ?_⟩
  · obtain ⟨p, hp, rfl⟩ := Option.map_eq_some_iff.mp h
    obtain ⟨q, hq, _, rq⟩ := h1 p hp
    exact ⟨q.2, by rw [hq]; rfl, rq⟩
  · rw [h2 (Option.map_eq_none_iff.mp h)]
    rfl
theorem repK_any {f : Key → Bool} : ∀ {ds : List (Key × D)} {vs : List (Key × V)}, RepK K cm L H ds vs → ds.any (fun p => f p.1) = vs.any (fun p => f p.1)
  | _, _, .nil => rfl
  | _, _, .cons _ t => by rw [List.any_cons, List.any_cons, repK_any t]
theorem repK_append : ∀ {ds es : List (Key × D)} {vs ws : List (Key × V)}, RepK K cm L H ds vs → RepK K cm L H es ws → RepK K cm L H (ds ++ es) (vs ++ ws)
  | _, _, _, _, .nil, q => q
  | _, _, _, _, .cons r t, q => .cons r (repK_append t q)
theorem repK_map {k : Key} {d : D} {v : V} (r0 : Rep K cm L H d v) : ∀ {ds : List (Key × D)} {vs : List (Key × V)}, RepK K cm L H ds vs → RepK K cm L H (ds.map fun p => if p.1 = k then (p.1, d) else p) (vs.map fun p => if p.1 = k then (p.1, v) else p)
  | [], [], .nil => .nil
  | (j, d1) :: _, (_, v1) :: _, .cons r t => by
    rw [List.map_cons, List.map_cons]
    by_cases z : j = k
    · rw [if_pos (show (j, d1).1 = k from z), if_pos (show (j, v1).1 = k from z)]
      exact .cons r0 (repK_map r0 t)
    · rw [if_neg (show ¬ (j, d1).1 = k from z), if_neg (show ¬ (j, v1).1 = k from z)]
      exact .cons r (repK_map r0 t)
theorem repK_put {ds : List (Key × D)} {vs : List (Key × V)} {k : Key} {d : D} {v : V} (r : RepK K cm L H ds vs) (r0 : Rep K cm L H d v) : RepK K cm L H (putD ds k d) (putK vs k v) := by
  unfold putD putK hasD
  rw [repK_any (f := fun j => decide (j = k)) r]
  split
  · exact repK_map r0 r
  · exact repK_append r (.cons r0 .nil)
theorem keyOf_rep {d : D} {v : V} {k : Key} (r : Rep K cm L H d v) (h : keyOf d = some k) : v = kV k := by
  cases r <;> simp [keyOf] at h <;> subst h <;> rfl
theorem AbS.dget {n : Nat} {v : V} {kvs : List (Key × D)} (a : AbS K cm L H S σ) (r : Rep K cm L H (.ref n) v) (h : S.h[n]? = some (.dct kvs) ∨ S.h[n]? = some (.fdct kvs)) : ∃ p vs, v = .ref p ∧ Rd H p (.dK vs) ∧ RepK K cm L H kvs vs := by
  cases r with
  | ref ha =>
    rcases h with h | h
    · obtain ⟨vs, q, r⟩ := a.hp.obs _ _ _ h ha
      exact ⟨_, vs, rfl, .inl q, r⟩
    · obtain ⟨o, vs, q, r⟩ := a.hp.obs _ _ _ h ha
      exact ⟨_, vs, rfl, .inr ⟨o, q⟩, r⟩
theorem ro_ix : ROp X cm W (fun x y H Q => rIx X.K x y H Q ∨ rIxD x y H Q) oIx := by
  intro L H S σ x y d e Q a r1 r2 q
  unfold oIx at q
  split at q
  · split at q
    · rename_i h
      cases r1 with
      | tup hs rr =>
        cases r2
        obtain ⟨v, hv, rv⟩ := reps_at rr h
        exact .inl (.inr (.inl ⟨_, _, _, _, rfl, rfl, hs, hv, q.give a rv⟩))
    · exact q.elim
  · split at q
    · rename_i h
      cases r1 with
      | ro hs rr =>
        cases r2
        obtain ⟨v, hv, rv⟩ := reps_at rr h
        exact .inl (.inl ⟨_, _, _, _, rfl, rfl, hs.sq, hv, q.give a rv⟩)
    · exact q.elim
  · split at q
    · rename_i hz
      split at q
      · rename_i h
        cases r1; cases r2
        exact .inl (.inr (.inr ⟨_, _, _, rfl, rfl, mx_line hz, h, q.give a (.str _)⟩))
      · exact q.elim
    · exact q.elim
  · split at q
    · rename_i hx
      split at q
      · rename_i h
        obtain ⟨p1, vs1, rfl, g1, e1, q1⟩ := a.lst r1 hx
        cases r2
        obtain ⟨v, hv, rv⟩ := reps_at q1 h
        exact .inl (.inl ⟨_, _, _, _, rfl, rfl, SqL.of e1, hv, q.give a rv⟩)
      · exact q.elim
    · rename_i hx
      split at q
      · rename_i k hk
        split at q
        · rename_i h
          obtain ⟨p, vs, rfl, g, rr⟩ := a.dget r1 (.inl hx)
          obtain ⟨v, hv, rv⟩ := (repK_val k rr).1 _ h
          exact .inr ⟨p, v, rfl, .inl ⟨vs, k, g, keyOf_rep r2 hk, hv.symm⟩, q.give a rv⟩
        · exact q.elim
      · exact q.elim
    · rename_i hx
      split at q
      · rename_i k hk
        split at q
        · rename_i h
          obtain ⟨p, vs, rfl, g, rr⟩ := a.dget r1 (.inr hx)
          obtain ⟨v, hv, rv⟩ := (repK_val k rr).1 _ h
          exact .inr ⟨p, v, rfl, .inl ⟨vs, k, g, keyOf_rep r2 hk, hv.symm⟩, q.give a rv⟩
        · exact q.elim
      · exact q.elim
    · exact q.elim
  · exact q.elim
theorem e_ix (hu : X.A.units + 1 < cLine) (ha : PE X e1 (rdE X.K cm W fa)) (hb : PE X e2 (rdE X.K cm W fb)) (hs : PlainIx e2 := by exact fun _ _ => rfl) : PE X (.Subscript e1 e2 pos) (rdE X.K cm W (dBin oIx fa fb)) :=
  weakE (pe_ix (ix_seq.or (ix_dct hu)) ha hb hs) fun _ _ _ => rd_bin ro_ix
end
end Den

namespace Den
open PySem L2

/-! ### 13. slices -/
def cutD (xs : List D) (lo hi : Option Int) : List D := (xs.drop (HT.sIx xs.length 0 lo)).take (HT.sIx xs.length xs.length hi - HT.sIx xs.length 0 lo)
def dPN : DS → Res (Option Int) := fun S => .ok none S
def dPS (a : DE) : DS → Res (Option Int) := fun S => (a S).bind fun d S1 => match d with
  | .int i => .ok (some i) S1
  | _ => .stuck
def oSl : D → Option Int → Option Int → DS → Res D := fun x lo hi S => match x with
  | .str z => if z.length ≤ mxL then .ok (.str (cutS z lo hi)) S else .stuck
  | .tup xs => .ok (.tup (cutD xs lo hi)) S
  | .ro xs => newO (.lst (cutD xs lo hi)) S
  | .ref n => match S.h[n]? with
    | some (.lst xs) => newO (.lst (cutD xs lo hi)) S
    | _ => .stuck
  | _ => .stuck
def dSl (a : DE) (lo hi : DS → Res (Option Int)) : DE := fun S => (a S).bind fun x S1 => (lo S1).bind fun l S2 => (hi S2).bind fun u S3 => oSl x l u S3
/-- x in y -/
def inD : D → D → DS → Option Bool := fun x y S => match y with
  | .str b => match x with
    | .str a => some (!(Builtin.Str.occurrences b a 0 b.length 1).isEmpty)
    | _ => none
  | .tup ys => match pyD S x, ys.mapM (pyD S) with
    | some p, some ps => if SeqAt.shaped p && SeqAt.shaped (.tuple ps) then some (ps.any fun z => PyData.eqv z p) else none
    | _, _ => none
  | .ro ys => match pyD S x, ys.mapM (pyD S) with
    | some p, some ps => if SeqAt.shaped p && SeqAt.shaped (.list ps) then some (ps.any fun z => PyData.eqv z p) else none
    | _, _ => none
  | .ref n => match S.h[n]? with
    | some (.lst ys) => match pyD S x, ys.mapM (pyD S) with
      | some p, some ps => if SeqAt.shaped p && SeqAt.shaped (.list ps) then some (ps.any fun z => PyData.eqv z p) else none
      | _, _ => none
    | some (.dct kvs) => (keyOf x).map fun k => (valD kvs k).isSome
    | some (.fdct kvs) => (keyOf x).map fun k => (valD kvs k).isSome
    | none => none
  | _ => none
def oIn : D → D → DS → Res D := fun x y S => match inD x y S with
  | some b => .ok (.bl b) S
  | none => .stuck
def oNotIn : D → D → DS → Res D := fun x y S => match inD x y S with
  | some b => .ok (.bl (!b)) S
  | none => .stuck
section
variable {X : Cx} {cm : Str → Value} {W : WX} {e e1 e2 o : Expr} {es : List Expr} {x : Str} {p pos apos cpos p2 : Pos} {fa fb fo : DE} {ga : DA} {K : PySem.W.Frag} {L : List Addr} {H : Hp} {S : DS} {σ : L2.St} {lo hi : Option Expr} {gl gh : DS → Res (Option Int)}
theorem p_none : PO X none (rdO X.K cm W dPN) := ⟨fun pins s σ H Q I q => po_none.run pins s σ H Q I (by
  obtain ⟨L, S, a, q⟩ := q
  exact q.give a rfl)⟩
theorem p_some (h : PE X e (rdE X.K cm W fa)) : PO X (some e) (rdO X.K cm W (dPS fa)) := ⟨fun pins s σ H Q I q => (po_some h).run pins s σ H Q I (by
  obtain ⟨L, S, a, q⟩ := q
  refine ⟨L, S, a, (Aft.step (R := Rep X.K cm) q).mono fun v H1 z => ?_⟩
  obtain ⟨L1, S1, d, e1, x1, r1, q1⟩ := z
  split at q1
  · cases r1
    exact ⟨_, rfl, q1.give x1 rfl⟩
  · exact q1.elim)⟩
theorem cut_reps {ds : List D} {vs : List V} (r : Reps K cm L H ds vs) (lo hi : Option Int) : Reps K cm L H (cutD ds lo hi) (cutV vs lo hi) := by
  unfold cutD cutV
  rw [← r.length]
  exact (r.drop _).take _
theorem cut_whole {ds : List D} {lo hi : Option Int} (h : HT.sIx ds.length 0 lo = 0 ∧ HT.sIx ds.length ds.length hi = ds.length) : cutD ds lo hi = ds := by
  unfold cutD
  rw [h.1, h.2, List.drop_zero, Nat.sub_zero, List.take_length]
theorem e_slice (ha : PE X e (rdE X.K cm W fa)) (hl : PO X lo (rdO X.K cm W gl)) (hh : PO X hi (rdO X.K cm W gh)) : PE X (.Subscript e (.Slice lo hi none p2) pos) (rdE X.K cm W (dSl fa gl gh)) := weakE (pe_slice (SlR.or (SlR.or sl_list sl_tupA) sl_str) ha hl hh) fun σ H Q q => by
  obtain ⟨L, S, a, q⟩ := q
  refine ⟨L, S, a, (Aft.step (R := Rep X.K cm) q).mono fun v H1 z => ?_⟩
  obtain ⟨L1, S1, d, e1, x1, r1, q1⟩ := z
  refine ⟨L1, S1, x1, (Aft.step (R := fun _ _ (b c : Option Int) => b = c) q1).mono fun l H2 z => ?_⟩
  obtain ⟨L2, S2, l', e2, x2, rfl, q2⟩ := z
  refine ⟨L2, S2, x2, (Aft.step (R := fun _ _ (b c : Option Int) => b = c) q2).mono fun u H3 z => ?_⟩
  obtain ⟨L3, S3, u', e3, x3, rfl, q3⟩ := z
  have r3 := r1.mono (e2.trans e3)
  unfold oSl at q3
  split at q3
  · split at q3
    · rename_i h
      cases r3
      exact .inr ⟨_, rfl, mx_line h, q3.give x3 (.str _)⟩
    · exact q3.elim
  · cases r3 with
    | tup hs rr =>
      refine .inl (.inr ⟨_, _, rfl, hs, fun h => ?_, fun _ p hp => ?_⟩)
      · rw [← rr.length] at h
        rw [cut_whole h] at q3
        exact q3.give x3 (.tup hs rr)
      · exact q3.giveE (Ext.beside hp) (x3.beside hp) (.tup (.inl (.inl upd_same)) ((cut_reps rr _ _).mono (Ext.beside hp)))
  · cases r3 with
    | ro hs rr => exact .inl (.inl ⟨_, _, rfl, hs.sq, fun p hp => give_new x3 (cut_reps rr _ _) q3 hp⟩)
  · split at q3
    · rename_i hx
      obtain ⟨p1, vs1, rfl, g1, e1, rr⟩ := x3.lst r3 hx
      exact .inl (.inl ⟨_, _, rfl, SqL.of e1, fun p hp => give_new x3 (cut_reps rr _ _) q3 hp⟩)
    · exact q3.elim
  · exact q3.elim

/-- what in asks, by the values -/
def rInA (K : PySem.W.Frag) (g : Bool → Bool) : R2 := fun x y H Q =>
  ((∃ i j, x = .str i ∧ y = .str j ∧ Q (.bl (g (!(Builtin.Str.occurrences j i 0 j.length 1).isEmpty))) H) ∨ (∃ d ds, Dp K H x d ∧ Dp K H y (.list ds) ∧ SeqAt.shaped d = true ∧ SeqAt.shaped (.list ds) = true ∧ Q (.bl (g (ds.any fun z => PyData.eqv z d))) H)) ∨
  ((∃ d ds, Dp K H x d ∧ Dp K H y (.tuple ds) ∧ SeqAt.shaped d = true ∧ SeqAt.shaped (.tuple ds) = true ∧ Q (.bl (g (ds.any fun z => PyData.eqv z d))) H) ∨ ∃ a o, y = .ref a ∧ DGet H a x o ∧ Q (.bl (g o.isSome)) H)
theorem room_in {A : Around} {ps : List PyData} {p : PyData} (hu : A.units + 66 < cLine) (h : SeqAt.shaped p = true) : A.units + 1 + min (PyData.depthAll ps) p.depth < cLine := by
  have h1 := SeqAt.depth_of_shaped h
  have h2 : min (PyData.depthAll ps) p.depth ≤ p.depth := Nat.min_le_right _ _
  omega
theorem op_inA (hu : X.A.units + 66 < cLine) : OpR X (compareOp .In) (rInA X.K id) := by
  refine OpR.or (OpR.or op_in_str (op_inD (by omega))) (OpR.or ?_ ?_)
  · intro pins s σ H x y v u Q I rx ry h
    obtain ⟨d, ds, hd, he, sd, se, q⟩ := h
    obtain ⟨as, r1⟩ := Dp.reads I d x v hd rx
    obtain ⟨bs, r2⟩ := Dp.reads I (.tuple ds) y u he ry
    have cl : PyData.canLayAll0 ds = true := by simpa [PyData.canLay0] using SeqAt.canLay_of_shaped se
    exact SeqAt.in_tuple_reads r2 r1 cl (SeqAt.canLay_of_shaped sd) (room_in hu sd) ⟨.bl _, H, I, rfl, q⟩
  · intro pins s σ H x y v u Q I rx ry h
    obtain ⟨a, ov, rfl, g, q⟩ := h
    cases ry
    exact d_in (by omega) I g rx fun s' I' => ⟨.bl _, H, I', rfl, q⟩
theorem op_notInA (hu : X.A.units + 66 < cLine) : OpR X (compareOp .NotIn) (rInA X.K not) := by
  refine OpR.or (OpR.or op_notIn_str (op_notInD (by omega))) (OpR.or ?_ ?_)
  · intro pins s σ H x y v u Q I rx ry h
    obtain ⟨d, ds, hd, he, sd, se, q⟩ := h
    obtain ⟨as, r1⟩ := Dp.reads I d x v hd rx
    obtain ⟨bs, r2⟩ := Dp.reads I (.tuple ds) y u he ry
    have cl : PyData.canLayAll0 ds = true := by simpa [PyData.canLay0] using SeqAt.canLay_of_shaped se
    exact SeqAt.notIn_tuple_reads r2 r1 cl (SeqAt.canLay_of_shaped sd) (room_in hu sd) ⟨.bl _, H, I, rfl, q⟩
  · intro pins s σ H x y v u Q I rx ry h
    obtain ⟨a, ov, rfl, g, q⟩ := h
    cases ry
    exact d_notIn (by omega) I g rx fun s' I' => ⟨.bl _, H, I', rfl, q⟩
theorem in_core {x y : V} {d e : D} (a : AbS K cm L H S σ) (r1 : Rep K cm L H d x) (r2 : Rep K cm L H e y) {b : Bool} (h : inD d e S = some b) {g : Bool → Bool} {Q : VK} (q : Q (.bl (g b)) H) : rInA K g x y H Q := by
  unfold inD at h
  split at h
  · split at h
    · cases r1; cases r2; cases h
      exact .inl (.inl ⟨_, _, rfl, rfl, q⟩)
    · cases h
  · split at h
    · rename_i p ps h1 h2
      split at h
      · rename_i hs
        cases h
        obtain ⟨s1, s2⟩ := Bool.and_eq_true_iff.mp hs
        cases r2 with
        | tup ht rr => exact .inr (.inl ⟨p, ps, pyD_rep a r1 h1, .tup ht (toPys_rep (fun _ _ _ r e => pyD_rep a r e) rr h2), s1, s2, q⟩)
      · cases h
    · cases h
  · split at h
    · rename_i p ps h1 h2
      split at h
      · rename_i hs
        cases h
        obtain ⟨s1, s2⟩ := Bool.and_eq_true_iff.mp hs
        cases r2 with
        | ro ht rr => exact .inl (.inr ⟨p, ps, pyD_rep a r1 h1, .lst ht.sq (toPys_rep (fun _ _ _ r e => pyD_rep a r e) rr h2), s1, s2, q⟩)
      · cases h
    · cases h
  · split at h
    · rename_i hx
      split at h
      · rename_i p ps h1 h2
        split at h
        · rename_i hs
          cases h
          obtain ⟨s1, s2⟩ := Bool.and_eq_true_iff.mp hs
          obtain ⟨p1, vs1, rfl, g1, e1, rr⟩ := a.lst r2 hx
          exact .inl (.inr ⟨p, ps, pyD_rep a r1 h1, .lst (SqL.of e1) (toPys_rep (fun _ _ _ r e => pyD_rep a r e) rr h2), s1, s2, q⟩)
        · cases h
      · cases h
    · rename_i kvs hx
      obtain ⟨k, hk, rfl⟩ := Option.map_eq_some_iff.mp h
      obtain ⟨p, vs, rfl, gd, rr⟩ := a.dget r2 (.inl hx)
      refine .inr (.inr ⟨p, valV vs k, rfl, .inl ⟨vs, k, gd, keyOf_rep r1 hk, rfl⟩, ?_⟩)
      have e : (valV vs k).isSome = (valD kvs k).isSome := by
        cases z : valD kvs k with
        | none => rw [(repK_val k rr).2 z] <;> rfl
        | some d => obtain ⟨v, hv, _⟩ := (repK_val k rr).1 d z; rw [hv]; rfl
      rw [e]; exact q
    · rename_i kvs hx
      obtain ⟨k, hk, rfl⟩ := Option.map_eq_some_iff.mp h
      obtain ⟨p, vs, rfl, gd, rr⟩ := a.dget r2 (.inr hx)
      refine .inr (.inr ⟨p, valV vs k, rfl, .inl ⟨vs, k, gd, keyOf_rep r1 hk, rfl⟩, ?_⟩)
      have e : (valV vs k).isSome = (valD kvs k).isSome := by
        cases z : valD kvs k with
        | none => rw [(repK_val k rr).2 z] <;> rfl
        | some d => obtain ⟨v, hv, _⟩ := (repK_val k rr).1 d z; rw [hv]; rfl
      rw [e]; exact q
    · cases h
  · cases h
theorem ro_in : ROp X cm W (rInA X.K id) oIn := by
  intro L H S σ x y d e Q a r1 r2 q
  unfold oIn at q
  split at q
  · rename_i b h
    exact in_core a r1 r2 h (q.give a (.bl _))
  · exact q.elim
theorem ro_notIn : ROp X cm W (rInA X.K not) oNotIn := by
  intro L H S σ x y d e Q a r1 r2 q
  unfold oNotIn at q
  split at q
  · rename_i b h
    exact in_core a r1 r2 h (q.give a (.bl _))
  · exact q.elim
end

/-! ### 14. dicts made and stored, lists stored -/
def evPairs : List (DE × DE) → DS → Res (List (D × D))
  | [] => fun S => .ok [] S
  | p :: r => fun S => (p.1 S).bind fun x S1 => (p.2 S1).bind fun y S2 => (evPairs r S2).bind fun ps S3 => .ok ((x, y) :: ps) S3
def keyPairs : List (D × D) → Option (List (Key × D))
  | [] => some []
  | p :: r => (keyOf p.1).bind fun k => (keyPairs r).map fun ks => (k, p.2) :: ks
def mergeD (kvs more : List (Key × D)) : List (Key × D) := more.foldl (fun acc p => putD acc p.1 p.2) kvs
def dDict (fs : List (DE × DE)) : DE := fun S => (evPairs fs S).bind fun ps S1 => match keyPairs ps with
  | some ks => if ks.length ≤ 15 then newO (.dct (mergeD [] ks)) S1 else .stuck
  | none => .stuck
def oPut : D → D → D → DS → Option DS := fun o i v S => match o with
  | .ref n => match S.h[n]? with
    | some (.lst xs) => match i with
      | .int k => match ixN xs.length k with
        | some j => some { S with h := S.h.set n (.lst (xs.set j v)) }
        | none => none
      | _ => none
    | some (.dct kvs) => match keyOf i with
      | some k => if kvs.length < mxL then some { S with h := S.h.set n (.dct (putD kvs k v)) } else none
      | none => none
    | _ => none
  | _ => none
def sPut (v o i : DE) : DSt := fun S => (v S).bind fun d S1 => (o S1).bind fun x S2 => (i S2).bind fun k S3 => match oPut x k d S3 with
  | some S4 => .ok .next S4
  | none => .stuck
section
variable {X : Cx} {cm : Str → Value} {W : WX} {e e1 e2 o : Expr} {es : List Expr} {x : Str} {p pos apos cpos p2 : Pos} {fa fb fo : DE} {ga : DA} {K : PySem.W.Frag} {L : List Addr} {H : Hp} {S : DS} {σ : L2.St}
def trsOf (K : PySem.W.Frag) (cm : Str → Value) (W : WX) (fs : List (DE × DE)) : List (TE × TE) := fs.map fun p => (rdE K cm W p.1, rdE K cm W p.2)
inductive Rep2 (K : PySem.W.Frag) (cm : Str → Value) (L : List Addr) (H : Hp) : List (D × D) → List (V × V) → Prop
  | nil : Rep2 K cm L H [] []
  | cons {a b : D} {x y : V} {ds : List (D × D)} {vs : List (V × V)} : Rep K cm L H a x → Rep K cm L H b y → Rep2 K cm L H ds vs → Rep2 K cm L H ((a, b) :: ds) ((x, y) :: vs)
theorem rd_pairs : ∀ (fs : List (DE × DE)) {L : List Addr} {H : Hp} {S : DS} {Q : List (V × V) → Hp → Prop}, AbS K cm L H S σ → Aft K cm W (Rep2 K cm) L σ H (evPairs fs S) Q → tPairs (trsOf K cm W fs) σ H Q
  | [], L, H, S, Q, a, q => q.give a .nil
  | f :: fs, L, H, S, Q, a, q => by
    refine ⟨L, S, a, (Aft.step (R := Rep K cm) q).mono fun v H1 z => ?_⟩
    obtain ⟨L1, S1, d, e1, x1, r1, q1⟩ := z
    refine ⟨L1, S1, x1, (Aft.step (R := Rep K cm) q1).mono fun u H2 z => ?_⟩
    obtain ⟨L2, S2, d2, e2, x2, r2, q2⟩ := z
    refine rd_pairs fs x2 ((Aft.step (R := Rep2 K cm) q2).mono fun w H3 z => ?_)
    obtain ⟨L3, S3, d3, e3, x3, r3, q3⟩ := z
    exact q3.give x3 (.cons (r1.mono (e2.trans e3)) (r2.mono e3) r3)
theorem keyPairs_rep : ∀ {ps : List (D × D)} {vs : List (V × V)} {ks : List (Key × D)}, Rep2 K cm L H ps vs → keyPairs ps = some ks → ∃ kvs : List (Key × V), vs = kvs.map (fun kv => (kV kv.1, kv.2)) ∧ RepK K cm L H ks kvs
  | _, _, _, .nil, h => by
    cases h
    exact ⟨[], rfl, .nil⟩
  | _, _, _, .cons r1 r2 t, h => by
    unfold keyPairs at h
    obtain ⟨k, hk, h⟩ := Option.bind_eq_some_iff.mp h
    obtain ⟨ks, hks, rfl⟩ := Option.map_eq_some_iff.mp h
    obtain ⟨kvs, rfl, rr⟩ := keyPairs_rep t hks
    exact ⟨(k, _) :: kvs, by rw [List.map_cons, keyOf_rep r1 hk], .cons r2 rr⟩
theorem merge_rep : ∀ {ms : List (Key × D)} {ns : List (Key × V)} {ks : List (Key × D)} {vs : List (Key × V)}, RepK K cm L H ms ns → RepK K cm L H ks vs → RepK K cm L H (mergeD ks ms) (mergeK vs ns)
  | _, _, _, _, .nil, r => r
  | _, _, ks, vs, .cons (k := k) (d := d) (v := v) r0 t, r => by
    show RepK K cm L H (mergeD (putD ks k d) _) (mergeK (putK vs k v) _)
    exact merge_rep t (repK_put r r0)
theorem e_dict {keys : List (Option Expr)} {values : List Expr} {fs : List (DE × DE)} (h : PPs X pos keys values (trsOf X.K cm W fs)) (hall : keys.all (·.isSome) = true := by rfl) (hl : keys.length = values.length := by rfl) (h0 : keys ≠ [] := by exact fun z => by cases z) (h15 : keys.length ≤ 15 := by decide) :
    PE X (.Dict keys values pos) (rdE X.K cm W (dDict fs)) := weakE (pe_disp h hall hl h0 h15) fun σ H Q q => by
  obtain ⟨L, S, a, q⟩ := q
  intro p hp
  have a1 := a.beside (o := .dK []) hp
  have pf := a.hp.fresh hp
  refine rd_pairs fs a1 ?_
  unfold dDict at q
  generalize hr : evPairs fs S = r at q
  cases r with
  | ok ps S1 =>
    intro L1 H1 vs e1 x1 r1
    obtain ⟨np, h1, w1, ea⟩ := Ext.adopt (o2 := .dK []) hp pf e1 (.inr ⟨[], upd_same⟩)
    refine ⟨h1, ?_⟩
    rw [Res.bind_ok] at q
    split at q
    · rename_i ks hk
      obtain ⟨kvs, rfl, rk⟩ := keyPairs_rep r1 hk
      split at q
      · rename_i hz
        refine ⟨kvs, rfl, by rw [← repK_length rk]; exact hz, ?_⟩
        obtain ⟨_, _, _, eb⟩ := Ext.adopt (o2 := .dK (mergeK [] kvs)) hp pf e1 (.inr ⟨[], upd_same⟩)
        have mw : ExtW X.K L1 H1 (L1 ++ [p]) (upd H1 p (.dK (mergeK [] kvs))) := ExtW.adopt w1
        have hb : HAb X.K cm (L1 ++ [p]) (upd H1 p (.dK (mergeK [] kvs))) (S1.h ++ [.dct (mergeD [] ks)]) := x1.hp.adopt np w1 ⟨_, upd_same, (merge_rep rk .nil).monoW mw⟩
        exact q _ _ _ eb ⟨hb, x1.loc.monoW mw⟩ (.ref x1.hp.newIx)
      · exact q.elim
    · exact q.elim
  | exc u S1 =>
    intro L1 H1 c dx e1 x1 r1
    exact q L1 H1 c dx ((Ext.beside hp).trans e1) x1 r1
  | stuck => exact q
def rSetDk : V → V → V → Hp → (Hp → Prop) → Prop := fun o i v H Q => ∃ a H', o = .ref a ∧ DPut H a i v H' ∧ Q H'
theorem pset_any (hu : X.A.units + 1 < cLine) : PSet X (fun o i v H Q => rSetL o i v H Q ∨ rSetDk o i v H Q) := by
  intro pins s σ H o i v ov iv u Q I ro ri rv h
  rcases h with h | ⟨a, H', rfl, g, q⟩
  · exact set_list pins s σ H o i v ov iv u Q I ro ri rv h
  · cases ro
    exact d_setItem hu I g ri rv fun s' I' => ⟨H', I', q⟩
theorem s_put {pos' : Pos} (hu : X.A.units + 1 < cLine) (hv : PE X e (rdE X.K cm W fa)) (ho : PE X o (rdE X.K cm W fo)) (hi : PE X e2 (rdE X.K cm W fb)) (hs : swapsWithSole [.Subscript o e2 pos'] e pos.line X.env = pure false := by rfl) (hw : swappedStores [.Subscript o e2 pos'] e X.env = pure none := by rfl)
    (h1 : (assignEach [.Subscript o e2 pos'] X.env).map (·.2) = [assign (.Subscript o e2 pos') X.env] := by rfl)
    (ha : ∀ v, assign (.Subscript o e2 pos') X.env v = (do
      let ov ← holding [v] (eval o X.env)
      let iv ← holding [v, ov] (eval e2 X.env)
      standAt pos'
      holding [v, ov, iv] (setItem ov iv v)
      release [v, ov, iv] []) := by intro _; rfl) : PS X (.Assign [.Subscript o e2 pos'] e pos) (rdS X.K cm W (sPut fa fo fb)) := weakS (ps_asg hv (pg_sub ho hi (pset_any hu) ha) hs hw h1) fun E σ H q => by
  obtain ⟨L, S, a, q⟩ := q
  refine ⟨L, S, a, (AftS.step (R := Rep X.K cm) q).mono fun v H1 z => ?_⟩
  obtain ⟨L1, S1, d, e1, x1, r1, q1⟩ := z
  refine ⟨L1, S1, x1, (AftS.step (R := Rep X.K cm) q1).mono fun ov H2 z => ?_⟩
  obtain ⟨L2, S2, d2, e2, x2, r2, q2⟩ := z
  refine ⟨L2, S2, x2, (AftS.step (R := Rep X.K cm) q2).mono fun iv H3 z => ?_⟩
  obtain ⟨L3, S3, d3, e3, x3, r3, q3⟩ := z
  have rv := r1.mono (e2.trans e3)
  have ro := r2.mono e3
  split at q3
  · rename_i S4 h4
    unfold oPut at h4
    split at h4
    · split at h4
      · rename_i xs hx
        obtain ⟨p1, vs1, rfl, g1, h1, rr⟩ := x3.lst ro hx
        split at h4
        · split at h4
          · rename_i j hj
            cases h4
            cases r3
            have ep := Ext.put (o := .lst (vs1.set j v)) x3.hp g1 (.inl ⟨_, h1⟩)
            exact .inl ⟨_, _, _, j, rfl, rfl, h1, by rw [← rr.length]; exact hj, q3 L3 _ σ ep (x3.put g1 (.inl ⟨_, h1⟩) ⟨_, upd_same, ((Reps.set rv j rr).mono ep)⟩)⟩
          · cases h4
        · cases h4
      · rename_i kvs hx
        obtain ⟨p1, vs1, rfl, g1, h1, rr⟩ := x3.dct ro hx
        split at h4
        · rename_i k hk
          split at h4
          · rename_i hz
            cases h4
            have ep := Ext.put (o := .dK (putK vs1 k v)) x3.hp g1 (.inr ⟨_, h1⟩)
            exact .inr ⟨_, _, rfl, .inl ⟨vs1, k, h1, keyOf_rep r3 hk, by rw [← repK_length rr]; exact mx_lt hz, rfl⟩, q3 L3 _ σ ep (x3.put g1 (.inr ⟨_, h1⟩) ⟨_, upd_same, (repK_put rr rv).mono ep⟩)⟩
          · cases h4
        · cases h4
      · cases h4
    · cases h4
  · exact q3.elim
end
end Den

namespace Den
open PySem L2

/-! ### 15. methods of lists and texts -/
def dMt (f : D → List D → DS → Res D) (o : DE) (a : DA) : DE := fun S => (o S).bind fun x S1 => (a S1).bind fun ds S2 => f x ds S2
/-- the receiver a list of ours (or a dict), ahead of the arguments too -/
def isLst (S : DS) : D → Bool
  | .ref n => match S.h[n]? with
    | some (.lst _) => true
    | _ => false
  | _ => false
def dMtL (f : D → List D → DS → Res D) (o : DE) (a : DA) : DE := fun S => (o S).bind fun x S1 => if isLst S1 x then (a S1).bind fun ds S2 => f x ds S2 else .stuck
def isStr : D → Bool
  | .str _ => true
  | _ => false
def dMtS (f : D → List D → DS → Res D) (o : DE) (a : DE) : DE := fun S => (o S).bind fun x S1 => if isStr x then (a S1).bind fun d S2 => f x [d] S2 else .stuck
def dMtS0 (f : D → List D → DS → Res D) (o : DE) : DE := fun S => (o S).bind fun x S1 => if isStr x then f x [] S1 else .stuck
def mAppend : D → List D → DS → Res D := fun x ds S => match x, ds with
  | .ref n, [d] => match S.h[n]? with
    | some (.lst xs) => if xs.length < mxL then .ok .non { S with h := S.h.set n (.lst (xs ++ [d])) } else .stuck
    | _ => .stuck
  | _, _ => .stuck
def mPop : D → List D → DS → Res D := fun x ds S => match x, ds with
  | .ref n, [] => match S.h[n]? with
    | some (.lst xs) => match xs[xs.length - 1]? with
      | some d => .ok d { S with h := S.h.set n (.lst xs.dropLast) }
      | none => .stuck
    | _ => .stuck
  | _, _ => .stuck
def mSplit : D → List D → DS → Res D := fun x ds S => match x, ds with
  | .str a, [.str b] => if b.length ≠ 0 ∧ a.length + 2 ≤ mxL then newO (.lst ((Txt.split a b).map .str)) S else .stuck
  | _, _ => .stuck
def mPart : D → List D → DS → Res D := fun x ds S => match x, ds with
  | .str a, [.str b] => if b.length ≠ 0 ∧ a.length ≤ mxL then .ok (.tup [.str (Txt.partition a b).1, .str (Txt.partition a b).2.1, .str (Txt.partition a b).2.2]) S else .stuck
  | _, _ => .stuck
def mStarts : D → List D → DS → Res D := fun x ds S => match x, ds with
  | .str a, [.str b] => .ok (.bl (Txt.startswith a b)) S
  | _, _ => .stuck
def strsOf : List D → Option (List Str)
  | [] => some []
  | .str x :: r => (strsOf r).map fun ys => x :: ys
  | _ => none
def joinOk (a : Str) (ys : List Str) : Bool := decide ((ys.map (·.length)).sum + ys.length * a.length ≤ mxL)
def mJoin : D → List D → DS → Res D := fun x ds S => match x, ds with
  | .str a, [.tup xs] => match strsOf xs with
    | some ys => if joinOk a ys then .ok (.str (Txt.join a ys)) S else .stuck
    | none => .stuck
  | .str a, [.ref n] => match S.h[n]? with
    | some (.lst xs) => match strsOf xs with
      | some ys => if joinOk a ys then .ok (.str (Txt.join a ys)) S else .stuck
      | none => .stuck
    | _ => .stuck
  | _, _ => .stuck
section
variable {X : Cx} {cm : Str → Value} {W : WX} {e e1 e2 o : Expr} {es : List Expr} {x name : Str} {p pos apos cpos p2 : Pos} {fa fb fo : DE} {ga : DA} {K : PySem.W.Frag} {L : List Addr} {H : Hp} {S : DS} {σ : L2.St}
theorem mo_append : MOp X cm W rAppend mAppend := by
  intro L H S σ x xs d ds Q a r1 r2 q
  unfold mAppend at q
  split at q
  · split at q
    · rename_i hx
      obtain ⟨p1, vs1, rfl, g1, h1, rr⟩ := a.lst r1 hx
      split at q
      · rename_i hz
        cases r2 with
        | cons r2 r3 =>
          cases r3
          have ep := fun v : V => Ext.put (o := .lst (vs1 ++ [v])) a.hp g1 (.inl ⟨_, h1⟩)
          exact ⟨_, _, _, rfl, rfl, h1, by rw [← rr.length]; exact mx_lt hz, q.giveE (ep _) (a.put g1 (.inl ⟨_, h1⟩) ⟨_, upd_same, (rr.append (.cons r2 .nil)).mono (ep _)⟩) .non⟩
      · exact q.elim
    · exact q.elim
  · exact q.elim
theorem mo_pop : MOp X cm W rPop mPop := by
  intro L H S σ x xs d ds Q a r1 r2 q
  unfold mPop at q
  split at q
  · split at q
    · rename_i hx
      obtain ⟨p1, vs1, rfl, g1, h1, rr⟩ := a.lst r1 hx
      split at q
      · rename_i hz
        cases r2
        obtain ⟨v, hv, rv⟩ := rr.get hz
        rw [rr.length] at hv
        have ep := Ext.put (o := .lst vs1.dropLast) a.hp g1 (.inl ⟨_, h1⟩)
        refine ⟨_, _, v, rfl, rfl, h1, hv, q.giveE ep (a.put g1 (.inl ⟨_, h1⟩) ⟨_, upd_same, Reps.mono ep ?_⟩) (rv.mono ep)⟩
        rw [List.dropLast_eq_take, List.dropLast_eq_take, ← rr.length]
        exact rr.take _
      · exact q.elim
    · exact q.elim
  · exact q.elim
theorem strs_reps : ∀ ys : List Str, Reps K cm L H (ys.map D.str) (ys.map V.str)
  | [] => .nil
  | y :: ys => .cons (.str y) (strs_reps ys)
theorem mo_split : MOp X cm W (fun x xs H Q => ∃ a b, x = .str a ∧ xs = [.str b] ∧ (b.length == 0) = false ∧ a.length + 2 ≤ sizeLine ∧ rNewStrs (Txt.split a b) H Q) mSplit := by
  intro L H S σ x xs d ds Q a r1 r2 q
  unfold mSplit at q
  split at q
  · split at q
    · rename_i h
      cases r1
      cases r2 with
      | cons r2 r3 =>
        cases r3; cases r2
        exact ⟨_, _, rfl, rfl, by simpa using h.1, mx_line h.2, fun p hp => give_new a (strs_reps _) q hp⟩
    · exact q.elim
  · exact q.elim
theorem mo_part : MOp X cm W (fun x xs H Q => ∃ a b, x = .str a ∧ xs = [.str b] ∧ (b.length == 0) = false ∧ a.length ≤ sizeLine ∧
    ∀ p, H p = none → Q (.ref p) (upd H p (.tup [.str (Txt.partition a b).1, .str (Txt.partition a b).2.1, .str (Txt.partition a b).2.2]))) mPart := by
  intro L H S σ x xs d ds Q a r1 r2 q
  unfold mPart at q
  split at q
  · split at q
    · rename_i h
      cases r1
      cases r2 with
      | cons r2 r3 =>
        cases r3; cases r2
        exact ⟨_, _, rfl, rfl, by simpa using h.1, mx_line h.2, fun p hp => q.giveE (Ext.beside hp) (a.beside hp) (.tup (.inl (.inl upd_same)) (.cons (.str _) (.cons (.str _) (.cons (.str _) .nil))))⟩
    · exact q.elim
  · exact q.elim
theorem mo_starts : MOp X cm W (fun x xs H Q => ∃ a b, x = .str a ∧ xs = [.str b] ∧ Q (.bl (Txt.startswith a b)) H) mStarts := by
  intro L H S σ x xs d ds Q a r1 r2 q
  unfold mStarts at q
  split at q
  · cases r1
    cases r2 with
    | cons r2 r3 =>
      cases r3; cases r2
      exact ⟨_, _, rfl, rfl, q.give a (.bl _)⟩
  · exact q.elim
theorem strsOf_reps : ∀ {ds : List D} {vs : List V} {ys : List Str}, Reps K cm L H ds vs → strsOf ds = some ys → vs = ys.map V.str
  | _, _, _, .nil, h => by cases h; rfl
  | d :: ds, _, _, .cons r t, h => by
    cases d <;> first
      | (unfold strsOf at h
         obtain ⟨zs, hz, rfl⟩ := Option.map_eq_some_iff.mp h
         cases r
         rw [strsOf_reps t hz]; rfl)
      | (unfold strsOf at h; cases h)
theorem mo_join : MOp X cm W (fun x xs H Q => ∃ a p, ∃ ys : List Str, x = .str a ∧ xs = [.ref p] ∧ (SqL X.K H p (ys.map V.str) ∨ SqT X.K H p (ys.map V.str)) ∧
      (ys.map (·.length)).sum + ys.length * a.length ≤ 16777216 ∧ Q (.str (Txt.join a ys)) H) mJoin := by
  intro L H S σ x xs d ds Q a r1 r2 q
  unfold mJoin at q
  split at q
  · split at q
    · rename_i ys hy
      split at q
      · rename_i h
        cases r1
        cases r2 with
        | cons r2 r3 =>
          cases r3
          cases r2 with
          | tup hs rr => exact ⟨_, _, ys, rfl, rfl, .inr (by rw [← strsOf_reps rr hy]; exact hs), Nat.le_trans (of_decide_eq_true h) (by decide), q.give a (.str _)⟩
      · exact q.elim
    · exact q.elim
  · split at q
    · rename_i hx
      split at q
      · rename_i ys hy
        split at q
        · rename_i h
          cases r1
          cases r2 with
          | cons r2 r3 =>
            cases r3
            obtain ⟨p1, vs1, rfl, g1, h1, rr⟩ := a.lst r2 hx
            exact ⟨_, _, ys, rfl, rfl, .inl (by rw [← strsOf_reps rr hy]; exact SqL.of h1), Nat.le_trans (of_decide_eq_true h) (by decide), q.give a (.str _)⟩
        · exact q.elim
      · exact q.elim
    · exact q.elim
  · exact q.elim
theorem isLst_ty {v : V} {d : D} (a : AbS K cm L H S σ) (r : Rep K cm L H d v) (h : isLst S d = true) : tyV K "list" v H := by
  unfold isLst at h
  split at h
  · split at h
    · rename_i hx
      obtain ⟨p1, vs1, rfl, g1, h1, rr⟩ := a.lst r hx
      exact .inl ⟨rfl, _, SqL.of h1⟩
    · cases h
  · cases h
theorem e_mtL {id : String} {r : V → List V → Hp → VK → Prop} {f : D → List D → DS → Res D} (pa : PlainAttrs "list") (slot : Slot "list" name id) (hty : typeOf (.builtin id) = pure (.type "method_descriptor")) (hm : MtR X id r) (h : MOp X cm W r f)
    (ho : PE X o (rdE X.K cm W fo)) (ha : PA X (e :: es) (rdA X.K cm W ga)) (hbase : attributeBase o name X.env (eval o X.env) = eval o X.env := by rfl)
    (hfew : ((backTo cpos (starEach (e :: es) X.env)).all (fun x => !x.1) && (backToKw cpos (keywordEach [] X.env)).all (fun x => x.1.isSome)
      && decide ((e :: es).length + ([] : List Keyword).length + (if ([] : List Keyword).isEmpty then 0 else 1) < 30)) = true := by rfl)
    (hline : (apos.endLine == cpos.line) = true := by rfl) (hs : starEach (e :: es) X.env = (false, eval e X.env) :: starEach es X.env := by rfl) (hplain : (backTo cpos (starEach es X.env)).any (·.1) = false := by rfl) :
    PE X (.Call (.Attribute o name apos) (e :: es) [] cpos) (rdE X.K cm W (dMtL f fo ga)) := weakE (pe_bm pa slot hty hm ho ha hbase hfew hline hs hplain) fun σ H Q q => by
  obtain ⟨L, S, a, q⟩ := q
  refine ⟨L, S, a, (Aft.step (R := Rep X.K cm) q).mono fun v H1 z => ?_⟩
  obtain ⟨L1, S1, d, e1, x1, r1, q1⟩ := z
  split at q1
  · rename_i hl
    refine ⟨isLst_ty x1 r1 hl, L1, S1, x1, (Aft.step (R := Reps X.K cm) q1).mono fun vs H2 z => ?_⟩
    obtain ⟨L2, S2, d2, e2, x2, r2, q2⟩ := z
    exact h x2 (r1.mono e2) r2 q2
  · exact q1.elim
theorem e_mtL0 {id : String} {r : V → List V → Hp → VK → Prop} {f : D → List D → DS → Res D} (pa : PlainAttrs "list") (slot : Slot "list" name id) (hty : typeOf (.builtin id) = pure (.type "method_descriptor")) (hm : MtR X id r) (h : MOp X cm W r f)
    (ho : PE X o (rdE X.K cm W fo)) (hbase : attributeBase o name X.env (eval o X.env) = eval o X.env := by rfl)
    (hline : (apos.endLine == cpos.line) = true := by rfl) : PE X (.Call (.Attribute o name apos) [] [] cpos) (rdE X.K cm W (dMtL f fo dNil)) := weakE (pe_bm0 pa slot hty hm ho hbase hline) fun σ H Q q => by
  obtain ⟨L, S, a, q⟩ := q
  refine ⟨L, S, a, (Aft.step (R := Rep X.K cm) q).mono fun v H1 z => ?_⟩
  obtain ⟨L1, S1, d, e1, x1, r1, q1⟩ := z
  split at q1
  · rename_i hl
    exact ⟨isLst_ty x1 r1 hl, h x1 r1 .nil q1⟩
  · exact q1.elim
theorem e_mtS {id : String} {r : V → List V → Hp → VK → Prop} {f : D → List D → DS → Res D} (slot : Slot "str" name id) (hty : typeOf (.builtin id) = pure (.type "method_descriptor")) (hm : MtR X id r) (h : MOp X cm W r f) (ho : PE X o (rdE X.K cm W fo)) (ha : PE X e (rdE X.K cm W fa))
    (hs : starEach [e] X.env = [(false, eval e X.env)] := by rfl) (hbase : attributeBase o name X.env (eval o X.env) = eval o X.env := by rfl) (hline : (apos.endLine == pos.line) = true := by rfl) :
    PE X (.Call (.Attribute o name apos) [e] [] pos) (rdE X.K cm W (dMtS f fo fa)) := weakE (pe_m1 slot hty hm ho ha hs hbase hline) fun σ H Q q => by
  obtain ⟨L, S, a, q⟩ := q
  refine ⟨L, S, a, (Aft.step (R := Rep X.K cm) q).mono fun v H1 z => ?_⟩
  obtain ⟨L1, S1, d, e1, x1, r1, q1⟩ := z
  split at q1
  · rename_i hl
    refine ⟨?_, L1, S1, x1, (Aft.step (R := Rep X.K cm) q1).mono fun v2 H2 z => ?_⟩
    · unfold isStr at hl
      split at hl
      · cases r1; exact ⟨_, rfl⟩
      · cases hl
    · obtain ⟨L2, S2, d2, e2, x2, r2, q2⟩ := z
      exact h x2 (r1.mono e2) (.cons r2 .nil) q2
  · exact q1.elim

/-! ### 16. what a for walks -/
def iOf (d : D) (S : DS) : Res Iter0 := match d with
  | .tup xs => .ok (.vals xs) S
  | .ro xs => .ok (.vals xs) S
  | .str x => .ok (.vals (x.cps.toList.map fun c => .str ⟨#[c]⟩)) S
  | .ref n => match S.h[n]? with
    | some (.lst _) => .ok (.dyn (lstIt n)) S
    | _ => .stuck
  | _ => .stuck
def dIter (a : DE) : DS → Res Iter0 := fun S => (a S).bind iOf
def rgD (lo : Int) (n : Nat) : List D := (List.range n).map fun k => D.int (lo + (k : Nat))
def dRng (a : DA) : DS → Res Iter0 := fun S => (a S).bind fun ds S1 => match ds with
  | [.int j] => if -1000000 ≤ j ∧ j ≤ 1000000 then .ok (.vals (rgD 0 j.toNat)) S1 else .stuck
  | [.int i, .int j] => if (-1000000 ≤ i ∧ i ≤ 1000000) ∧ -1000000 ≤ j ∧ j ≤ 1000000 then .ok (.vals (rgD i (j - i).toNat)) S1 else .stuck
  | _ => .stuck
theorem pi_or {tg iter : Expr} {w1 w2 : TI} (h1 : PI X tg iter w1) (h2 : PI X tg iter w2) : PI X tg iter (fun σ H R => w1 σ H R ∨ w2 σ H R) := ⟨fun pins s σ H R I q => by
  rcases q with q | q
  · exact h1.run pins s σ H R I q
  · exact h2.run pins s σ H R I q⟩
theorem weakI {tg iter : Expr} {w w' : TI} (h : PI X tg iter w) (k : ∀ σ H R, w' σ H R → w σ H R) : PI X tg iter w' := ⟨fun pins s σ H R I q => h.run pins s σ H R I (k _ _ _ q)⟩
theorem walk_keep {xs : List D} {J : It} (go : ∀ L' H' i d, Ext K L H L' H' → xs[i]? = some d → J.go i H' ∧ ∀ x H2, J.yld i H' x H2 → H2 = H' ∧ Rep K cm L' H' d x) (st : ∀ L' H', Ext K L H L' H' → J.stop xs.length H') : Walks0 K cm L H xs J :=
  ⟨fun L' H' i d e h => ⟨(go L' H' i d e h).1, fun x H2 y => by
    obtain ⟨rfl, r⟩ := (go L' H' i d e h).2 x H2 y
    exact ⟨Ext.refl, fun _ z => z, r⟩⟩, st⟩
theorem walk_tup {xs : List D} {vs : List V} {a : Addr} (hs : SqT K H a vs) (r : Reps K cm L H xs vs) : Walks0 K cm L H xs (Itt K a) :=
  walk_keep (fun L' H' i d e h => by
    obtain ⟨v, hv, rv⟩ := r.get h
    exact ⟨⟨vs, v, e.tup _ _ hs, hv⟩, fun x H2 y => ⟨y.1, by
      have q := y.2 vs (e.tup _ _ hs)
      rw [hv] at q; cases q
      exact rv.mono e⟩⟩) fun L' H' e => ⟨vs, e.tup _ _ hs, by rw [r.length]; exact Nat.le_refl _⟩
theorem walk_ro {xs : List D} {vs : List V} {a : Addr} (hs : SqR K H a vs) (r : Reps K cm L H xs vs) : Walks0 K cm L H xs (Itl K a) :=
  walk_keep (fun L' H' i d e h => by
    obtain ⟨v, hv, rv⟩ := r.get h
    exact ⟨⟨vs, v, (e.rol _ _ hs).sq, hv⟩, fun x H2 y => ⟨y.1, by
      have q := y.2 vs (e.rol _ _ hs).sq
      rw [hv] at q; cases q
      exact rv.mono e⟩⟩) fun L' H' e => ⟨vs, (e.rol _ _ hs).sq, by rw [r.length]; exact Nat.le_refl _⟩
theorem walk_rng (lo : Int) (n : Nat) : Walks0 K cm L H (rgD lo n) (Itr lo n) :=
  walk_keep (fun L' H' i d e h => by
    unfold rgD at h
    rw [List.getElem?_map] at h
    cases z : (List.range n)[i]? with
    | none => rw [z] at h; cases h
    | some k =>
      rw [z] at h
      cases h
      obtain ⟨hi, rfl⟩ := List.getElem?_eq_some_iff.mp z
      rw [List.length_range] at hi
      refine ⟨hi, fun x H2 y => ⟨y.1, ?_⟩⟩
      rw [y.2, List.getElem_range]
      exact .int _) fun L' H' e => by
    unfold rgD
    rw [List.length_map, List.length_range]
    exact Nat.le_refl _
theorem walk_str (z : Str) : Walks0 K cm L H (z.cps.toList.map fun c => .str ⟨#[c]⟩) (Its z) :=
  walk_keep (fun L' H' i d e h => by
    rw [List.getElem?_map] at h
    cases q : z.cps.toList[i]? with
    | none => rw [q] at h; cases h
    | some c =>
      rw [q] at h
      cases h
      obtain ⟨hi, hc⟩ := List.getElem?_eq_some_iff.mp q
      refine ⟨show i < z.cps.size by simpa using hi, fun x H2 y => ⟨y.1, ?_⟩⟩
      obtain ⟨c', h1, h2⟩ := y.2
      rw [← Array.getElem?_toList, q] at h1
      cases h1
      rw [h2]
      exact .str _) fun L' H' e => by
    rw [List.length_map, Array.length_toList]
    exact Nat.le_refl _
theorem walk_lst {n : Nat} {a : Addr} (hL : L[n]? = some a) : WalksD K cm L H (lstIt n) (Itl K a) :=
  ⟨fun L' H' h i d e hb hf => by
    unfold lstIt at hf
    split at hf
    · rename_i xs hx
      obtain ⟨vs, hH, rr⟩ := hb.obs _ _ _ hx (e.ix hL)
      obtain ⟨v, hv, rv⟩ := rr.get (Option.some.inj hf)
      refine ⟨⟨vs, v, SqL.of hH, hv⟩, fun x H2 y => ?_⟩
      obtain ⟨rfl, hy⟩ := y
      have ev := hy vs (SqL.of hH)
      rw [hv] at ev
      cases ev
      exact ⟨Ext.refl, fun _ z => z, rv⟩
    · exact (nomatch hf), fun L' H' h i e hb hf => by
    unfold lstIt at hf
    split at hf
    · rename_i xs hx
      obtain ⟨vs, hH, rr⟩ := hb.obs _ _ _ hx (e.ix hL)
      refine ⟨vs, SqL.of hH, ?_⟩
      rw [← rr.length]
      exact List.getElem?_eq_none_iff.mp (Option.some.inj hf)
    · cases hf⟩
theorem i_any {tg iter : Expr} (he : PE X iter (rdE X.K cm W fa)) : PI X tg iter (rdI X.K cm W (dIter fa)) := weakI (pi_or (pi_or (pi_list he) (pi_tup he)) (pi_str he)) fun σ H R q => by
  obtain ⟨L, S, a, q⟩ := q
  unfold dIter at q
  generalize hr : fa S = r at q
  cases r with
  | ok d S1 =>
    rw [Res.bind_ok] at q
    unfold iOf at q
    split at q
    · refine .inl (.inr ⟨L, S, a, ?_⟩)
      rw [hr]
      intro L1 H1 v e1 x1 r1
      cases r1 with
      | tup hs rr => exact ⟨_, rfl, ⟨_, hs⟩, q L1 H1 _ e1 x1 (walk_tup hs rr)⟩
    · refine .inl (.inl ⟨L, S, a, ?_⟩)
      rw [hr]
      intro L1 H1 v e1 x1 r1
      cases r1 with
      | ro hs rr => exact ⟨_, rfl, ⟨_, hs.sq⟩, q L1 H1 _ e1 x1 (walk_ro hs rr)⟩
    · refine .inr ⟨L, S, a, ?_⟩
      rw [hr]
      intro L1 H1 v e1 x1 r1
      cases r1
      exact ⟨_, rfl, q L1 H1 _ e1 x1 (walk_str _)⟩
    · split at q
      · rename_i hx
        refine .inl (.inl ⟨L, S, a, ?_⟩)
        rw [hr]
        intro L1 H1 v e1 x1 r1
        obtain ⟨p1, vs1, rfl, g1, h1, rr⟩ := x1.lst r1 hx
        exact ⟨_, rfl, ⟨_, SqL.of h1⟩, q L1 H1 _ e1 x1 (walk_lst g1)⟩
      · exact q.elim
    · exact q.elim
  | exc u S1 =>
    refine .inl (.inl ⟨L, S, a, ?_⟩)
    rw [hr]
    exact q
  | stuck => exact q.elim
theorem rd_rng {ga : DA} {σ : L2.St} {H : Hp} {R : It → Hp → Prop} (q : rdI X.K cm W (dRng ga) σ H R) : rdA X.K cm W ga σ H fun vs H1 => (∀ j, vs = [V.int j] → -(2 ^ 62) ≤ j ∧ j < 2 ^ 62 ∧ R (Itr 0 j.toNat) H1) ∧
    (∀ i j, vs = [V.int i, V.int j] → (-(2 ^ 62) ≤ i ∧ i < 2 ^ 62 ∧ -(2 ^ 62) ≤ j ∧ j < 2 ^ 62) ∧ R (Itr i (j - i).toNat) H1) ∧ ((∃ j, vs = [V.int j]) ∨ ∃ i j, vs = [V.int i, V.int j]) := by
  obtain ⟨L, S, x, q⟩ := q
  refine ⟨L, S, x, (Aft.step (R := Reps X.K cm) q).mono fun v H1 z => ?_⟩
  obtain ⟨L1, S1, d, e1, x1, r1, q1⟩ := z
  split at q1
  · split at q1
    · rename_i h
      cases r1 with
      | cons r1 r2 =>
        cases r2; cases r1
        exact ⟨fun j e => (by cases e; exact ⟨by omega, by omega, q1.give x1 (walk_rng 0 _)⟩), fun i j e => (by cases e), .inl ⟨_, rfl⟩⟩
    · exact q1.elim
  · split at q1
    · rename_i h
      cases r1 with
      | cons r1 r2 =>
        cases r2 with
        | cons r2 r3 =>
          cases r3; cases r2; cases r1
          exact ⟨fun j e => (by cases e), fun i j e => (by cases e; exact ⟨⟨by omega, by omega, by omega, by omega⟩, q1.give x1 (walk_rng _ _)⟩), .inr ⟨_, _, rfl⟩⟩
    · exact q1.elim
  · exact q1.elim
theorem i_rng1 {tg a : Expr} {ga : DA} (hg : Gl X "range") (hm : X.mg "range" = none) (ha : PA X [a] (rdA X.K cm W ga)) (hc : Cnt ga 1) (hs : starEach [a] X.env = [(false, eval a X.env)] := by rfl) : PI X tg (.Call (.Name "range" p) [a] [] pos) (rdI X.K cm W (dRng ga)) :=
  weakI (pi_range1 hg hm ha hs) fun σ H R q => by
  have hl := hc
  obtain ⟨L, S, x, q⟩ := rd_rng q
  refine ⟨L, S, x, ?_⟩
  generalize hr : ga S = r at q
  cases r with
  | ok ds S1 =>
    intro L1 H1 vs e1 x1 r1
    obtain ⟨h1, h2, h3⟩ := q L1 H1 vs e1 x1 r1
    have n1 := hl _ _ _ hr
    rw [r1.length] at n1
    rcases h3 with ⟨j, rfl⟩ | ⟨i, j, rfl⟩
    · exact ⟨j, rfl, h1 j rfl⟩
    · cases n1
  | exc u S1 => exact q
  | stuck => exact q
theorem i_rng2 {tg a b : Expr} {ga : DA} (hg : Gl X "range") (hm : X.mg "range" = none) (ha : PA X [a, b] (rdA X.K cm W ga)) (hc : Cnt ga 2) (hs : starEach [a, b] X.env = [(false, eval a X.env), (false, eval b X.env)] := by rfl) (hs2 : starEach [b] X.env = [(false, eval b X.env)] := by rfl) :
    PI X tg (.Call (.Name "range" p) [a, b] [] pos) (rdI X.K cm W (dRng ga)) := weakI (pi_range2 hg hm ha hs hs2) fun σ H R q => by
  have hl := hc
  obtain ⟨L, S, x, q⟩ := rd_rng q
  refine ⟨L, S, x, ?_⟩
  generalize hr : ga S = r at q
  cases r with
  | ok ds S1 =>
    intro L1 H1 vs e1 x1 r1
    obtain ⟨h1, h2, h3⟩ := q L1 H1 vs e1 x1 r1
    have n1 := hl _ _ _ hr
    rw [r1.length] at n1
    rcases h3 with ⟨j, rfl⟩ | ⟨i, j, rfl⟩
    · cases n1
    · exact ⟨i, j, rfl, h2 i j rfl⟩
  | exc u S1 => exact q
  | stuck => exact q
end
end Den

namespace Den
open PySem L2

/-! ### 17. for k in d, the dict at a name -/
def sForK (i : Nat) (g : DG) (b : DSt) : DSt := fun S => match S.loc[i]? with
  | some (some (.ref n)) => match S.h[n]? with
    | some (.dct kvs) => match forV g b (kvs.map fun kv => keyD kv.1) { S with h := S.h.set n (.fdct kvs) } with
      | .ok f S3 => match S3.h[n]? with
        | some (.fdct _) => .ok f { S3 with h := S3.h.set n (.dct kvs) }
        | _ => .stuck
      | _ => .stuck
    | _ => .stuck
  | _ => .stuck
section
variable {X : Cx} {cm : Str → Value} {W : WX} {e e1 e2 o : Expr} {es : List Expr} {x name : Str} {p pos apos cpos p2 : Pos} {fa fb fo : DE} {ga : DA} {K : PySem.W.Frag} {L : List Addr} {H : Hp} {S : DS} {σ : L2.St}
theorem repK_get {ds : List (Key × D)} {vs : List (Key × V)} (r : RepK K cm L H ds vs) : ∀ {i : Nat} {d : D}, (ds.map fun kv => keyD kv.1)[i]? = some d → ∃ k v, vs[i]? = some (k, v) ∧ d = keyD k := by
  induction r with
  | nil => intro i d h; simp at h
  | @cons k d0 v0 ds vs r t ih =>
    intro i d h
    cases i with
    | zero => simp at h; exact ⟨k, v0, rfl, h.symm⟩
    | succ i =>
      obtain ⟨k', v', h1, h2⟩ := ih (i := i) (by simpa using h)
      exact ⟨k', v', by simpa using h1, h2⟩
theorem keyD_rep (k : Key) : Rep K cm L H (keyD k) (kV k) := by
  cases k with
  | inl i => exact .int i
  | inr x => exact .str x
theorem walk_keys {ds : List (Key × D)} {vs : List (Key × V)} {a : Addr} {o : Obj} (h : H a = some (.frz o (.dK vs))) (r : RepK K cm L H ds vs) : Walks0 K cm L H (ds.map fun kv => keyD kv.1) (Itk a o vs) :=
  walk_keep (fun L' H' i d e hd => by
    obtain ⟨k, v, hv, rfl⟩ := repK_get r hd
    refine ⟨⟨e.frz _ _ _ h, (List.getElem?_eq_some_iff.mp hv).1⟩, fun x H2 y => ⟨y.1, ?_⟩⟩
    obtain ⟨k', v', h1, h2⟩ := y.2
    rw [hv] at h1; cases h1
    rw [h2]
    exact keyD_rep k) fun L' H' e => ⟨e.frz _ _ _ h, by rw [List.length_map, repK_length r]; exact Nat.le_refl _⟩
theorem s_forK {tg : Expr} {body : List Stmt} {i : Nat} {g : DG} {b : DSt} (hp : PassesOwn (model X.prog X.w) X.A X.env X.xe) (hc : X.calm = true) (hN : X.N[i]? = some x) (hv : Vis X.env.scope x) (hg : PG X tg (rdG X.K cm g)) (hb : PSs X body (rdS X.K cm (fun _ _ _ _ => False) b))
    (hd : (x == ("__debug__" : Str)) = false := by decide) (hcd : (x == ("__classdict__" : Str)) = false := by decide) (hs : ∀ y, foldedSetIterable (.Name x p) X.env y = pure y := by intro _; rfl) :
    PS X (.For tg (.Name x p) body [] pos) (rdS X.K cm W (sForK i g b)) := weakS (ps_lock (ps_for hp hc (pi_keys (pe_var hN hv hd hcd)) hg hb hs)) fun E σ H q => by
  obtain ⟨L, S, a, q⟩ := q
  unfold sForK at q
  split at q
  · rename_i n hn
    split at q
    · rename_i kvs hk
      obtain ⟨v, hσ, rv⟩ := a.loc.2 _ _ hn
      obtain ⟨d, vs, rfl, hL, hH, rr⟩ := a.dct rv hk
      refine ⟨d, .dK vs, hH, True.intro, fun od => ?_⟩
      have lk : Ext X.K L H L (upd H d (.frz od (.dK vs))) := Ext.put a.hp hL (.inr ⟨_, hH⟩)
      have a1 : AbS X.K cm L (upd H d (.frz od (.dK vs))) { S with h := S.h.set n (.fdct kvs) } σ := a.put hL (.inr ⟨_, hH⟩) ⟨od, vs, upd_same, rr.mono lk⟩
      refine ⟨_, hσ, d, od, rfl, .inl ⟨vs, upd_same, ?_⟩⟩
      have wk : Walks0 X.K cm L (upd H d (.frz od (.dK vs))) (kvs.map fun kv => keyD kv.1) (Itk d od vs) := walk_keys upd_same (rr.mono lk)
      -- the loop over the locked dict, with the end that unlocks
      have un : ∀ {La : List Addr} {H2 : Hp} {S3 : DS} {σ2 : L2.St} {ks : List (Key × D)}, Ext X.K L (upd H d (.frz od (.dK vs))) La H2 → AbS X.K cm La H2 S3 σ2 → S3.h[n]? = some (.fdct ks) →
          H2 d = some (.frz od (.dK vs)) ∧ Ext X.K L H La (upd H2 d (.dK vs)) ∧ ExtW X.K La H2 La (upd H2 d (.dK vs)) ∧ AbS X.K cm La (upd H2 d (.dK vs)) { S3 with h := S3.h.set n (.dct kvs) } σ2 := by
        intro La H2 S3 σ2 ks e2 x2 h3
        have hd2 := e2.frz d od _ upd_same
        have hL2 := e2.ix hL
        have kw : ∀ b u, H2 b = some u → b ≠ d → upd H2 d (.dK vs) b = some u := fun b u e nb => by rw [upd_ne nb]; exact e
        have nd : ∀ b u, H2 b = some u → (∀ o ks, u ≠ .frz o (.dK ks)) → b ≠ d := fun b u e nk z => by
          rw [z, hd2] at e; cases e; exact nk _ _ rfl
        have ew : ExtW X.K La H2 La (upd H2 d (.dK vs)) := ⟨⟨[], by simp⟩, fun b ws h => by
            rcases h with (h | ⟨o, h⟩) | h
            · exact .inl (.inl (kw _ _ h (nd _ _ h fun _ _ z => nomatch z)))
            · exact .inl (.inr ⟨o, kw _ _ h (nd _ _ h fun _ _ z => nomatch z)⟩)
            · exact .inr h, fun b ws h => by
            rcases h with ⟨o, h⟩ | h
            · exact .inl ⟨o, kw _ _ h (nd _ _ h fun _ _ z => nomatch z)⟩
            · exact .inr h⟩
        have all := lk.trans e2
        refine ⟨hd2, ⟨all.pre, fun b ws h => ew.tup _ _ (all.tup _ _ h), fun b ws h => ew.rol _ _ (all.rol _ _ h), fun b u nb h => ?_, fun b u h => ?_, fun b o u h => ?_⟩, ew, ?_, x2.loc.monoW ew⟩
        · have z : b ≠ d := fun z => nb (z ▸ List.mem_of_getElem? hL)
          rw [upd_ne z]; exact all.oth b u nb h
        · by_cases z : b = d
          · subst z; exact ⟨_, upd_same⟩
          · rw [upd_ne z]; exact all.thr b u h
        · have z : b ≠ d := fun z => by rw [z, hH] at h; cases h
          rw [upd_ne z]; exact all.frz b o u h
        · refine ⟨x2.hp.nd, by rw [List.length_set]; exact x2.hp.len, fun m ob c m1 m2 => ?_⟩
          by_cases hm : m = n
          · subst hm
            rw [hL2] at m2
            cases m2
            have hlt : m < S3.h.length := by rw [← x2.hp.len]; exact (List.getElem?_eq_some_iff.mp hL2).1
            rw [show ({ S3 with h := S3.h.set m (.dct kvs) } : DS).h[m]? = some (.dct kvs) from List.getElem?_set_self hlt] at m1
            cases m1
            exact ⟨vs, upd_same, (rr.mono all).monoW ew⟩
          · rw [show ({ S3 with h := S3.h.set n (.dct kvs) } : DS).h[m]? = S3.h[m]? from List.getElem?_set_ne (Ne.symm hm)] at m1
            have nc : c ≠ d := fun z => by
              subst z
              obtain ⟨h1, q1⟩ := List.getElem?_eq_some_iff.mp m2
              obtain ⟨h2, q2⟩ := List.getElem?_eq_some_iff.mp hL2
              exact hm ((List.getElem_inj x2.hp.nd).mp (q1.trans q2.symm))
            exact (x2.hp.obs m ob c m1 m2).monoW ew fun u h => kw _ _ h nc
      -- the result of the loop, by the plain function
      have fin : AftS X.K cm (fun _ _ _ _ => False) L (upd H d (.frz od (.dK vs))) (forV g b (kvs.map fun kv => keyD kv.1) { S with h := S.h.set n (.fdct kvs) })
          ⟨fun σ' H' => H' d = some (.frz od (.dK vs)) ∧ E.nx σ' (upd H' d (.dK vs)), fun v H' => H' d = some (.frz od (.dK vs)) ∧ E.rt v (upd H' d (.dK vs)), fun σ' H' => H' d = some (.frz od (.dK vs)) ∧ E.bk σ' (upd H' d (.dK vs)), fun σ' H' => H' d = some (.frz od (.dK vs)) ∧ E.ct σ' (upd H' d (.dK vs))⟩ := by
        generalize forV g b (kvs.map fun kv => keyD kv.1) { S with h := S.h.set n (.fdct kvs) } = r at q
        cases r with
        | ok f S3 =>
          dsimp only at q
          split at q
          · rename_i ks h3
            cases f with
            | next =>
              intro L' H' σ' e' x'
              obtain ⟨u1, u2, u3, u4⟩ := un e' x' h3
              exact ⟨u1, q _ _ _ u2 u4⟩
            | brk =>
              intro L' H' σ' e' x'
              obtain ⟨u1, u2, u3, u4⟩ := un e' x' h3
              exact ⟨u1, q _ _ _ u2 u4⟩
            | cont =>
              intro L' H' σ' e' x'
              obtain ⟨u1, u2, u3, u4⟩ := un e' x' h3
              exact ⟨u1, q _ _ _ u2 u4⟩
            | ret dd =>
              intro L' H' σ' v' e' x' r'
              obtain ⟨u1, u2, u3, u4⟩ := un e' x' h3
              exact ⟨u1, q _ _ _ v' u2 u4 (r'.monoW u3)⟩
          · exact q.elim
        | exc u S3 => exact q.elim
        | stuck => exact q.elim
      exact for_vals wk a1 fin
    · exact q.elim
  · exact q.elim
end
end Den

namespace Den
open PySem L2

/-! ### 18. comprehensions -/
section
variable {cm : Str → Value} {K : PySem.W.Frag} {L L1 : List Addr} {H H1 : Hp} {S : DS} {σ : L2.St} {h : List Ob}
theorem ExtW.chg {p : Addr} {o : HO} (hw : Wr H p) : ExtW K L H L (upd H p o) :=
  ⟨⟨[], by simp⟩, (ExtW.adopt (L := L) hw).tup, (ExtW.adopt (L := L) hw).rol⟩
theorem HAb.chg {p : Addr} {o : HO} (x : HAb K cm L H h) (np : p ∉ L) (hw : Wr H p) : HAb K cm L (upd H p o) h :=
  ⟨x.nd, x.len, fun n ob a e1 e2 => (x.obs n ob a e1 e2).monoW (ExtW.chg hw) fun u q => by rw [upd_ne (fun z : a = p => np (by rw [← z]; exact List.mem_of_getElem? e2))]; exact q⟩
theorem AbS.chg {p : Addr} {o : HO} (x : AbS K cm L H S σ) (np : p ∉ L) (hw : Wr H p) : AbS K cm L (upd H p o) S σ := ⟨x.hp.chg np hw, x.loc.monoW (ExtW.chg hw)⟩
theorem Ext.chg {p : Addr} {o : HO} (hp : H p = none) (e : Ext K L H L1 H1) (hw : Wr H1 p) : Ext K L H L1 (upd H1 p o) := by
  have w : ExtW K L1 H1 L1 (upd H1 p o) := ExtW.chg hw
  have ne : ∀ a u, H a = some u → a ≠ p := fun a u q z => by rw [z, hp] at q; cases q
  exact ⟨e.pre, fun a vs q => w.tup a vs (e.tup a vs q), fun a vs q => w.rol a vs (e.rol a vs q), fun a u na q => by rw [upd_ne (ne a u q)]; exact e.oth a u na q, fun a u q => by rw [upd_ne (ne a u q)]; exact e.thr a u q, fun a u v q => by rw [upd_ne (ne a _ q)]; exact e.frz a u v q⟩
theorem Ext.out {p : Addr} {u : HO} (e : Ext K L H L1 H1) (np : p ∉ L) (hp : H p = some u) : p ∉ L1 ∧ H1 p = some u := by
  refine ⟨fun q => ?_, e.oth p u np hp⟩
  obtain ⟨M, e1, nM⟩ := e.pre
  rw [e1] at q
  rcases List.mem_append.mp q with q | q
  · exact np q
  · rw [nM p q] at hp; cases hp
theorem upd_id {p : Addr} {o : HO} (hp : H p = some o) : upd H p o = H := by
  funext b
  by_cases z : b = p
  · subst z; rw [upd_same, hp]
  · rw [upd_ne z]
theorem Ext.own {p : Addr} (e : Ext K L H L1 H1) (hp : H p = none) : Ext K L H (L1 ++ [p]) H1 := by
  obtain ⟨M, e1, nM⟩ := e.pre
  refine ⟨⟨M ++ [p], by rw [e1, List.append_assoc], fun a ha => ?_⟩, e.tup, e.rol, e.oth, e.thr, e.frz⟩
  rcases List.mem_append.mp ha with z | z
  · exact nM a z
  · rw [List.mem_singleton.mp z]; exact hp
end
def Res.only {α β : Type} (r : Res α) (k : α → DS → Res β) : Res β := match r with
  | .ok a S => k a S
  | _ => .stuck
@[simp] theorem Res.only_ok {α β : Type} (a : α) (S : DS) (k : α → DS → Res β) : (Res.ok a S).only k = k a S := rfl
/-- one turn's test and element -/
def compT (t : DT) (e : DE) (S : DS) (acc : List D) : Res (List D) := (t S).only fun c S1 => if c then (e S1).only fun y S2 => if acc.length < mxL then .ok (acc ++ [y]) S2 else .stuck else .ok acc S1
def compV (g : DG) (t : DT) (e : DE) (w : List (Option D)) : List D → List D → List Ob → Res (List D)
  | [], acc, h => .ok acc ⟨w, h⟩
  | d :: ds, acc, h => match g d ⟨w, h⟩ with
    | some S0 => (compT t e S0 acc).only fun acc2 S1 => compV g t e w ds acc2 S1.h
    | none => .stuck
def compO (it : List Ob → Nat → Option (Option D)) (g : DG) (t : DT) (e : DE) (w : List (Option D)) : Nat → Nat → List D → List Ob → Res (List D)
  | 0, _, _, _ => .stuck
  | k + 1, i, acc, h => match it h i with
    | some none => .ok acc ⟨w, h⟩
    | some (some d) => match g d ⟨w, h⟩ with
      | some S0 => (compT t e S0 acc).only fun acc2 S1 => compO it g t e w k (i + 1) acc2 S1.h
      | none => .stuck
    | none => .stuck
def wipeD (ls : List (Option D)) : List Nat → List (Option D)
  | [] => ls
  | v :: vs => (wipeD ls vs).set v none
def dComp (vs : List Nat) (it : DS → Res Iter0) (g : DG) (t : DT) (e : DE) : DE := fun S => (it S).bind fun I S1 => match (match I with
    | .vals xs => compV g t e (wipeD S1.loc vs) xs [] S1.h
    | .dyn f => compO f g t e (wipeD S1.loc vs) 100000 0 [] S1.h) with
  | .ok acc S2 => newO (.lst acc) ⟨S1.loc, S2.h⟩
  | _ => .stuck
def tTrue : DT := fun S => .ok true S
section
variable {X : Cx} {cm : Str → Value} {W : WX} {K : PySem.W.Frag} {L : List Addr} {H : Hp} {S : DS} {σ : L2.St}
theorem loc_wipe {ls : List (Option D)} (r : LocR K cm L H ls σ) : ∀ vs : List Nat, LocR K cm L H (wipeD ls vs) (wipe σ vs)
  | [] => r
  | v :: vs => by
    have ih := loc_wipe r vs
    unfold wipeD wipe
    refine ⟨by rw [List.length_set, List.length_set]; exact ih.1, fun i d q => ?_⟩
    by_cases hi : v = i
    · subst hi
      by_cases hl : v < (wipeD ls vs).length
      · rw [List.getElem?_set_self hl] at q; cases q
      · rw [List.getElem?_eq_none (by rw [List.length_set]; omega)] at q; cases q
    · rw [List.getElem?_set_ne hi] at q
      rw [List.getElem?_set_ne hi]
      exact ih.2 i d q
/-- the target of a comprehension, by its slots -/
def TgOk (K : PySem.W.Frag) (cm : Str → Value) (vs : List Nat) (g : TG) (f : DG) : Prop := ∀ {L : List Addr} {H : Hp} {S : DS} {σ : L2.St} {d : D} {x : V} {S0 : DS} {Q : L2.St → Hp → Prop}, AbS K cm L H S (wipe σ vs) → Rep K cm L H d x → f d S = some S0 →
  (∀ σ2, AbS K cm L H S0 σ2 → wipe σ2 vs = wipe σ vs → Q σ2 H) → g x (wipe σ vs) H Q
theorem tg_one (i : Nat) : TgOk K cm [i] (gName i) (gN i) := fun {L H S σ d x S0 Q} a r e k => by
  cases e
  refine k _ (a.set r i) ?_
  show ((σ.set i none).set i (some x)).set i none = σ.set i none
  rw [List.set_set, List.set_set]
theorem tg_two (i j : Nat) (hij : i ≠ j) : TgOk K cm [i, j] (L2.gTup K 2 (L2.gCons (gName i) (L2.gCons (gName j) L2.gNil))) (gTup 2 (gCons (gN i) (gCons (gN j) gNil))) := fun {L H S σ d x S0 Q} a r e k => by
  unfold gTup at e
  split at e
  · rename_i xs
    split at e
    · rename_i hl
      cases r with
      | @tup xs vs p hs rr =>
        cases rr with
        | nil => cases hl
        | @cons d1 ds v1 vs r1 rr =>
          cases rr with
          | nil => cases hl
          | @cons d2 ds v2 vs r2 rr =>
            cases rr with
            | cons _ _ => cases hl
            | nil =>
              refine ⟨p, _, rfl, hs, rfl, v1, _, rfl, v2, _, rfl, rfl, ?_⟩
              cases e
              refine k _ ((a.set r1 i).set r2 j) ?_
              show ((((((σ.set j none).set i none).set i (some v1)).set j (some v2))).set j none).set i none = (σ.set j none).set i none
              rw [List.set_set, List.set_comm _ _ hij, List.set_comm none (some v1) (Ne.symm hij)]
              simp only [List.set_set, List.set_comm _ _ hij]
    · cases e
  · cases e
/-- what stands in the middle of a comprehension -/
structure Mid (K : PySem.W.Frag) (cm : Str → Value) (L1 : List Addr) (H1 : Hp) (p : Addr) (w : List (Option D)) (σw : L2.St) (La : List Addr) (Ha : Hp) (acc : List D) (h : List Ob) : Prop where
  ab : AbS K cm La Ha ⟨w, h⟩ σw
  ext : Ext K L1 H1 La Ha
  out : p ∉ La
  acc : ∃ vs, Ha p = some (.lst vs) ∧ Reps K cm La Ha acc vs
def W0 : WX := fun _ _ _ _ => False
theorem only_ok {α β : Type} {r : Res α} {k : α → DS → Res β} {y : β} {S' : DS} (h : r.only k = .ok y S') : ∃ a S, r = .ok a S ∧ k a S = .ok y S' := by
  cases r with
  | ok a S => exact ⟨a, S, rfl, h⟩
  | exc e S => cases h
  | stuck => cases h
/-- the test and the element of one turn -/
theorem turn_ok {tt : DT} {fe : DE} {L1 La : List Addr} {H1 Ha : Hp} {p : Addr} {w : List (Option D)} {σw σ2 : L2.St} {acc acc2 : List D} {S0 S1 : DS} (hp : H1 p = none) (e0 : Ext K L1 H1 La Ha) (out : p ∉ La) (ha : ∃ vs, Ha p = some (.lst vs) ∧ Reps K cm La Ha acc vs) (a : AbS K cm La Ha S0 σ2) (hl : LocR K cm La Ha w σw)
    (h : compT tt fe S0 acc = .ok acc2 S1) {Q : Hp → Prop} (q : ∀ Lb Hb, Mid K cm L1 H1 p w σw Lb Hb acc2 S1.h → Q Hb) :
    rdT K cm W0 tt σ2 Ha fun b H3 => if b = true then rdE K cm W0 fe σ2 H3 fun y H4 => ∃ ac, H4 p = some (.lst ac) ∧ ac.length < sizeLine ∧ Q (upd H4 p (.lst (ac ++ [y]))) else Q H3 := by
  obtain ⟨vs, hv, rv⟩ := ha
  obtain ⟨c, S2, h1, h2⟩ := only_ok h
  refine ⟨La, S0, a, ?_⟩
  rw [h1]
  rintro L3 H3 b e3 x3 rfl
  obtain ⟨out3, hv3⟩ := e3.out out hv
  cases c with
  | true =>
    rw [if_pos rfl] at h2 ⊢
    obtain ⟨y, S3, h3, h4⟩ := only_ok h2
    refine ⟨L3, S2, x3, ?_⟩
    rw [h3]
    intro L4 H4 v e4 x4 r4
    obtain ⟨out4, hv4⟩ := e4.out out3 hv3
    split at h4
    · rename_i hz
      cases h4
      refine ⟨vs, hv4, by rw [← rv.length]; exact mx_lt hz, q L4 _ ⟨?_, Ext.chg hp ((e0.trans e3).trans e4) (.inl ⟨vs, hv4⟩), out4, _, upd_same, ?_⟩⟩
      · have x5 : AbS K cm L4 H4 ⟨w, S1.h⟩ σw := ⟨x4.hp, hl.mono (e3.trans e4)⟩
        exact x5.chg out4 (.inl ⟨vs, hv4⟩)
      · exact ((rv.mono (e3.trans e4)).append (.cons r4 .nil)).monoW (ExtW.chg (.inl ⟨vs, hv4⟩))
    · cases h4
  | false =>
    rw [if_neg (by decide)] at h2 ⊢
    cases h2
    exact q L3 H3 ⟨⟨x3.hp, hl.mono e3⟩, e0.trans e3, out3, vs, hv3, rv.mono e3⟩
/-- the whole -/
theorem comp_core {it : DS → Res Iter0} {g : TG} {f : DG} {tt : DT} {fe : DE} {vs : List Nat} (tg : TgOk X.K cm vs g f) {σ : L2.St} {H : Hp} {Q : VK} (q : rdE X.K cm W (dComp vs it f tt fe) σ H Q) :
    tLc (rdI X.K cm W it) g (rdT X.K cm W0 tt) (rdE X.K cm W0 fe) vs σ H Q := by
  obtain ⟨L, S, a, q⟩ := q
  refine ⟨L, S, a, (Aft.step (R := ItR X.K cm) q).mono fun J H1 z => ?_⟩
  obtain ⟨L1, S1, I, e1, x1, r1, q1⟩ := z
  intro p hp
  have hl := loc_wipe x1.loc vs
  have mid0 : Mid X.K cm L1 H1 p (wipeD S1.loc vs) (wipe σ vs) L1 (upd H1 p (.lst [])) [] S1.h :=
    ⟨⟨x1.hp.beside hp, hl.mono (Ext.beside hp)⟩, Ext.beside hp, x1.hp.fresh hp, [], upd_same, .nil⟩
  -- the end
  have fin : ∀ {acc : List D} {S2 : DS} {La : List Addr} {Ha : Hp}, Mid X.K cm L1 H1 p (wipeD S1.loc vs) (wipe σ vs) La Ha acc S2.h → Aft X.K cm W (Rep X.K cm) L1 σ H1 (newO (.lst acc) ⟨S1.loc, S2.h⟩) Q → Q (.ref p) Ha := fun {acc S2 La Ha} m q => by
    obtain ⟨ws, hv, rv⟩ := m.acc
    have eo := m.ext.own hp
    have ew : ExtW X.K La Ha (La ++ [p]) (upd Ha p (.lst ws)) := ExtW.adopt (.inl ⟨ws, hv⟩)
    have hb := m.ab.hp.adopt (ob := .lst acc) m.out (.inl ⟨ws, hv⟩) ⟨ws, upd_same, rv.monoW ew⟩
    rw [upd_id hv] at hb
    exact q _ _ _ eo ⟨hb, x1.loc.mono eo⟩ (.ref m.ab.hp.newIx)
  cases I with
  | vals xs =>
    have wk : Walks0 X.K cm L1 H1 xs J := r1
    dsimp only at q1
    refine ⟨fun i m Ha => m = xs.length - i ∧ i ≤ xs.length ∧ ∃ La acc h S2 acc2, Mid X.K cm L1 H1 p (wipeD S1.loc vs) (wipe σ vs) La Ha acc h ∧ compV f tt fe (wipeD S1.loc vs) (xs.drop i) acc h = .ok acc2 S2 ∧ Aft X.K cm W (Rep X.K cm) L1 σ H1 (newO (.lst acc2) ⟨S1.loc, S2.h⟩) Q, ?_, ?_⟩
    · generalize hr : compV f tt fe (wipeD S1.loc vs) xs [] S1.h = r at q1
      cases r with
      | ok acc2 S2 => exact ⟨xs.length, by simp, Nat.zero_le _, L1, [], S1.h, S2, acc2, mid0, by simpa using hr, q1⟩
      | exc u S2 => exact q1.elim
      | stuck => exact q1.elim
    · rintro i m Ha ⟨rfl, hi, La, acc, h, S2, acc2, md, hc, qf⟩
      by_cases hlt : i < xs.length
      · obtain ⟨go, yl⟩ := wk.go La Ha i xs[i] md.ext (by simp [hlt])
        rw [List.drop_eq_getElem_cons hlt] at hc
        unfold compV at hc
        split at hc
        · rename_i S0 h0
          obtain ⟨acc3, S3, h3, h4⟩ := only_ok hc
          refine .inr ⟨go, fun Hb => i + 1 ≤ xs.length ∧ ∃ Lb, Mid X.K cm L1 H1 p (wipeD S1.loc vs) (wipe σ vs) Lb Hb acc3 S3.h, fun Hb ⟨z1, Lb, z2⟩ => ⟨xs.length - (i + 1), by omega, rfl, z1, Lb, acc3, S3.h, S2, acc2, z2, h4, qf⟩, fun x Hb y => ?_⟩
          obtain ⟨eb, hb, rx⟩ := yl x Hb y
          obtain ⟨ws, hv, rv⟩ := md.acc
          obtain ⟨outb, hvb⟩ := eb.out md.out hv
          have lb := md.ab.loc.mono eb
          refine tg ⟨hb _ md.ab.hp, lb⟩ rx h0 fun σ2 a2 ew => ⟨ew, ?_⟩
          exact turn_ok hp (md.ext.trans eb) outb ⟨ws, hvb, rv.mono eb⟩ a2 lb h3 fun Lb Hc mc => ⟨hlt, Lb, mc⟩
        · cases hc
      · have e0 : i = xs.length := by omega
        subst e0
        rw [List.drop_length] at hc
        cases hc
        exact .inl ⟨wk.stop La Ha md.ext, fin (S2 := ⟨wipeD S1.loc vs, h⟩) md qf⟩
  | dyn n =>
    have wk : WalksD X.K cm L1 H1 n J := r1
    dsimp only at q1
    refine ⟨fun i m Ha => ∃ La acc h S2 acc2, Mid X.K cm L1 H1 p (wipeD S1.loc vs) (wipe σ vs) La Ha acc h ∧ compO n f tt fe (wipeD S1.loc vs) m i acc h = .ok acc2 S2 ∧ Aft X.K cm W (Rep X.K cm) L1 σ H1 (newO (.lst acc2) ⟨S1.loc, S2.h⟩) Q, ?_, ?_⟩
    · generalize hr : compO n f tt fe (wipeD S1.loc vs) 100000 0 [] S1.h = r at q1
      cases r with
      | ok acc2 S2 => exact ⟨100000, L1, [], S1.h, S2, acc2, mid0, hr, q1⟩
      | exc u S2 => exact q1.elim
      | stuck => exact q1.elim
    · rintro i m Ha ⟨La, acc, h, S2, acc2, md, hc, qf⟩
      cases m with
      | zero => cases hc
      | succ m =>
        unfold compO at hc
        split at hc
        · rename_i hn
          cases hc
          exact .inl ⟨wk.stop La Ha _ i md.ext md.ab.hp hn, fin (S2 := ⟨wipeD S1.loc vs, h⟩) md qf⟩
        · rename_i d hd
          obtain ⟨go, yl⟩ := wk.go La Ha _ i d md.ext md.ab.hp hd
          split at hc
          · rename_i S0 h0
            obtain ⟨acc3, S3, h3, h4⟩ := only_ok hc
            refine .inr ⟨go, fun Hb => ∃ Lb, Mid X.K cm L1 H1 p (wipeD S1.loc vs) (wipe σ vs) Lb Hb acc3 S3.h, fun Hb ⟨Lb, z2⟩ => ⟨m, Nat.lt_succ_self _, Lb, acc3, S3.h, S2, acc2, z2, h4, qf⟩, fun x Hb y => ?_⟩
            obtain ⟨eb, hb, rx⟩ := yl x Hb y
            obtain ⟨ws, hv, rv⟩ := md.acc
            obtain ⟨outb, hvb⟩ := eb.out md.out hv
            have lb := md.ab.loc.mono eb
            refine tg ⟨hb _ md.ab.hp, lb⟩ rx h0 fun σ2 a2 ew => ⟨ew, ?_⟩
            exact turn_ok hp (md.ext.trans eb) outb ⟨ws, hvb, rv.mono eb⟩ a2 lb h3 fun Lb Hc mc => ⟨Lb, mc⟩
          · cases hc
        · cases hc
variable {elt tg iter : Expr} {ifs : List Expr} {scope : Scope} {own : List (Str × Nat)} {pos p : Pos}
theorem ts_nil : PTs X [] (rdT X.K cm W tTrue) := ⟨fun pins s σ H Q I q => pts_nil.run pins s σ H Q I (by
  obtain ⟨L, S, a, q⟩ := q
  exact q.give a rfl)⟩
theorem ts_one {c : Expr} {t : DT} (h : PT X c (rdT X.K cm W t)) : PTs X [c] (rdT X.K cm W t) := pts_one h
theorem e_comp {it : DS → Res Iter0} {g : TG} {f : DG} {tt : DT} {fe : DE} (hc : X.calm = true) (hN : X.N.Nodup) (hi : PI X tg iter (rdI X.K cm W it)) (ok : BlkOk X.N X.env.scope scope own) (tgo : TgOk X.K cm (own.map (·.2)) g f)
    (hg : ∀ (s : Shared) (H : Hp) (C : Addr) (cl : List (Str × Addr)) (fp : List Addr), PG (X.blk s H scope (compEnvC scope cl C X.env) fp) tg g)
    (ht : ∀ (s : Shared) (H : Hp) (C : Addr) (cl : List (Str × Addr)) (fp : List Addr), PTs (X.blk s H scope (compEnvC scope cl C X.env) fp) ifs (rdT X.K cm W0 tt))
    (he : ∀ (s : Shared) (H : Hp) (C : Addr) (cl : List (Str × Addr)) (fp : List Addr), PE (X.blk s H scope (compEnvC scope cl C X.env) fp) elt (rdE X.K cm W0 fe)) (hs : ∀ x, foldedSetIterable iter X.env x = pure x := by intro _; rfl) :
    PE X (.ListComp elt [⟨tg, iter, ifs, 0⟩] scope pos) (rdE X.K cm W (dComp (own.map (·.2)) it f tt fe)) := weakE (pe_lc hc hN hi ok hg ht he hs) fun _ _ _ => comp_core tgo
/-- name = [..] on one line -/
theorem s_setC {i : Nat} {y : Str} {py spos : Pos} {it : DS → Res Iter0} {g : TG} {f : DG} {tt : DT} {fe : DE} (hc : X.calm = true) (hN : X.N.Nodup) (hy : X.N[i]? = some y) (hyl : X.env.scope.names.lookup y = some .local)
    (hsw : swapsWith (.ListComp elt [⟨tg, iter, ifs, 0⟩] scope pos) (some (.Name y py)) spos.line X.env = pure true) (hi : PI X tg iter (rdI X.K cm W it)) (ok : BlkOk X.N X.env.scope scope own) (tgo : TgOk X.K cm (own.map (·.2)) g f)
    (hg : ∀ (s : Shared) (H : Hp) (C : Addr) (cl : List (Str × Addr)) (fp : List Addr), PG (X.blk s H scope (compEnvC scope cl C X.env) fp) tg g)
    (ht : ∀ (s : Shared) (H : Hp) (C : Addr) (cl : List (Str × Addr)) (fp : List Addr), PTs (X.blk s H scope (compEnvC scope cl C X.env) fp) ifs (rdT X.K cm W0 tt))
    (he : ∀ (s : Shared) (H : Hp) (C : Addr) (cl : List (Str × Addr)) (fp : List Addr), PE (X.blk s H scope (compEnvC scope cl C X.env) fp) elt (rdE X.K cm W0 fe)) (hs : ∀ x, foldedSetIterable iter X.env x = pure x := by intro _; rfl) :
    PS X (.Assign [.Name y py] (.ListComp elt [⟨tg, iter, ifs, 0⟩] scope pos) spos) (rdS X.K cm W (sAsg (dComp (own.map (·.2)) it f tt fe) (gN i))) := weakS (ps_setLc hc hN hy hyl hsw hi ok hg ht he hs) fun E σ H q => by
  obtain ⟨L, S, a, q⟩ := q
  refine comp_core tgo ⟨L, S, a, (AftS.step (R := Rep X.K cm) q).mono fun v H1 z => ?_⟩
  obtain ⟨L1, S1, d, e1, x1, r1, q1⟩ := z
  exact q1 L1 H1 _ Ext.refl (x1.set r1 i)
end
end Den

namespace Den
open PySem L2

/-! ### 18. raise -/
/-- an __init__ that keeps its one value -/
def spI (K : PySem.W.Frag) (C : Addr) (f : Str) : Sp := fun vs H Q _ => ∃ a v, vs = [.ref a, v] ∧ OexC K C ∧ PySem.W.findIn K (.ref C) f = some none ∧ H a = some (exo a C none) ∧ ∀ dx, H dx = none → dx ≠ a → Q .non (upd (upd H dx (exd dx [(f, v)])) a (exo a C (some dx)))
def sRaise1 (cls f : Str) (a : DA) : DSt := fun S => (a S).bind fun ds S1 => match ds with
  | [d] => .exc ⟨cls, [(f, d)]⟩ S1
  | _ => .stuck
def sRaise0 (cls : Str) : DSt := fun S => .exc ⟨cls, []⟩ S
section
variable {X : Cx} {cm : Str → Value} {W : WX} {e : Expr} {x f cls : Str} {p p2 pos pos2 : Pos} {ga : DA} {C fI : Addr} {k : Nat} {fd : FuncData} {K : PySem.W.Frag} {L : List Addr} {H : Hp} {S : DS} {σ : L2.St}
theorem spI_len {n0 n1 : Str} : ∀ vs H Q E, spI K C f vs H Q E → vs.length = [n0, n1].length := fun _ _ _ _ h => by
  obtain ⟨_, _, rfl, _⟩ := h
  rfl
theorem spI_body {X : Cx} {D : Ends} {vs : List V} {H : Hp} {Q : VK} {E : XK} (h : spI X.K C f vs H Q E) (hD : D.nx = fun _ H' => Q .non H') : tOst X.K f (tVar 0) (tVar 1) D (vs.map some) H := by
  obtain ⟨a, v, rfl, T, hno, ea, q⟩ := h
  refine ⟨v, rfl, .ref a, rfl, a, C, rfl, T, hno, .inl ⟨ea, fun dx h1 h2 => ?_⟩⟩
  rw [hD]
  exact q dx h1 h2
theorem look_one {α : Type} {f g : Str} {y : α} : List.lookup g [(f, y)] = if g = f then some y else none := by
  by_cases h : g = f
  · subst h; simp [List.lookup]
  · have e : (g == f) = false := by simpa using h
    rw [if_neg h]; simp [List.lookup, e]
theorem s_raise1 {n0 n1 : Str} (hc : X.calm = true) (tk : Takes X W) (T : OexC X.K C) (hno : PySem.W.findIn X.K (.ref C) f = some none) (hcl : cm cls = .ref C) (iC : PySem.W.findIn X.K (.ref C) "__init__" = some (some (.ref fI))) (tI : PySem.W.typeIn X.K (.ref fI) = some (.type "function"))
    (F1 : FnOk X.prog X.w X.K X.mg X.base (L2.CX X.prog X.w) k fI fd [n0, n1] (spI X.K C f)) (hr : Room (k + 1) X.A) (hb : Binds X.K fd [n0, n1] []) (hg : Gl X x) (hm : X.mg x = some (.ref C)) (ha : PA X [e] (rdA X.K cm W ga))
    (hdb : (x == ("__debug__" : Str)) = false := by decide) (he : starEach [e] X.env = (false, eval e X.env) :: starEach [] X.env := by rfl) (hpl : (backTo pos (starEach [] X.env)).any (·.1) = false := by rfl) :
    PS X (.Raise (some (.Call (.Name x p) [e] [] pos)) none pos2) (rdS X.K cm W (sRaise1 cls f ga)) := weakS (ps_raise hc tk (pmk_oex (dvs := []) T iC tI F1 hr hb .nil passL hg hm ha hdb he hpl)) fun E σ H q => by
  obtain ⟨L, S, a, q⟩ := q
  refine ⟨L, S, a, (AftS.step (R := Reps X.K cm) q).mono fun vs H1 z => ?_⟩
  obtain ⟨L1, S1, ds, e1, x1, r1, q1⟩ := z
  split at q1
  · rename_i d
    cases r1 with
    | cons r1 r2 =>
      cases r2
      rename_i v
      refine ⟨by show 1 ≤ 1000; omega, fun o ho => ⟨o, v, rfl, T, hno, upd_same, fun dx h1 h2 => ⟨rfl, dx, [(f, v)], upd_same, ?_, ?_, ?_⟩⟩⟩
      · rw [upd_ne h2, upd_same]
      · rw [upd_ne h2] at h1; exact h1
      · rw [upd_ne h2] at h1
        have eq : upd (del (upd (upd (upd H1 o (exo o C none)) dx (exd dx [(f, v)])) o (exo o C (some dx))) o) dx (HO.xd [(f, v)]) = upd H1 dx (.xd [(f, v)]) := by
          funext b
          by_cases z1 : b = dx
          · subst z1; rw [upd_same, upd_same]
          · rw [upd_ne z1, upd_ne z1]
            by_cases z2 : b = o
            · subst z2; rw [del_same, ho]
            · rw [del_ne z2, upd_ne z2, upd_ne z1, upd_ne z2]
        rw [eq]
        refine q1 L1 _ σ (.ref C) (some dx) (Ext.beside h1) (x1.beside h1) ⟨hcl.symm, .inr ⟨dx, [(f, v)], rfl, upd_same, fun g y hy => ?_⟩⟩
        rw [look_one] at hy ⊢
        split at hy
        · rename_i hg; cases hy
          exact ⟨v, by rw [if_pos hg], r1.mono (Ext.beside h1)⟩
        · cases hy
  · exact q1.elim
/-- C(), C without an own __init__ -/
theorem pmk_own0 {bmB : List Value} {B newId initId : String} (F : ExcBaseFacts B newId initId bmB) (q : PySem.W.excIn X.K C bmB newId = true) (gC : X.mg x = some (.ref C)) (kC : PySem.W.keepIn X.K (.ref C) = true) (r : Raises X (.ref C)) (hg : Gl X x)
    (hdb : (x == ("__debug__" : Str)) = false := by decide) : PMk X (.Call (.Name x p) [] [] pos) (fun _ H Q => Q (.ref C) none H) := by
  intro pins s σ H Q I h
  apply wpAny_Call_Name_kw
  apply ld_glob I hg gC _ hdb
  apply PySem.W.callWith_K0 I.kIn kC
  show wpAny _ _ (call (.ref C) []) _ _ _
  obtain ⟨bm, N, nm, qn, bs, hdct, sn, sub, ab, col, dd, k0, k1, k2, k3, k5, mN, hC, hN, hni, T⟩ := exc_obj I.kIn q
  apply wpAny_call_exc_subT F T hC hN hni
  · intro h' o hm
    exact mk_of I hm r h (I.hok.gone hm.new)
theorem s_raise0 (hc : X.calm = true) (tk : Takes X W) (hcl : cm cls = .ref C) (h : PMk X e (fun _ H Q => Q (.ref C) none H)) : PS X (.Raise (some e) none pos2) (rdS X.K cm W (sRaise0 cls)) := weakS (ps_raise hc tk h) fun E σ H q => by
  obtain ⟨L, S, a, q⟩ := q
  exact q L H σ (.ref C) none Ext.refl a ⟨hcl.symm, .inl ⟨rfl, rfl⟩⟩
end

/-! ### 19. try -/
def sTry1 (sub : Str → Option Bool) (b : DSt) (h : Xn → DSt) : DSt := fun S => match b S with
  | .exc e S1 => match sub e.cls with
    | some true => match h e S1 with
      | .ok f S2 => .ok f S2
      | _ => .stuck
    | some false => .exc e S1
    | none => .stuck
  | r => r
def sRetX (i : Nat) (f : Xn → DE) : Xn → DSt := fun e S => if i < S.loc.length then sRet (f e) { S with loc := S.loc.set i none } else .stuck
section
variable (K : PySem.W.Frag) (cm : Str → Value) (i : Nat) (a : Addr) (cls : Value) (dx : Option Addr)
/-- a reading in an except suite, over the exception at a, whose name is slot i's -/
def rdX {α β : Type} (R : List Addr → Hp → α → β → Prop) (f : Xn → DS → Res α) : L2.St → Hp → (β → Hp → Prop) → Prop := fun σ H Q =>
  σ[i]? = some (some (.ref a)) ∧ ∃ L S e, AbS K cm L H S σ ∧ XnR K cm L H e cls dx ∧ Aft K cm W0 R L σ H (f e S) Q
end
def xFld (cn f : Str) : Xn → DE := fun e S => if e.cls = cn then match e.fs.lookup f with
  | some d => .ok d S
  | none => .stuck else .stuck
def xIsi (cn : Str) (b : Bool) : Xn → DE := fun e S => if e.cls = cn then .ok (.bl b) S else .stuck
def xC (f : DE) : Xn → DE := fun _ => f
def xNil : Xn → DA := fun _ => dNil
def xCons (f : Xn → DE) (g : Xn → DA) : Xn → DA := fun e => dCons (f e) (g e)
def xLst (g : Xn → DA) : Xn → DE := fun e => dLst (g e)
theorem XnR.mono {K : PySem.W.Frag} {cm : Str → Value} {L L1 : List Addr} {H H1 : Hp} {S : DS} {σ : L2.St} {e : Xn} {c : Value} {dx : Option Addr} (x : XnR K cm L H e c dx) (a : AbS K cm L H S σ) (ex : Ext K L H L1 H1) : XnR K cm L1 H1 e c dx := by
  obtain ⟨h1, h2⟩ := x
  refine ⟨h1, ?_⟩
  rcases h2 with h2 | ⟨d, vs, rfl, hd, hf⟩
  · exact .inl h2
  · refine .inr ⟨d, vs, rfl, ex.oth d _ (fun hm => ?_) hd, fun f y hy => ?_⟩
    · obtain ⟨n, hn, en⟩ := List.getElem_of_mem hm
      have hl : n < S.h.length := by rw [← a.hp.len]; exact hn
      have q := a.hp.obs n S.h[n] d (by simp [hl]) (by rw [List.getElem?_eq_getElem hn, en])
      generalize S.h[n] = ob at q
      cases ob with
      | lst ds => obtain ⟨vs, e, _⟩ := q; rw [hd] at e; cases e
      | dct ds => obtain ⟨vs, e, _⟩ := q; rw [hd] at e; cases e
      | fdct ds => obtain ⟨o, vs, e, _⟩ := q; rw [hd] at e; cases e
    · obtain ⟨v, hv, r⟩ := hf f y hy
      exact ⟨v, hv, r.mono ex⟩
section
variable {X : Cx} {cm : Str → Value} {W : WX} {i : Nat} {a C : Addr} {cls : Value} {dx : Option Addr} {oe : Obj} {pn : List (Addr × Obj)} {e : Expr} {es : List Expr} {pos p np pos' : Pos} {n x cn f : Str} {L : List Addr} {H : Hp} {S : DS} {σ : L2.St}
theorem rdX.at {K : PySem.W.Frag} {α β : Type} {R : List Addr → Hp → α → β → Prop} {f : Xn → DS → Res α} {Q : β → Hp → Prop} (h : rdX K cm i a cls dx R f σ H Q) : tVar i σ H fun v H1 => v = .ref a ∧ H1 = H := ⟨_, h.1, rfl, rfl⟩
theorem x_of {f : DE} (h : PE (X.suite a pn) e (rdE X.K cm W0 f)) : PE (X.suite a pn) e (rdX X.K cm i a cls dx (Rep X.K cm) (xC f)) := weakE h fun σ H Q q => by
  obtain ⟨_, L, S, e, ab, _, q⟩ := q
  exact ⟨L, S, ab, q⟩
theorem x_fld (T : XfC X.K C) (hcn : cm cn = .ref C) (hno : PySem.W.findIn X.K (.ref C) f = some none) (hz : Zc cls dx oe) (hf : ∃ vs, oe.data = .fields vs) (hN : X.N[i]? = some n := by rfl) (hv : Vis X.env.scope n := by first | exact Or.inl rfl | exact Or.inr (Or.inl rfl) | exact Or.inr (Or.inr rfl))
    (hd : (n == ("__debug__" : Str)) = false := by decide) (hcd : (n == ("__classdict__" : Str)) = false := by decide) (hb : attributeBase (.Name n p) f X.env (eval (.Name n p) X.env) = eval (.Name n p) X.env := by rfl) :
    PE (X.suite a ((a, oe) :: pn)) (.Attribute (.Name n p) f pos) (rdX X.K cm i a cls dx (Rep X.K cm) (xFld cn f)) := weakE (pe_xf (X := X) T hno hz hf (pe_var (X := X.suite a ((a, oe) :: pn)) hN hv hd hcd) hb) fun σ H Q q => by
  obtain ⟨hs, L, S, e, ab, xr, q⟩ := q
  refine ⟨_, hs, rfl, ?_⟩
  unfold xFld at q
  split at q
  · rename_i hc
    split at q
    · rename_i d hl
      obtain ⟨e1, e2⟩ := xr
      refine ⟨by rw [e1, hc, hcn], ?_⟩
      rcases e2 with ⟨e2, _⟩ | ⟨dd, vs, rfl, hdd, hfs⟩
      · rw [e2] at hl; cases hl
      · obtain ⟨v, hv, r⟩ := hfs f d hl
        exact ⟨dd, vs, v, rfl, hdd, hv, q.give ab r⟩
    · exact q.elim
  · exact q.elim
/-- isinstance of the exception -/
def rIsX (K : PySem.W.Frag) (a : Addr) (cls : Value) (dx : Option Addr) (D : Addr) (cv : Value) (b : Bool) : List V → Hp → VK → Prop := fun xs H Q => ∃ c, xs = [.ref a, c] ∧ (∀ u, RelV c u → u = cv) ∧ cls = .ref D ∧ (dx = none ∨ ∃ dd fs, dx = some dd ∧ H dd = some (.xd fs)) ∧ Q (.bl b) H
structure IsC (K : PySem.W.Frag) (D : Addr) : Prop where
  cl : (PySem.W.clsIn K D).isSome = true
  ga : PySem.W.findIn K (.ref D) "__getattribute__" = some (some (.builtin "BaseException.__getattribute__"))
  gt : PySem.W.findIn K (.ref D) "__getattr__" = some none
  sub : PySem.W.subIn K (.ref D) (.type "BaseException") = some true
  cc : PySem.W.findIn K (.ref D) "__class__" = some (some (.builtin "object.__class__"))
  nn : PySem.W.specialIn K (.builtin "object.__class__") "__get__" = some (some (.builtin "getset_descriptor.__get__"))
  tk : PySem.W.takesIn K (.builtin "object.__class__") = some true
  mo : PySem.W.mroIn K D (.type "object") = some true
theorem call_isX {D : Addr} {cv : Value} {b : Bool} (I0 : IsC X.K D) (kb : PySem.W.kitOne X.K (.ref D) cv = some b) (hz : Zc cls dx oe) (hf : ∃ vs, oe.data = .fields vs) : CallR (X.suite a ((a, oe) :: pn)) (.builtin "isinstance") (rIsX X.K a cls dx D cv b) := by
  intro pins s σ H xs us Q I r h
  obtain ⟨c, rfl, hcv, rfl, hdx, q⟩ := h
  cases r with
  | cons rx rr =>
    cases rr with
    | cons rt rr =>
      cases rr
      cases rx
      have ec := hcv _ rt
      subst ec
      obtain ⟨hget, _⟩ := I.pin (a, oe) (List.mem_append.mpr (.inl List.mem_cons_self))
      obtain ⟨vs, hv⟩ := hf
      obtain ⟨od, J⟩ : ∃ od, PySem.W.InstAt s.heap a oe D od := by
        rcases hdx with rfl | ⟨dd, fs, rfl, hdd⟩
        · exact ⟨none, hget, hz.1, by unfold PySem.W.notCls; rw [hv] <;> rfl, by rw [hz.2]; trivial⟩
        · have hx : ObjOk X.prog X.w H s.heap dd (.xd fs) := I.hok dd _ hdd
          obtain ⟨mA, ⟨o, es, ep, ho, hr⟩, _⟩ := hx
          exact ⟨some o, hget, hz.1, by unfold PySem.W.notCls; rw [hv] <;> rfl, by rw [hz.2]; exact ho⟩
      exact PySem.W.kia_one (PySem.W.kitx_exc I0.cl I0.ga I0.gt I0.sub I0.cc I0.nn I0.tk I0.mo) I.kIn J kb (fun z => nomatch z) fun tk => ⟨.bl b, H, I.kept (t' := tk) fun _ _ z => z, rfl, q⟩
theorem x_isi {cv : Value} {b : Bool} {D : Addr} {y : Str} {p1 p2 p3 : Pos} {v : V} (I0 : IsC X.K D) (kb : PySem.W.kitOne X.K (.ref D) cv = some b) (hcn : cm cn = .ref D) (hz : Zc cls dx oe) (hf : ∃ vs, oe.data = .fields vs) (hg : Gl X "isinstance") (hm : X.mg "isinstance" = none)
    (hgy : Gl X y) (hmy : X.mg y = some cv) (rv : RelV v cv) (hv1 : ∀ u, RelV v u → u = cv) (hy : (y == ("__debug__" : Str)) = false := by decide) (hN : X.N[i]? = some n := by rfl) (hv : Vis X.env.scope n := by first | exact Or.inl rfl | exact Or.inr (Or.inl rfl) | exact Or.inr (Or.inr rfl))
    (hd : (n == ("__debug__" : Str)) = false := by decide) (hcd : (n == ("__classdict__" : Str)) = false := by decide) :
    PE (X.suite a ((a, oe) :: pn)) (.Call (.Name "isinstance" p1) [.Name n p2, .Name y p3] [] pos) (rdX X.K cm i a cls dx (Rep X.K cm) (xIsi cn b)) :=
  weakE (pe_callB (X := X.suite a ((a, oe) :: pn)) (call_isX I0 kb hz hf) hg hm rfl (pa_cons (pe_var (X := X.suite a ((a, oe) :: pn)) hN hv hd hcd) (pa_cons (pe_glob (X := X.suite a ((a, oe) :: pn)) hgy hmy rv hy) pa_nil)) (by decide) (by decide)) fun σ H Q q => by
    obtain ⟨hs, L, S, e, ab, xr, q⟩ := q
    unfold xIsi at q
    split at q
    · rename_i hc
      obtain ⟨e1, e2⟩ := xr
      refine ⟨_, hs, v, rfl, hv1, by rw [e1, hc, hcn], ?_, q.give ab (.bl b)⟩
      rcases e2 with ⟨_, e2⟩ | ⟨dd, vs, e2, hdd, _⟩
      · exact .inl e2
      · exact .inr ⟨dd, vs, e2, hdd⟩
    · exact q.elim
theorem xa_nil : PA (X.suite a pn) [] (rdX X.K cm i a cls dx (Reps X.K cm) xNil) := weakA pa_nil fun σ H Q q => by
  obtain ⟨_, L, S, e, ab, _, q⟩ := q
  exact q.give ab .nil
theorem xa_cons {ff : Xn → DE} {gg : Xn → DA} (h : PE (X.suite a pn) e (rdX X.K cm i a cls dx (Rep X.K cm) ff)) (hr : PA (X.suite a pn) es (rdX X.K cm i a cls dx (Reps X.K cm) gg)) (hs : starEach (e :: es) X.env = (false, eval e X.env) :: starEach es X.env := by rfl) :
    PA (X.suite a pn) (e :: es) (rdX X.K cm i a cls dx (Reps X.K cm) (xCons ff gg)) := weakA (pa_cons h hr hs) fun σ H Q q => by
  obtain ⟨hs, L, S, e, ab, xr, q⟩ := q
  refine ⟨hs, L, S, e, ab, xr, (Aft.step (R := Rep X.K cm) q).mono fun v H1 z => ?_⟩
  obtain ⟨L1, S1, d, e1, x1, r1, q1⟩ := z
  refine ⟨hs, L1, S1, e, x1, xr.mono ab e1, (Aft.step (R := Reps X.K cm) q1).mono fun u H2 z => ?_⟩
  obtain ⟨L2, S2, d2, e2, x2, r2, q2⟩ := z
  exact q2.give x2 (.cons (r1.mono e2) r2)
theorem x_lst {gg : Xn → DA} (h : PA (X.suite a pn) es (rdX X.K cm i a cls dx (Reps X.K cm) gg)) : PE (X.suite a pn) (.List es pos) (rdX X.K cm i a cls dx (Rep X.K cm) (xLst gg)) := weakE (pe_lst h) fun σ H Q q => by
  obtain ⟨hs, L, S, e, ab, xr, q⟩ := q
  refine ⟨hs, L, S, e, ab, xr, (Aft.step (R := Reps X.K cm) q).mono fun v H1 z => ?_⟩
  obtain ⟨L1, S1, d, e1, x1, r1, q1⟩ := z
  split at q1
  · rename_i h
    exact ⟨mx_line (by rw [← r1.length]; exact h), fun p hp => give_new x1 r1 q1 hp⟩
  · exact q1.elim
theorem LocR.unset {K : PySem.W.Frag} {ls : List (Option D)} {v : Option V} (r : LocR K cm L H ls σ) (i : Nat) : LocR K cm L H (ls.set i none) (σ.set i v) := by
  refine ⟨by rw [List.length_set, List.length_set]; exact r.1, fun j d q => ?_⟩
  by_cases hi : i = j
  · subst hi
    by_cases hl : i < ls.length
    · rw [List.getElem?_set_self hl] at q; cases q
    · rw [List.getElem?_eq_none (by rw [List.length_set]; omega)] at q; cases q
  · rw [List.getElem?_set_ne hi] at q
    rw [List.getElem?_set_ne hi]
    exact r.2 j d q
theorem s_try_as {c : Value} {sub : Str → Option Bool} {body : List Stmt} {e0 : Expr} {pr : Pos} {b : DSt} {ff : Xn → DE} (hs : X.stack = X.env :: X.outer) (hf : X.env.frame = some X.env.locals) (hN : X.N.Nodup) (hi : X.N[i]? = some n) (hln : X.env.kindOf n = some .local) (hc : Names X x c) (tk : Takes X W)
    (hsub : ∀ m r, sub m = some r → PySem.W.exmOne X.K (cm m) c = some r)
    (hb : ∀ (W : WX) (pn : List (Addr × Obj)) (xe : Value → Shared → Prop), Takes (X.tr pn xe) W → PassesOwn (model X.prog X.w) X.A X.env xe → PSs (X.tr pn xe) body (rdS X.K cm W b))
    (hsu : ∀ (a : Addr) (oe : Obj) (cls : Value) (d : Option Addr) (pn : List (Addr × Obj)), Zc cls d oe → (∃ vs, oe.data = .fields vs) → PE (X.suite a ((a, oe) :: pn)) e0 (rdX X.K cm i a cls d (Rep X.K cm) ff)) :
    PS X (.Try body [.ExceptHandler (some (.Name x np)) (some n) [.Return (some e0) pr] pos'] [] [] pos) (rdS X.K cm W (sTry1 sub b (sRetX i ff))) :=
  weakS (ps_try_as (ts := fun a cls d => tRet (rdX X.K cm i a cls d (Rep X.K cm) ff)) hs hf hN hi hln hc tk hb fun a oe cls d pn h1 h2 => pss_one (ps_ret (hsu a oe cls d pn h1 h2))) fun D σ H q => by
    obtain ⟨L, S, ab, q⟩ := q
    refine ⟨L, S, ab, ?_⟩
    unfold sTry1 at q
    generalize b S = r at q
    cases r with
    | ok f S1 => cases f <;> exact q
    | stuck => exact q
    | exc u S1 =>
      dsimp only at q
      intro L1 H1 σ1 cl dx e1 x1 xr
      split at q
      · rename_i hsb
        refine ⟨true, ?_, fun _ a ha => ?_, fun z => by cases z⟩
        · rw [xr.1]; exact hsub _ _ hsb
        · have q1 := AftS.ext e1 q
          unfold sRetX sRet at q1
          by_cases hlt : i < S1.loc.length
          · rw [if_pos hlt] at q1
            refine ⟨by rw [List.getElem?_set_self (by rw [← x1.loc.1]; exact hlt)], L1, { S1 with loc := S1.loc.set i none }, u, ⟨x1.hp, x1.loc.unset i⟩, xr, ?_⟩
            generalize ff u { S1 with loc := S1.loc.set i none } = w at q1
            cases w with
            | ok d S2 => exact fun L' H' v ex xx rr => q1 L' H' (σ1.set i (some (.ref a))) v ex xx rr
            | exc _ _ => exact q1.elim
            | stuck => exact q1.elim
          · rw [if_neg hlt] at q1
            exact q1.elim
      · rename_i hsb
        refine ⟨false, ?_, fun z => (by cases z), fun _ => ?_⟩
        · rw [xr.1]; exact hsub _ _ hsb
        · exact (AftS.ext e1 q) L1 H1 σ1 cl dx Ext.refl x1 xr
      · exact q.elim
end
end Den

namespace Den
open PySem L2

/-! ### 20. x[::-1] -/
def revS (z : Str) : Str := ⟨z.cps.reverse⟩
def oRev : D → DS → Res D := fun x S => match x with
  | .str z => if z.length ≤ mxL then .ok (.str (revS z)) S else .stuck
  | .ro xs => newO (.lst xs.reverse) S
  | .ref n => match S.h[n]? with
    | some (.lst xs) => newO (.lst xs.reverse) S
    | _ => .stuck
  | _ => .stuck
def dRev (a : DE) : DE := fun S => (a S).bind oRev
def tRevA (K : PySem.W.Frag) (te : TE) : TE := fun σ H Q => te σ H fun x H1 => (∃ z, x = .str z ∧ z.length ≤ sizeLine ∧ Q (.str (revS z)) H1) ∨ ∃ a xs, x = .ref a ∧ SqL K H1 a xs ∧ ∀ p, H1 p = none → Q (.ref p) (upd H1 p (.lst xs.reverse))
theorem rev_ix (n : Nat) : Builtin.Str.strSliceIndices none none (-1) n = (List.range n).reverse := by
  rw [← PySem.W.krv_range, ← PySem.W.krv_sliceRange]
  rfl
section
variable {X : Cx} {cm : Str → Value} {W : WX} {e : Expr} {fa : DE} {te : TE} {k : Nat} {p1 p2 p3 pos : Pos}
theorem revS_size (z : Str) : (revS z).length = z.length := by
  show (z.cps.reverse).size = z.cps.size
  exact Array.size_reverse
theorem pe_revA (he : PE X e te) : PE X (.Subscript e (.Slice none none (some (.UnaryOp .USub (.Constant (.int 1) k p1) p2)) p3) pos) (tRevA X.K te) := by
  constructor
  intro pins s σ H Q I hh
  apply PyProof.Rows.Subscript_
  apply thn (he.run pins s σ H _ I hh)
  rintro v s1 ⟨x, H1, I1, rx, hq⟩
  have step1 : PO X (some (.UnaryOp .USub (.Constant (.int 1) k p1) p2)) (tPart (tUn (rU fun i => .int (-i)) (tC (.int 1)))) := po_some (pe_un un_neg pe_int)
  apply wpAny_Slice
  apply thn (po_none.run pins s1 σ H1 (fun o G => o = none ∧ G = H1) I1 ⟨rfl, rfl⟩)
  rintro vl s2 ⟨l, H2, I2, pl, rfl, rfl⟩
  apply thn (po_none.run pins s2 σ H2 (fun o G => o = none ∧ G = H2) I2 ⟨rfl, rfl⟩)
  rintro vu s3 ⟨u, H3, I3, pu, rfl, rfl⟩
  apply thn (step1.run pins s3 σ H3 (fun o G => o = some (-1) ∧ G = H3) I3 ⟨1, rfl, -1, rfl, rfl, rfl⟩)
  rintro vs s4 ⟨o, H4, I4, ps, rfl, rfl⟩
  have J : Inv X pins σ H4 { s4 with heap := s4.heap.push { cls := .type "slice", data := .fields #[vl, vu, vs] } } := I4.kept (t' := s4.toks) fun b ob q => Heap.get?_push_of_some _ q
  rcases hq with ⟨z, rfl, hz, hq⟩ | ⟨a, xs, rfl, hx, hq⟩
  · obtain ⟨t, rfl⟩ := rx
    obtain ⟨l, rfl, hl⟩ := IsPart.raw pl
    obtain ⟨u, rfl, hu⟩ := IsPart.raw pu
    obtain ⟨st, rfl, hst⟩ := IsPart.raw ps
    show wpAny (model X.prog X.w) X.A (PyProof.Rows.subscriptTail e (.Slice none none (some (.UnaryOp .USub (.Constant (.int 1) k p1) p2)) p3) (.str z t) (.ref s4.heap.objs.size)) (EP X pins σ Q) X.xe { s4 with heap := s4.heap.push { cls := .type "slice", data := .fields #[partValue l, partValue u, partValue st] } }
    apply PyProof.Rows.tail_any (T := "str") (ops := [.str z t, .ref s4.heap.objs.size]) (typeIs_str _ z t) F.slot_str_getitem.lookup _ (by with_unfolding_all rfl)
    apply wpAny_getItem_str_slice (l := l) (u := u) (st := st) ⟨_, Heap.get?_push_size _ rfl, rfl, rfl⟩ (by rw [hst]; rfl)
    have e0 : slicePicked z l u st = (List.range z.length).reverse := by
      unfold slicePicked
      rw [hl, hu, hst]
      exact rev_ix z.length
    have c0 : ((st.map (·.1)).getD 1 == 1 && (slicePicked z l u st).length == z.length) = false := by rw [hst]; rfl
    unfold sliceMade
    rw [if_neg (by rw [c0]; decide), e0]
    have e1 : (⟨((List.range z.length).reverse.filterMap (z.cps[·]?)).toArray⟩ : Str) = revS z := by
      unfold revS
      rw [List.filterMap_reverse, show z.length = z.cps.size from rfl, PySem.W.krv_all, ← Array.toList_reverse]
    rw [e1]
    exact ⟨by rw [revS_size]; exact hz, .str _, H4, J.tok _, ⟨_, rfl⟩, hq⟩
  · cases rx
    obtain ⟨its, r, ht, hz⟩ := J.list hx
    have hn := r.length
    show wpAny (model X.prog X.w) X.A (PyProof.Rows.subscriptTail e (.Slice none none (some (.UnaryOp .USub (.Constant (.int 1) k p1) p2)) p3) (.ref a) (.ref s4.heap.objs.size)) (EP X pins σ Q) X.xe { s4 with heap := s4.heap.push { cls := .type "slice", data := .fields #[vl, vu, vs] } }
    apply PyProof.Rows.tail_any (ops := [.ref a, .ref s4.heap.objs.size]) ht.isList.typeIs PySem.slot_list_getitem.lookup _ (by with_unfolding_all rfl)
    apply wpAny_getItem_list_slice ht.isList (Heap.IsSliceOf.new _ vl vu vs) pl pu ps (by decide) _ (by rw [List.size_toArray]; omega)
    rw [PySem.W.krv_pick]
    exact ⟨.ref _, _, J.laid (t' := s4.toks) (o := .lst xs.reverse) (fun b ob q => Heap.get?_push_of_some _ q) (Nat.le_refl _) ⟨by rw [List.length_reverse]; exact hz, _, 0, r.reverse, Heap.get?_push_size _ rfl⟩, rfl, hq _ (J.hok.fresh (Nat.le_refl _))⟩
theorem reps_rev {K : PySem.W.Frag} {L : List Addr} {H : Hp} : ∀ {ds : List D} {vs : List V}, Reps K cm L H ds vs → Reps K cm L H ds.reverse vs.reverse
  | _, _, .nil => .nil
  | _, _, .cons r t => by
    rw [List.reverse_cons, List.reverse_cons]
    exact (reps_rev t).append (.cons r .nil)
theorem e_rev (he : PE X e (rdE X.K cm W fa)) : PE X (.Subscript e (.Slice none none (some (.UnaryOp .USub (.Constant (.int 1) k p1) p2)) p3) pos) (rdE X.K cm W (dRev fa)) := weakE (pe_revA he) fun σ H Q q => by
  obtain ⟨L, S, a, q⟩ := q
  refine ⟨L, S, a, (Aft.step (R := Rep X.K cm) q).mono fun v H1 z => ?_⟩
  obtain ⟨L1, S1, d, e1, x1, r1, q1⟩ := z
  unfold oRev at q1
  split at q1
  · split at q1
    · rename_i h
      cases r1
      exact .inl ⟨_, rfl, mx_line h, q1.give x1 (.str _)⟩
    · exact q1.elim
  · cases r1 with
    | ro hs rr => exact .inr ⟨_, _, rfl, hs.sq, fun p hp => give_new x1 (reps_rev rr) q1 hp⟩
  · split at q1
    · rename_i hx
      obtain ⟨p1, vs1, rfl, g1, e1, rr⟩ := x1.lst r1 hx
      exact .inr ⟨_, _, rfl, SqL.of e1, fun p hp => give_new x1 (reps_rev rr) q1 hp⟩
    · exact q1.elim
  · exact q1.elim

/-! ### 21. {} and x * n -/
def dNew0 : DE := newO (.dct [])
theorem e_dict0 : PE X (.Dict [] [] pos) (rdE X.K cm W dNew0) := weakE pe_dnewK fun σ H Q q => by
  obtain ⟨L, S, a, q⟩ := q
  exact fun p hp => q.giveE (Ext.new hp) (a.new hp ⟨[], upd_same, .nil⟩) (.ref a.hp.newIx)
def repS (z : Str) (n : Int) : Str := if n < 1 then Str.empty else if (n == 1 || z.length == 0) = true then z else ⟨(List.replicate n.toNat z.cps).foldl (· ++ ·) #[]⟩
def oMulA : D → D → DS → Res D := fun x y S => match x, y with
  | .int i, .int j => if (-(2 ^ 64) < i ∧ i < 2 ^ 64) ∨ (-(2 ^ 64) < j ∧ j < 2 ^ 64) then .ok (.int (i * j)) S else .stuck
  | .str z, .int j => if -1000000 ≤ j ∧ j ≤ 1000000 ∧ z.length * j.toNat ≤ mxL ∧ (repS z j).length ≤ mxL then .ok (.str (repS z j)) S else .stuck
  | .ref n, .int j => match S.h[n]? with
    | some (.lst xs) => if -1000000 ≤ j ∧ j ≤ 1000000 ∧ xs.length * j.toNat ≤ mxL then newO (.lst (List.replicate j.toNat xs).flatten) S else .stuck
    | _ => .stuck
  | _, _ => .stuck
def rStrRep : R2 := fun x y H Q => ∃ z j, x = .str z ∧ y = .int j ∧ -1000000 ≤ j ∧ j ≤ 1000000 ∧ z.length * j.toNat ≤ mxL ∧ (repS z j).length ≤ mxL ∧ Q (.str (repS z j)) H
theorem op_strRep : OpR X (binaryOp .Mult) rStrRep := by
  intro pins s σ H x y v u Q I rx ry h
  obtain ⟨z, j, rfl, rfl, h1, h2, h3, h4, q⟩ := h
  obtain ⟨t, rfl⟩ := rx
  obtain ⟨t2, rfl⟩ := ry
  apply PySem.P.mul_str
  · rw [decide_eq_false (by omega), decide_eq_false (by omega)]; rfl
  · intro a1 a2 a3
    have hj : (z.length : Int) * j ≤ 2 ^ 63 - 1 := by
      have e : (z.length : Int) * j = ((z.length * j.toNat : Nat) : Int) := by rw [Int.natCast_mul, Int.toNat_of_nonneg (by omega)]
      rw [e]
      unfold mxL at h3
      omega
    have := (Int.le_ediv_iff_mul_le (by omega : 0 < j)).mpr hj
    omega
  · intro _ _
    exact decide_eq_false (by have := mx_line h3; omega)
  · unfold repS at q h4
    split
    · rename_i c
      rw [if_pos c] at q
      exact ⟨by decide, .str _, H, I.tok _, ⟨_, rfl⟩, q⟩
    · rename_i c
      rw [if_neg c] at q h4
      split
      · rename_i c2
        rw [if_pos c2] at q
        exact ⟨.str _, H, I, ⟨_, rfl⟩, q⟩
      · rename_i c2
        rw [if_neg c2] at q h4
        exact ⟨mx_line h4, .str _, H, I.tok _, ⟨_, rfl⟩, q⟩
theorem reps_repl {K : PySem.W.Frag} {L : List Addr} {H : Hp} {ds : List D} {vs : List V} (r : Reps K cm L H ds vs) : ∀ n : Nat, Reps K cm L H (List.replicate n ds).flatten (List.replicate n vs).flatten
  | 0 => .nil
  | n + 1 => by
    rw [List.replicate_succ, List.replicate_succ, List.flatten_cons, List.flatten_cons]
    exact r.append (reps_repl r n)
theorem ro_mulA : ROp X cm W (fun x y H Q => (rI CMul (fun i j => .int (i * j)) x y H Q ∨ rStrRep x y H Q) ∨ rRep x y H Q) oMulA := by
  intro L H S σ x y d e Q a r1 r2 q
  unfold oMulA at q
  split at q
  · split at q
    · rename_i h
      cases r1; cases r2
      exact .inl (.inl ⟨_, _, rfl, rfl, h, q.give a (.int _)⟩)
    · exact q.elim
  · split at q
    · rename_i h
      cases r1; cases r2
      exact .inl (.inr ⟨_, _, rfl, rfl, h.1, h.2.1, h.2.2.1, h.2.2.2, q.give a (.str _)⟩)
    · exact q.elim
  · split at q
    · rename_i hx
      split at q
      · rename_i h
        obtain ⟨p1, vs1, rfl, g1, e1, rr⟩ := a.lst r1 hx
        cases r2
        refine .inr ⟨_, _, _, rfl, rfl, e1, by omega, by omega, mx_line (by rw [← rr.length]; exact h.2.2), fun p hp => give_new a ?_ q hp⟩
        exact reps_repl rr _
      · exact q.elim
    · exact q.elim
  · exact q.elim
end
end Den

namespace Den
open PySem L2 PySem.Spec PyProof.Rows

/-! ### 22. the law's call, the walk -/
theorem guards_caller : callerA.guards = some [] := rfl
theorem bare_start {K : PySem.W.Frag} {cm : Str → Value} {H : Hp} : AbS K cm [] H ⟨[], []⟩ [] :=
  ⟨⟨List.nodup_nil, rfl, fun n ob a h _ => by simp at h⟩, rfl, fun i d h => by simp at h⟩
section
variable {P : Program} {w : World} {K : PySem.W.Frag} {mg mb : Str → Option Value} {k : Nat} {fa a : Addr} {fd : FuncData} {x : Str} {s1 : Shared} {vs : List Value} {ns : List Int} {cm : Str → Value}
/-- what a def gives in the caller's place, over a heap in which nothing but the script may be tracked -/
theorem call_from {F0 : Fn} {S' : DS} {H : Hp} (KX : K.In s1.heap) (nm : s1.heap.Ns mainGlobals mg) (nb : s1.heap.Ns builtinsNs mb) (hb : ∀ y : Str, y ≠ "__name__" → mb y = bootBuiltins y) (lim : s1.heap.NoLimit) (g0 : s1.gens = #[]) (hr : Room k callerA)
    (F : ∀ base : Heap, K.In base → FnG P w K mg base k fa fd [x] (spD K cm 1 F0)) (bd : ∀ (s : Shared) (u : Value), BindsTo s fd ⟨[u], []⟩ [(x, u)]) (hF : F0 [.ro (ns.map D.int)] [] = .ok (.bl true) S')
    (hS : SqR K H a (ns.map V.int)) (hok : HOk P w H s1.heap) (only : ∀ b, H b = none ∨ (b = a ∧ K.lookup b = none ∧ ∃ o xs, H b = some (.frz o (.lst xs)) ∧ ∃ c n sl, o = (⟨.type "list", none, .seq c n, sl⟩ : Obj))) :
    codeAny (model P w) callerA (.call (.ref fa) ⟨[.ref a], []⟩) (fun r s' => r = .ok (.ret (.bool true)) ∧ OldK s1.heap s'.heap ∧ s'.os = s1.os ∧ AllBare s'.gens) s1 := by
  -- the base: what isn't tracked
  have seen : ∀ {b : Addr} {o : Obj}, s1.heap.get? b = some o → H b = none → (hidT s1.heap H).get? b = some o := fun e n => hidT_get e n
  have free : ∀ {b : Addr} {o : Obj} {es : Array DictEntry} {ep : Nat}, s1.heap.get? b = some o → o.data = .dict es ep → H b = none := by
    intro b o es ep e d
    rcases only b with n | ⟨_, _, o2, xs, h2, c, m, sl, rfl⟩
    · exact n
    · obtain ⟨e2, _⟩ := hok b _ h2
      rw [e] at e2
      cases e2
      cases d
  have ns' : ∀ {b : Addr} {m : Str → Option Value}, s1.heap.Ns b m → (hidT s1.heap H).Ns b m := by
    rintro b m ⟨o, es, ep, e, d, r⟩
    exact ⟨o, es, ep, seen e (free e d), d, r⟩
  have inB : K.In (hidT s1.heap H) := by
    intro b o e
    rcases only b with n | ⟨_, hk, _⟩
    · exact seen (KX b o e) n
    · rw [hk] at e; cases e
  have M : Mod K mg (hidT s1.heap H) := ⟨inB, ns' nm, ⟨mb, ns' nb, hb⟩, by obtain ⟨mc, q1, q2⟩ := lim; exact ⟨mc, ns' q1, q2⟩⟩
  have E0 : Env0 P w K mg (hidT s1.heap H) callerA [] s1 H := ⟨rfl, M, fun b o e => of_hidT e, Nat.le_of_eq (hidT_size _ _), trivial, fun b hb => absurd (show b ∈ ([] : List Addr) from hb) (by simp), hok, .of_eq g0⟩
  have promise : spD K cm 1 F0 [.ref a] H (fun v _ => v = .bl true) fun _ _ _ => False := by
    refine ⟨[], [.ro (ns.map D.int)], [], bare_start, .cons (.ro hS (ints_reps ns)) .nil, rfl, ?_⟩
    rw [hF]
    intro L' H' v _ _ r
    cases r
    rfl
  apply codeAny_mono ((F _ inB).run callerA [] s1 H ⟨[.ref a], []⟩ [.ref a] [.ref a] _ _ hr guards_caller E0 (bd s1 (.ref a)) (.cons rfl .nil) promise)
  intro r s' h
  cases r with
  | error e =>
    obtain ⟨_, _, _, _, _, _, _, _, _, _, _, _, z⟩ := h
    exact z.elim
  | ok fl =>
    cases fl with
    | next => exact h.elim
    | brk => exact h.elim
    | cont => exact h.elim
    | ret u =>
      obtain ⟨v, H', os, bare, un, hok', rv, rfl⟩ := h
      obtain rfl : u = Value.bool true := rv
      refine ⟨rfl, OldK.of_keep ?_, os, bare⟩
      intro b o e
      rcases only b with n | ⟨_, _, o2, xs, h2, _⟩
      · exact un.keep b o e n (fun z => absurd (show b ∈ ([] : List Addr) from z) (by simp)) (by simp)
      · obtain ⟨e1, _⟩ := hok b _ h2
        obtain ⟨e2, _⟩ := hok' b _ (un.frzs b _ _ h2)
        rw [e] at e1
        cases e1
        exact e2
theorem call_law {F0 : Fn} {S' : DS} (KX : K.In s1.heap) (nm : s1.heap.Ns mainGlobals mg) (nb : s1.heap.Ns builtinsNs mb) (hb : ∀ y : Str, y ≠ "__name__" → mb y = bootBuiltins y) (lim : s1.heap.NoLimit) (g0 : s1.gens = #[]) (hr : Room k callerA)
    (ha : s1.heap.get? a = some { cls := .type "list", data := .seq vs.toArray }) (hi : IntsAre vs ns) (hl : ns.length ≤ sizeLine)
    (F : ∀ base : Heap, K.In base → FnG P w K mg base k fa fd [x] (spD K cm 1 F0)) (bd : ∀ (s : Shared) (u : Value), BindsTo s fd ⟨[u], []⟩ [(x, u)]) (hF : F0 [.ro (ns.map D.int)] [] = .ok (.bl true) S') :
    codeAny (model P w) callerA (.call (.ref fa) ⟨[.ref a], []⟩) (fun r s' => r = .ok (.ret (.bool true)) ∧ OldK s1.heap s'.heap ∧ s'.os = s1.os ∧ AllBare s'.gens) s1 := by
  have rv := vals_ints hi
  have same : vs.length = ns.length := hi.length
  cases hk : K.lookup a with
  | some o =>
    have e := KX a o hk
    rw [ha] at e
    cases e
    apply call_from (H := fun _ => none) KX nm nb hb lim g0 hr F bd hF
    · exact .inr ⟨_, vs.toArray, _, hk, rfl, rfl, rfl, by rw [List.size_toArray, same]; exact hl, by simpa using rv⟩
    · intro b u z; cases z
    · exact fun b => .inl rfl
  | none =>
    have at_ : ∀ b, b = a → (fun b => if b = a then some (HO.frz { cls := .type "list", data := .seq vs.toArray } (.lst (ns.map V.int))) else none) b = some (HO.frz { cls := .type "list", data := .seq vs.toArray } (.lst (ns.map V.int))) := fun b h => if_pos h
    apply call_from (H := fun b => if b = a then some (.frz { cls := .type "list", data := .seq vs.toArray } (.lst (ns.map V.int))) else none) KX nm nb hb lim g0 hr F bd hF
    · exact .inl ⟨_, at_ a rfl⟩
    · intro b u z
      by_cases e : b = a
      · rw [at_ b e] at z
        cases z
        subst e
        exact ⟨ha, by rw [List.length_map]; exact hl, vs, _, rv, ha⟩
      · rw [show (fun b => if b = a then some (HO.frz { cls := .type "list", data := .seq vs.toArray } (.lst (ns.map V.int))) else none) b = none from if_neg e] at z
        cases z
    · intro b
      by_cases e : b = a
      · subst e
        exact .inr ⟨rfl, hk, _, _, at_ b rfl, _, _, _, rfl⟩
      · exact .inl (if_neg e)
end
theorem walk_den {l : PySem.W.OpenLaw} {n k : Nat} {q : Program} {loose : List Str} {XP : (Str → Option Value) → Heap → Prop} {YP : World → Heap → Prop} {d : DefRec} {K : Params → PySem.W.Frag} {x : Str} {F0 : Fn}
    (hn : l.most = some n) (hn2 : n ≤ sizeLine) (hd0 : d.params.defaults = []) (hr : Room k callerA) (hY : ∀ (w : World) (h : Heap), YP w h → (K w.params).In h)
    (F : ∀ (w : World) (mg : Str → Option Value) (fa : Addr) (h : Heap), (K w.params).In h → h.Ns mainGlobals mg → mg d.name = some (.ref fa) →
      ∃ (fd : FuncData) (cm : Str → Value), (∀ (s : Shared) (u : Value), BindsTo s fd ⟨[u], []⟩ [(x, u)]) ∧ ∀ base : Heap, (K w.params).In base → FnG l.prog w (K w.params) mg base k fa fd [x] (spD (K w.params) cm 1 F0))
    (hF : ∀ ns : List Int, ns.length ≤ n → ∃ S', F0 [.ro (ns.map D.int)] [] = .ok (.bl true) S') :
    PySem.W.WalkO q loose XP YP l.row.toRowW d [] (fun f vs => PySem.call f vs) := by
  apply Att.attach_call hn hd0
  intro w s0 s1 mg mb fa o pm cd doc a vs ns G Y ho hd hcd hmg hobj hints hlen hg
  obtain ⟨fd, cm, bd, hG⟩ := F w mg fa _ (hY w _ Y) G.T.g hmg
  obtain ⟨S', hS⟩ := hF ns hlen
  exact call_law (hY w _ Y) G.T.g G.T.b G.T.builtins G.T.nolimit hg hr hobj hints (Nat.le_trans hlen hn2) hG bd hS
end Den

namespace Den
open PySem L2

/-! ### 23. short forms -/
theorem kit_true {K : PySem.W.Frag} {C D : Addr} (cl : PySem.W.isClsIn K D = true) (ty : PySem.W.typeIn K (.ref D) = some (.type "type")) (h : PySem.W.subIn K (.ref C) (.ref D) = some true) : PySem.W.kitOne K (.ref C) (.ref D) = some true := by
  unfold PySem.W.kitOne
  split
  · rfl
  · show (if ((PySem.W.clsIn K D).isSome && PySem.W.typeIn K (.ref D) == some (.type "type")) = true then PySem.W.subIn K (.ref C) (.ref D) else none) = some true
    have c : (PySem.W.clsIn K D).isSome = true := cl
    rw [c, ty, if_pos (by rfl)]
    exact h
section
variable {X : Cx} {cm : Str → Value} {W : WX} {a b : Expr} {pos : Pos} {fa fb : DE}
theorem hu66 {A : Around} {k : Nat} (r : Room k A) : A.units + 66 < cLine := by have := r.un; omega
theorem hu1 {A : Around} {k : Nat} (r : Room k A) : A.units + 1 < cLine := by have := r.un; omega
theorem hu64 {A : Around} {k : Nat} (r : Room k A) : A.units + 64 < cLine := by have := r.un; omega
theorem b_add (ha : PE X a (rdE X.K cm W fa)) (hb : PE X b (rdE X.K cm W fb)) : PE X (.BinOp a .Add b pos) (rdE X.K cm W (dBin oAdd fa fb)) := e_op ((op_add.or op_add_str).or (op_catA.or op_cat)) ro_add ha hb
theorem b_sub (ha : PE X a (rdE X.K cm W fa)) (hb : PE X b (rdE X.K cm W fb)) : PE X (.BinOp a .Sub b pos) (rdE X.K cm W (dBin oSub fa fb)) := e_op op_sub ro_sub ha hb
theorem b_mul (ha : PE X a (rdE X.K cm W fa)) (hb : PE X b (rdE X.K cm W fb)) : PE X (.BinOp a .Mult b pos) (rdE X.K cm W (dBin oMulA fa fb)) := e_op ((op_mul.or op_strRep).or op_rep) ro_mulA ha hb
theorem b_mod (ha : PE X a (rdE X.K cm W fa)) (hb : PE X b (rdE X.K cm W fb)) : PE X (.BinOp a .Mod b pos) (rdE X.K cm W (dBin oMod fa fb)) := e_op op_mod ro_mod ha hb
theorem b_div (ha : PE X a (rdE X.K cm W fa)) (hb : PE X b (rdE X.K cm W fb)) : PE X (.BinOp a .FloorDiv b pos) (rdE X.K cm W (dBin oDiv fa fb)) := e_op op_fdiv ro_div ha hb
theorem b_pow (ha : PE X a (rdE X.K cm W fa)) (hb : PE X b (rdE X.K cm W fb)) : PE X (.BinOp a .Pow b pos) (rdE X.K cm W (dBin oPow fa fb)) := e_op op_pow ro_pow ha hb
theorem c_eq {k : Nat} (r : Room k X.A) (ha : PE X a (rdE X.K cm W fa)) (hb : PE X b (rdE X.K cm W fb)) : PE X (.Compare a [.Eq] [b] pos) (rdE X.K cm W (dBin oEq fa fb)) := e_cmp (op_eqD (hu64 r)) ro_eq (nomark _) ha hb
theorem c_ne {k : Nat} (r : Room k X.A) (ha : PE X a (rdE X.K cm W fa)) (hb : PE X b (rdE X.K cm W fb)) : PE X (.Compare a [.NotEq] [b] pos) (rdE X.K cm W (dBin oNe fa fb)) := e_cmp (op_neD (hu64 r)) ro_ne (nomark _) ha hb
theorem c_lt (ha : PE X a (rdE X.K cm W fa)) (hb : PE X b (rdE X.K cm W fb)) : PE X (.Compare a [.Lt] [b] pos) (rdE X.K cm W (dBin oLt fa fb)) := e_cmp op_lt ro_lt (nomark _) ha hb
theorem c_le (ha : PE X a (rdE X.K cm W fa)) (hb : PE X b (rdE X.K cm W fb)) : PE X (.Compare a [.LtE] [b] pos) (rdE X.K cm W (dBin oLe fa fb)) := e_cmp op_le ro_le (nomark _) ha hb
theorem c_gt (ha : PE X a (rdE X.K cm W fa)) (hb : PE X b (rdE X.K cm W fb)) : PE X (.Compare a [.Gt] [b] pos) (rdE X.K cm W (dBin oGt fa fb)) := e_cmp op_gt ro_gt (nomark _) ha hb
theorem c_ge (ha : PE X a (rdE X.K cm W fa)) (hb : PE X b (rdE X.K cm W fb)) : PE X (.Compare a [.GtE] [b] pos) (rdE X.K cm W (dBin oGe fa fb)) := e_cmp op_ge ro_ge (nomark _) ha hb
theorem c_is (ha : PE X a (rdE X.K cm W fa)) (hb : PE X b (rdE X.K cm W fb)) : PE X (.Compare a [.Is] [b] pos) (rdE X.K cm W (dBin oIsN fa fb)) := e_cmp op_isN ro_isN (nomark _) ha hb
theorem c_isn (ha : PE X a (rdE X.K cm W fa)) (hb : PE X b (rdE X.K cm W fb)) : PE X (.Compare a [.IsNot] [b] pos) (rdE X.K cm W (dBin oNotN fa fb)) := e_cmp op_notN ro_notN (nomark _) ha hb
theorem c_in {k : Nat} (r : Room k X.A) (ha : PE X a (rdE X.K cm W fa)) (hb : PE X b (rdE X.K cm W fb)) (hm : behindInMarks .In b = false := by rfl) : PE X (.Compare a [.In] [b] pos) (rdE X.K cm W (dBin oIn fa fb)) := e_cmp (op_inA (hu66 r)) ro_in hm ha hb
theorem c_nin {k : Nat} (r : Room k X.A) (ha : PE X a (rdE X.K cm W fa)) (hb : PE X b (rdE X.K cm W fb)) (hm : behindInMarks .NotIn b = false := by rfl) : PE X (.Compare a [.NotIn] [b] pos) (rdE X.K cm W (dBin oNotIn fa fb)) := e_cmp (op_notInA (hu66 r)) ro_notIn hm ha hb
theorem t_eq {k : Nat} (r : Room k X.A) (ha : PE X a (rdE X.K cm W fa)) (hb : PE X b (rdE X.K cm W fb)) : PT X (.Compare a [.Eq] [b] pos) (rdT X.K cm W (tV (dBin oEq fa fb))) := t_cmp (op_eqD (hu64 r)) ro_eq (nomark _) ha hb
theorem t_ne {k : Nat} (r : Room k X.A) (ha : PE X a (rdE X.K cm W fa)) (hb : PE X b (rdE X.K cm W fb)) : PT X (.Compare a [.NotEq] [b] pos) (rdT X.K cm W (tV (dBin oNe fa fb))) := t_cmp (op_neD (hu64 r)) ro_ne (nomark _) ha hb
theorem t_lt (ha : PE X a (rdE X.K cm W fa)) (hb : PE X b (rdE X.K cm W fb)) : PT X (.Compare a [.Lt] [b] pos) (rdT X.K cm W (tV (dBin oLt fa fb))) := t_cmp op_lt ro_lt (nomark _) ha hb
theorem t_le (ha : PE X a (rdE X.K cm W fa)) (hb : PE X b (rdE X.K cm W fb)) : PT X (.Compare a [.LtE] [b] pos) (rdT X.K cm W (tV (dBin oLe fa fb))) := t_cmp op_le ro_le (nomark _) ha hb
theorem t_gt (ha : PE X a (rdE X.K cm W fa)) (hb : PE X b (rdE X.K cm W fb)) : PT X (.Compare a [.Gt] [b] pos) (rdT X.K cm W (tV (dBin oGt fa fb))) := t_cmp op_gt ro_gt (nomark _) ha hb
theorem t_ge (ha : PE X a (rdE X.K cm W fa)) (hb : PE X b (rdE X.K cm W fb)) : PT X (.Compare a [.GtE] [b] pos) (rdT X.K cm W (tV (dBin oGe fa fb))) := t_cmp op_ge ro_ge (nomark _) ha hb
theorem t_is (ha : PE X a (rdE X.K cm W fa)) (hb : PE X b (rdE X.K cm W fb)) : PT X (.Compare a [.Is] [b] pos) (rdT X.K cm W (tV (dBin oIsN fa fb))) := t_cmp op_isN ro_isN (nomark _) ha hb
theorem t_isn (ha : PE X a (rdE X.K cm W fa)) (hb : PE X b (rdE X.K cm W fb)) : PT X (.Compare a [.IsNot] [b] pos) (rdT X.K cm W (tV (dBin oNotN fa fb))) := t_cmp op_notN ro_notN (nomark _) ha hb
theorem t_in {k : Nat} (r : Room k X.A) (ha : PE X a (rdE X.K cm W fa)) (hb : PE X b (rdE X.K cm W fb)) (hm : behindInMarks .In b = false := by rfl) : PT X (.Compare a [.In] [b] pos) (rdT X.K cm W (tV (dBin oIn fa fb))) := t_cmp (op_inA (hu66 r)) ro_in hm ha hb
theorem t_nin {k : Nat} (r : Room k X.A) (ha : PE X a (rdE X.K cm W fa)) (hb : PE X b (rdE X.K cm W fb)) (hm : behindInMarks .NotIn b = false := by rfl) : PT X (.Compare a [.NotIn] [b] pos) (rdT X.K cm W (tV (dBin oNotIn fa fb))) := t_cmp (op_notInA (hu66 r)) ro_notIn hm ha hb
theorem e_ixR {k : Nat} (r : Room k X.A) (ha : PE X a (rdE X.K cm W fa)) (hb : PE X b (rdE X.K cm W fb)) (hs : PlainIx b := by exact fun _ _ => rfl) : PE X (.Subscript a b pos) (rdE X.K cm W (dBin oIx fa fb)) := e_ix (hu1 r) ha hb hs
/-- a tuple of the module -/
theorem ro_line {K : PySem.W.Frag} {p : Addr} {c : Nat} {its : List Value} {sl : Array (Option Value)} {ds : List D} {vs : List V} (h : K.lookup p = some ⟨.type "tuple", none, .seq its.toArray c, sl⟩) (rv : Vals vs its) (hz : its.length ≤ sizeLine) (r : ∀ L H, Reps K cm L H ds vs) (L : List Addr) (H : Hp) : Rep K cm L H (.tup ds) (.ref p) :=
  .tup (.inr ⟨_, its.toArray, c, h, rfl, rfl, by rw [List.size_toArray]; exact hz, by simpa using rv⟩) (r L H)

/-- a, b = x, y -/
def sPar (i j : Nat) (a : DA) : DSt := fun S => (a S).bind fun ds S1 => match ds with
  | [d, e] => .ok .next { S1 with loc := (S1.loc.set i (some d)).set j (some e) }
  | _ => .stuck
def sPar3 (i j l : Nat) (a : DA) : DSt := fun S => (a S).bind fun ds S1 => match ds with
  | [d, e, f] => .ok .next { S1 with loc := ((S1.loc.set i (some d)).set j (some e)).set l (some f) }
  | _ => .stuck
variable {c : Expr} {ga : DA} {x y z : Str} {px py pz pt : Pos}
theorem s_par {i j : Nat} {kt k2 pt2} (hc : X.calm = true) (hN : X.N.Nodup) (hi : X.N[i]? = some x) (hj : X.N[j]? = some y) (hij : i ≠ j) (hx : X.env.scope.names.lookup x = some .local) (hy : X.env.scope.names.lookup y = some .local) (ha : PA X [a, b] (rdA X.K cm W ga))
    (hw : swappedStores [.Tuple [.Name x px, .Name y py] kt pt] (.Tuple [a, b] k2 pt2) X.env = pure (some [x, y]) := by rfl) (hs : swapsWithSole [.Tuple [.Name x px, .Name y py] kt pt] (.Tuple [a, b] k2 pt2) pos.line X.env = pure false := by rfl) :
    PS X (.Assign [.Tuple [.Name x px, .Name y py] kt pt] (.Tuple [a, b] k2 pt2) pos) (rdS X.K cm W (sPar i j ga)) := weakS (ps_par hc hN hi hj hij hx hy ha hw hs) fun E σ H q => by
  obtain ⟨L, S, ab, q⟩ := q
  refine ⟨L, S, ab, (AftS.step (R := Reps X.K cm) q).mono fun vs H1 z => ?_⟩
  obtain ⟨L1, S1, ds, e1, x1, r1, q1⟩ := z
  split at q1
  · cases r1 with
    | cons r1 r2 =>
      cases r2 with
      | cons r2 r3 =>
        cases r3
        exact ⟨_, _, rfl, q1 L1 H1 _ Ext.refl ((x1.set r1 i).set r2 j)⟩
  · exact q1.elim
theorem s_par3 {i j l : Nat} {kt k2 pt2} (hc : X.calm = true) (hN : X.N.Nodup) (hi : X.N[i]? = some x) (hj : X.N[j]? = some y) (hl : X.N[l]? = some z) (hij : i ≠ j) (hil : i ≠ l) (hjl : j ≠ l) (hx : X.env.scope.names.lookup x = some .local) (hy : X.env.scope.names.lookup y = some .local) (hz : X.env.scope.names.lookup z = some .local)
    (ha : PA X [a, b, c] (rdA X.K cm W ga)) (hw : swappedStores [.Tuple [.Name x px, .Name y py, .Name z pz] kt pt] (.Tuple [a, b, c] k2 pt2) X.env = pure (some [x, y, z]) := by rfl) (hs : swapsWithSole [.Tuple [.Name x px, .Name y py, .Name z pz] kt pt] (.Tuple [a, b, c] k2 pt2) pos.line X.env = pure false := by rfl) :
    PS X (.Assign [.Tuple [.Name x px, .Name y py, .Name z pz] kt pt] (.Tuple [a, b, c] k2 pt2) pos) (rdS X.K cm W (sPar3 i j l ga)) := weakS (ps_par3 hc hN hi hj hl hij hil hjl hx hy hz ha hw hs) fun E σ H q => by
  obtain ⟨L, S, ab, q⟩ := q
  refine ⟨L, S, ab, (AftS.step (R := Reps X.K cm) q).mono fun vs H1 z => ?_⟩
  obtain ⟨L1, S1, ds, e1, x1, r1, q1⟩ := z
  split at q1
  · cases r1 with
    | cons r1 r2 =>
      cases r2 with
      | cons r2 r3 =>
        cases r3 with
        | cons r3 r4 =>
          cases r4
          exact ⟨_, _, _, rfl, q1 L1 H1 _ Ext.refl (((x1.set r1 i).set r2 j).set r3 l)⟩
  · exact q1.elim
end
end Den

namespace Den
open PySem L2

/-! ### 30. truth, chains, all, any, sum, str, int of a text, extend, a tuple times a number -/
def toTru : D → DS → Res Bool := fun d S => match d with
  | .non => .ok false S
  | .bl b => .ok b S
  | .int i => .ok (i != 0) S
  | .str y => if y.length ≤ mxL then .ok ((y.length : Int) != 0) S else .stuck
  | .tup xs => .ok (!xs.isEmpty) S
  | .ro xs => .ok (!xs.isEmpty) S
  | .ref n => match S.h[n]? with
    | some (.lst xs) => .ok (!xs.isEmpty) S
    | some (.dct kvs) => .ok (!kvs.isEmpty) S
    | _ => .stuck
  | _ => .stuck
def tTr (a : DE) : DT := fun S => (a S).bind toTru
def dChain (f g : D → D → DS → Res D) (a b c : DE) : DE := fun S => (a S).bind fun x S1 => (b S1).bind fun y S2 => (f x y S2).bind fun k S3 => (toB k S3).bind fun k S4 => if k then (c S4).bind fun z S5 => g y z S5 else .ok (.bl false) S4
def blsOf : List D → Option (List Bool)
  | [] => some []
  | .bl b :: r => (blsOf r).map fun bs => b :: bs
  | _ => none
def intsOf : List D → Option (List Int)
  | [] => some []
  | .int b :: r => (intsOf r).map fun bs => b :: bs
  | _ => none
def cAll : List D → DS → Res D := fun ds S => match ds with
  | [.ref n] => match S.h[n]? with
    | some (.lst xs) => match blsOf xs with
      | some bs => .ok (.bl (bs.all id)) S
      | none => .stuck
    | _ => .stuck
  | _ => .stuck
def cAny : List D → DS → Res D := fun ds S => match ds with
  | [.ref n] => match S.h[n]? with
    | some (.lst xs) => match blsOf xs with
      | some bs => .ok (.bl (bs.any id)) S
      | none => .stuck
    | _ => .stuck
  | _ => .stuck
def cSum : List D → DS → Res D := fun ds S => match ds with
  | [.ref n] => match S.h[n]? with
    | some (.lst xs) => match intsOf xs with
      | some bs => .ok (.int bs.sum) S
      | none => .stuck
    | _ => .stuck
  | _ => .stuck
def cStr : List D → DS → Res D := fun ds S => match ds with
  | [.int i] => if i.natAbs.log2 < 1920 then .ok (.str (toString i)) S else .stuck
  | [.str x] => .ok (.str x) S
  | _ => .stuck
def cIntA : List D → DS → Res D := fun ds S => match ds with
  | [.int i] => .ok (.int i) S
  | [.bl b] => .ok (.int (if b then 1 else 0)) S
  | [.str a] => if a.length ≤ 640 then match PySem.intText? a with
    | some n => .ok (.int n) S
    | none => .stuck else .stuck
  | _ => .stuck
def mExtend : D → List D → DS → Res D := fun x ds S => match x, ds with
  | .ref n, [.ref m] => match S.h[n]?, S.h[m]? with
    | some (.lst xs), some (.lst zs) => if xs.length + zs.length ≤ mxL then .ok .non { S with h := S.h.set n (.lst (xs ++ zs)) } else .stuck
    | _, _ => .stuck
  | _, _ => .stuck
def oMulB : D → D → DS → Res D := fun x y S => match x, y with
  | .tup xs, .int j => if xs ≠ [] ∧ 2 ≤ j ∧ j ≤ 1000 ∧ xs.length ≤ 1000 then .ok (.tup (List.replicate j.toNat xs).flatten) S else .stuck
  | x, y => oMulA x y S
def dNeg (a : DE) : DE := fun S => (a S).bind fun d S1 => match d with
  | .int i => .ok (.int (-i)) S1
  | _ => .stuck
section
variable {X : Cx} {cm : Str → Value} {W : WX} {e e1 e2 a b c o : Expr} {es : List Expr} {x : Str} {p pos apos cpos : Pos} {fa fb fc : DE} {ga : DA} {K : PySem.W.Frag} {L : List Addr} {H : Hp} {S : DS} {σ : L2.St}
theorem t_tr (he : PE X e (rdE X.K cm W fa)) (hp : ∀ whole, isTrue e X.env whole = (do let v ← whole; standAt e.pos; holding [v] (truthy v)) := by intro _; rfl) : PT X e (rdT X.K cm W (tTr fa)) := weakT (pt_truth he hp) fun σ H Q q => by
  obtain ⟨L, S, a, q⟩ := q
  refine ⟨L, S, a, (Aft.step (R := Rep X.K cm) q).mono fun v H1 z => ?_⟩
  obtain ⟨L1, S1, d, e1, x1, r1, q1⟩ := z
  unfold toTru at q1
  split at q1
  · cases r1; exact ⟨_, rfl, q1.give x1 rfl⟩
  · cases r1; exact ⟨_, rfl, q1.give x1 rfl⟩
  · cases r1; exact ⟨_, rfl, q1.give x1 rfl⟩
  · split at q1
    · rename_i h
      cases r1; exact ⟨_, ⟨mx_line h, rfl⟩, q1.give x1 rfl⟩
    · exact q1.elim
  · cases r1 with
    | tup hs rr =>
      refine ⟨_, .inr (.inl ⟨_, hs, ?_⟩), q1.give x1 rfl⟩
      cases rr <;> rfl
  · cases r1 with
    | ro hs rr =>
      refine ⟨_, .inl ⟨_, hs.sq, ?_⟩, q1.give x1 rfl⟩
      cases rr <;> rfl
  · split at q1
    · rename_i hx
      obtain ⟨p1, vs1, rfl, g1, h1, rr⟩ := x1.lst r1 hx
      refine ⟨_, .inl ⟨_, SqL.of h1, ?_⟩, q1.give x1 rfl⟩
      cases rr <;> rfl
    · rename_i hx
      obtain ⟨p1, vs1, rfl, g1, h1, rr⟩ := x1.dct r1 hx
      refine ⟨_, .inr (.inr ⟨_, h1, ?_⟩), q1.give x1 rfl⟩
      cases rr <;> rfl
    · exact q1.elim
  · exact q1.elim
theorem rd_chain {r r' : R2} {f g : D → D → DS → Res D} (h : ROp X cm W r f) (h' : ROp X cm W r' g) {σ : L2.St} {H : Hp} {Q : VK} (q : rdE X.K cm W (dChain f g fa fb fc) σ H Q) : tChain r r' (rdE X.K cm W fa) (rdE X.K cm W fb) (rdE X.K cm W fc) σ H Q := by
  obtain ⟨L, S, a, q⟩ := q
  refine ⟨L, S, a, (Aft.step (R := Rep X.K cm) q).mono fun v H1 z => ?_⟩
  obtain ⟨L1, S1, d, e1, x1, r1, q1⟩ := z
  refine ⟨L1, S1, x1, (Aft.step (R := Rep X.K cm) q1).mono fun u H2 z => ?_⟩
  obtain ⟨L2, S2, d2, e2, x2, r2, q2⟩ := z
  refine h x2 (r1.mono e2) r2 ((Aft.step (R := Rep X.K cm) q2).mono fun k H3 z => ?_)
  obtain ⟨L3, S3, d3, e3, x3, r3, q3⟩ := z
  unfold toB at q3
  split at q3
  · rename_i kb
    cases r3
    refine ⟨_, rfl, ?_⟩
    rw [Res.bind_ok] at q3
    cases kb with
    | true =>
      rw [if_pos rfl] at q3 ⊢
      refine ⟨L3, S3, x3, (Aft.step (R := Rep X.K cm) q3).mono fun w H4 z => ?_⟩
      obtain ⟨L4, S4, d4, e4, x4, r4, q4⟩ := z
      exact h' x4 (r2.mono (e3.trans e4)) r4 q4
    | false =>
      rw [if_neg (by decide)] at q3 ⊢
      exact q3.give x3 (.bl false)
  · exact q3.elim
theorem e_chain {op op' : CmpOp} {r r' : R2} {f g : D → D → DS → Res D} (ho : OpR X (compareOp op) r) (ho' : OpR X (compareOp op') r') (h : ROp X cm W r f) (h' : ROp X cm W r' g) (ha : PE X a (rdE X.K cm W fa)) (hb : PE X b (rdE X.K cm W fb)) (hc : PE X c (rdE X.K cm W fc))
    (hm : lastMarks [op, op'] [b, c] = false := by with_unfolding_all rfl) : PE X (.Compare a [op, op'] [b, c] pos) (rdE X.K cm W (dChain f g fa fb fc)) := weakE (pe_chain ho ho' ha hb hc hm) fun _ _ _ => rd_chain h h'
theorem t_chain {op op' : CmpOp} {r r' : R2} {f g : D → D → DS → Res D} (ho : OpR X (compareOp op) r) (ho' : OpR X (compareOp op') r') (h : ROp X cm W r f) (h' : ROp X cm W r' g) (ha : PE X a (rdE X.K cm W fa)) (hb : PE X b (rdE X.K cm W fb)) (hc : PE X c (rdE X.K cm W fc))
    (hm : lastMarks [op, op'] [b, c] = false := by with_unfolding_all rfl) : PT X (.Compare a [op, op'] [b, c] pos) (rdT X.K cm W (tV (dChain f g fa fb fc))) := weakT (pt_chain ho ho' ha hb hc hm) fun _ _ _ => rd_test fun _ _ _ => rd_chain h h'
theorem bls_reps : ∀ {ds : List D} {vs : List V} {bs : List Bool}, Reps K cm L H ds vs → blsOf ds = some bs → vs = bs.map V.bl
  | _, _, _, .nil, h => by cases h; rfl
  | d :: _, _, _, .cons r t, h => by
    cases d <;> simp only [blsOf, Option.map_eq_some_iff] at h <;> first | cases h; done | skip
    obtain ⟨bs', h1, rfl⟩ := h
    cases r
    rw [List.map_cons, bls_reps t h1]
theorem ints_repsOf : ∀ {ds : List D} {vs : List V} {bs : List Int}, Reps K cm L H ds vs → intsOf ds = some bs → vs = bs.map V.int
  | _, _, _, .nil, h => by cases h; rfl
  | d :: _, _, _, .cons r t, h => by
    cases d <;> simp only [intsOf, Option.map_eq_some_iff] at h <;> first | cases h; done | skip
    obtain ⟨bs', h1, rfl⟩ := h
    cases r
    rw [List.map_cons, ints_repsOf t h1]
theorem co_all : COp X cm W (rAll X.K) cAll := by
  intro L H S σ xs ds Q a r q
  unfold cAll at q
  split at q
  · split at q
    · rename_i hx
      split at q
      · rename_i bs hb
        cases r with
        | cons r1 r2 =>
          cases r2
          obtain ⟨p1, vs1, rfl, g1, h1, rr⟩ := a.lst r1 hx
          exact ⟨p1, bs, rfl, by rw [← bls_reps rr hb]; exact SqL.of h1, q.give a (.bl _)⟩
      · exact q.elim
    · exact q.elim
  · exact q.elim
theorem co_any : COp X cm W (rAny X.K) cAny := by
  intro L H S σ xs ds Q a r q
  unfold cAny at q
  split at q
  · split at q
    · rename_i hx
      split at q
      · rename_i bs hb
        cases r with
        | cons r1 r2 =>
          cases r2
          obtain ⟨p1, vs1, rfl, g1, h1, rr⟩ := a.lst r1 hx
          exact ⟨p1, bs, rfl, by rw [← bls_reps rr hb]; exact SqL.of h1, q.give a (.bl _)⟩
      · exact q.elim
    · exact q.elim
  · exact q.elim
theorem co_sum : COp X cm W (rSum X.K) cSum := by
  intro L H S σ xs ds Q a r q
  unfold cSum at q
  split at q
  · split at q
    · rename_i hx
      split at q
      · rename_i bs hb
        cases r with
        | cons r1 r2 =>
          cases r2
          obtain ⟨p1, vs1, rfl, g1, h1, rr⟩ := a.lst r1 hx
          exact ⟨p1, bs, rfl, by rw [← ints_repsOf rr hb]; exact SqL.of h1, q.give a (.int _)⟩
      · exact q.elim
    · exact q.elim
  · exact q.elim
theorem co_str : COp X cm W (fun xs H Q => (∃ i, xs = [.int i] ∧ i.natAbs.log2 < 1920 ∧ Q (.str (toString i)) H) ∨ ∃ a, xs = [.str a] ∧ Q (.str a) H) cStr := by
  intro L H S σ xs ds Q a r q
  unfold cStr at q
  split at q
  · split at q
    · rename_i h
      cases r with
      | cons r1 r2 => cases r2; cases r1; exact .inl ⟨_, rfl, h, q.give a (.str _)⟩
    · exact q.elim
  · cases r with
    | cons r1 r2 => cases r2; cases r1; exact .inr ⟨_, rfl, q.give a (.str _)⟩
  · exact q.elim
theorem call_strA : CallR X (.type "str") (fun xs H Q => (∃ i, xs = [.int i] ∧ i.natAbs.log2 < 1920 ∧ Q (.str (toString i)) H) ∨ ∃ a, xs = [.str a] ∧ Q (.str a) H) := callR_or call_str_int SkE.call_str_str
theorem co_intA : COp X cm W (fun xs H Q => ((∃ i, xs = [.int i] ∧ Q (.int i) H) ∨ ∃ k, xs = [.bl k] ∧ Q (.int (if k then 1 else 0)) H) ∨ ∃ a n, xs = [.str a] ∧ PySem.intText? a = some n ∧ a.length ≤ 640 ∧ Q (.int n) H) cIntA := by
  intro L H S σ xs ds Q a r q
  unfold cIntA at q
  split at q
  · cases r with
    | cons r1 r2 => cases r2; cases r1; exact .inl (.inl ⟨_, rfl, q.give a (.int _)⟩)
  · cases r with
    | cons r1 r2 => cases r2; cases r1; exact .inl (.inr ⟨_, rfl, q.give a (.int _)⟩)
  · split at q
    · rename_i hl
      split at q
      · rename_i n hn
        cases r with
        | cons r1 r2 => cases r2; cases r1; exact .inr ⟨_, _, rfl, hn, hl, q.give a (.int _)⟩
      · exact q.elim
    · exact q.elim
  · exact q.elim
theorem call_intA : CallR X (.type "int") (fun xs H Q => ((∃ i, xs = [.int i] ∧ Q (.int i) H) ∨ ∃ k, xs = [.bl k] ∧ Q (.int (if k then 1 else 0)) H) ∨ ∃ a n, xs = [.str a] ∧ PySem.intText? a = some n ∧ a.length ≤ 640 ∧ Q (.int n) H) := callR_or call_int1 call_int_str
theorem mo_extend : MOp X cm W rExtend mExtend := by
  intro L H S σ x xs d ds Q a r1 r2 q
  unfold mExtend at q
  split at q
  · split at q
    · rename_i hx hz
      obtain ⟨p1, vs1, rfl, g1, h1, rr⟩ := a.lst r1 hx
      split at q
      · rename_i hl
        cases r2 with
        | cons r2 r3 =>
          cases r3
          obtain ⟨p2, vs2, rfl, g2, h2, rr2⟩ := a.lst r2 hz
          have ep := Ext.put (o := .lst (vs1 ++ vs2)) a.hp g1 (.inl ⟨_, h1⟩)
          exact ⟨_, _, _, _, rfl, rfl, h1, h2, by rw [← rr.length, ← rr2.length]; exact mx_line hl, q.giveE ep (a.put g1 (.inl ⟨_, h1⟩) ⟨_, upd_same, (rr.append rr2).mono ep⟩) .non⟩
      · exact q.elim
    · exact q.elim
  · exact q.elim
theorem ro_mulB : ROp X cm W (fun x y H Q => ((rI CMul (fun i j => .int (i * j)) x y H Q ∨ rStrRep x y H Q) ∨ rRep x y H Q) ∨ rRepT X.K x y H Q) oMulB := by
  intro L H S σ x y d e Q a r1 r2 q
  unfold oMulB at q
  split at q
  · split at q
    · rename_i h
      obtain ⟨h0, h1, h2, h3⟩ := h
      cases r2
      cases r1 with
      | tup hs rr =>
        refine .inr ⟨_, _, _, rfl, rfl, hs, fun z => ?_, h1, h2, by rw [← rr.length]; exact h3, fun p hp => q.giveE (Ext.beside hp) (a.beside hp) (.tup (.inl (.inl upd_same)) ((reps_repl rr _).mono (Ext.beside hp)))⟩
        subst z
        cases rr
        exact h0 rfl
    · exact q.elim
  · exact .inl (ro_mulA a r1 r2 q)
theorem b_mulB (ha : PE X a (rdE X.K cm W fa)) (hb : PE X b (rdE X.K cm W fb)) : PE X (.BinOp a .Mult b pos) (rdE X.K cm W (dBin oMulB fa fb)) := e_op (((op_mul.or op_strRep).or op_rep).or op_repT) ro_mulB ha hb
theorem e_neg (ha : PE X a (rdE X.K cm W fa)) : PE X (.UnaryOp .USub a pos) (rdE X.K cm W (dNeg fa)) := weakE (pe_un un_neg ha) fun σ H Q q => by
  obtain ⟨L, S, a, q⟩ := q
  refine ⟨L, S, a, (Aft.step (R := Rep X.K cm) q).mono fun v H1 z => ?_⟩
  obtain ⟨L1, S1, d, e1, x1, r1, q1⟩ := z
  split at q1
  · cases r1
    exact ⟨_, rfl, q1.give x1 (.int _)⟩
  · exact q1.elim
end
end Den

namespace Den
open PySem L2

/-! ### 31. enumerate of a list, with a start -/
def numIt (k : Int) (f : List Ob → Nat → Option (Option D)) : List Ob → Nat → Option (Option D) := fun h i => match f h i with
  | some (some d) => some (some (.tup [.int (k + (i : Nat)), d]))
  | some none => some none
  | none => none
def enumOf (k : Int) (d : D) (S : DS) : Res Iter0 := match d with
  | .ref n => match S.h[n]? with
    | some (.lst _) => .ok (.dyn (numIt k (lstIt n))) S
    | _ => .stuck
  | _ => .stuck
def dEnum (a : DA) : DS → Res Iter0 := fun S => (a S).bind fun ds S1 => match ds with
  | [d] => enumOf 0 d S1
  | _ => .stuck
def dEnumS (a z : DA) : DS → Res Iter0 := fun S => (a S).bind fun ds S1 => (z S1).bind fun es S2 => match ds, es with
  | [d], [.int k] => if -1000000 ≤ k ∧ k ≤ 1000000 then enumOf k d S2 else .stuck
  | _, _ => .stuck
def IteK (K : PySem.W.Frag) (a : Addr) (k : Int) : It :=
  ⟨fun i H => ∃ (xs : List V) (x : V), SqL K H a xs ∧ xs[i]? = some x, fun i H v H' => ∃ T x, v = .ref T ∧ H T = none ∧ H' = upd H T (.tup [.int (k + (i : Nat)), x]) ∧ ∀ xs, SqL K H a xs → xs[i]? = some x, fun i H => ∃ xs : List V, SqL K H a xs ∧ xs.length ≤ i⟩
section
variable {prog : Program} {w : World} {A : Around} {E : Value → Shared → Prop} {s : Shared}
theorem enum_end_at {e it l : Addr} {i : Nat} {c : Int} {items : Array Value} {old : Value} {Q : Option Value → Shared → Prop} (hh : A.handled = none)
    (he : IsEnum s.heap e it c old) (hit : s.heap.IsListIter it l i) (hl : s.heap.IsList l items) (hx : items[i]? = none)
    (hQ : ∀ h', Heap.ExtBut it s.heap h' → Q none { s with heap := h' }) : wpAny (model prog w) A (pyNext (.ref e)) Q E s := by
  have hT : s.TypeIs (.ref e) "enumerate" := ⟨_, he, rfl⟩
  unfold pyNext
  refine wpAny_bind (wpAny_attempt (wpAny_callSpecial?_slot (name := Str.ofString "__next__") hT F.slot_enumerate_next
    (wpAny_call_entry F.slot_enumerate_next hT F.entry_enumerate_next ?_ (F.args_enumerate_next_1 _))))
  show wpAny _ _ (field (.ref e) 2 >>= _) _ _ _
  refine wpAny_bind (wpAny_field he rfl (x := .ref it) rfl ?_)
  refine wpAny_bind (wpAny_nextOf_list_end hh hit hl hx fun h' x he' hx' => ?_)
  obtain ⟨o, ho, hc⟩ := hx'
  refine wpAny_bind (wpAny_isInstance (T := "StopIteration") (b := true) ⟨o, ho, hc⟩ isSubtype_stop ?_)
  exact wpAny_pure (hQ _ he')
open PyProof.Rows in
theorem callWith_typeK {M : Model} {env : Env} {pos : Pos} {T : String} {e : Expr} {rest : List Expr} {kws : List Keyword} {Q : Value → Shared → Prop}
    (h : wpAny M A (spliced (backTo pos (starEach (e :: rest) env))) (fun vs s₁ => wpAny M A (evalAll ((backToKw pos (keywordEach kws env)).map (·.2)))
      (fun kvs s₂ => wpAny M A (call (.type T) vs (((backToKw pos (keywordEach kws env)).filterMap (·.1)).zip kvs)) Q E s₂) E s₁) E s)
    (he : backTo pos (starEach (e :: rest) env) = (false, eval e env) :: backTo pos (starEach rest env))
    (hplain : (backTo pos (starEach (e :: rest) env)).any (·.1) = false)
    (hall : (backToKw pos (keywordEach kws env)).all (·.1.isSome) = true)
    (hkw : (backToKw pos (keywordEach kws env)).any (·.1.isNone) = false) :
    wpAny M A (callWith pos (.type T) [] (backTo pos (starEach (e :: rest) env)) (backToKw pos (keywordEach kws env))) Q E s := by
  unfold callWith
  have h2 : wpAny M A (evalArgs (.type T) true (backTo pos (starEach (e :: rest) env)) (backToKw pos (keywordEach kws env))) (fun a s₁ => wpAny M A (call (.type T) ([] ++ a.pos) a.kw) Q E s₁) E s := by
    rw [he] at h ⊢
    exact evalArgs_kwB hall h
  refine wpAny_bind (wpAny_holding (wpAny_mono h2 (fun a s₁ h₁ => wpAny_bind (wpAny_standAt ?_)) fun _ _ x => x))
  simp only [hplain, hkw, Bool.or_false]
  refine wpAny_bind (wpAny_pure ?_)
  exact wpAny_bind (wpAny_mono h₁ (fun r s₂ hr => wpAny_bind (wpAny_holding (wpAny_point (wpAny_pure hr)))) fun _ _ x => x)
end
section
variable {X : Cx} {cm : Str → Value} {W : WX} {e e1 e2 o tg : Expr} {es : List Expr} {x : Str} {p pos apos cpos tpos : Pos} {fa fb fo : DE} {ga gz : DA} {K : PySem.W.Frag} {L : List Addr} {H : Hp} {S : DS} {σ : L2.St}
theorem turn_enumK {P : Program} {w : World} {K : PySem.W.Frag} {elts : List Expr} {kk : Nat} {tpos : Pos} (a e it : Addr) (k : Int) :
    Turn P w K (.Tuple elts kk tpos) (IteK K a k) [e, it] e (fun i h => (∃ old, IsEnum h e it (k + ((i : Nat) : Int)) old) ∧ h.IsListIter it a i ∧ e ≠ it) where
  mem := by simp
  obj := fun i h st b hb => by
    obtain ⟨⟨old, he⟩, ⟨o, ho, hc, hd⟩, _⟩ := st
    have e' : b = e ∨ b = it := by simpa using hb
    rcases e' with z | z
    · rw [z]; exact ⟨_, he, fun v q => nomatch q⟩
    · rw [z]; exact ⟨o, ho, fun v q => by rw [hd] at q; cases q⟩
  keep := fun i h h' st k => let ⟨⟨old, he⟩, hi, hne⟩ := st; ⟨⟨old, k e (by simp) _ he⟩, hi.at fun o q => k it (by simp) o q, hne⟩
  item := by
    intro X hP hw hK hc i pins s σ H E I hf st hg
    subst hP hw hK
    obtain ⟨⟨old, he⟩, hit, hne⟩ := st
    obtain ⟨xs, x, hq, hx⟩ := hg
    obtain ⟨its, rv, p, hz⟩ := I.list hq
    obtain ⟨u, hu, ru⟩ := rv.get hx
    have hel : e < s.heap.objs.size := Heap.lt_size he
    have hil : it < s.heap.objs.size := by obtain ⟨_, q, _⟩ := hit; exact Heap.lt_size q
    have hae : e ≠ a := fun q => by
      obtain ⟨o, ho, hc', _⟩ := p.isList
      rw [← q, he] at ho; cases ho
      injection hc' with hc'; exact absurd hc' (by decide)
    have hai : a ≠ it := fun q => by
      obtain ⟨o, ho, hc', _⟩ := p.isList
      obtain ⟨o2, ho2, hc2, _⟩ := hit
      rw [q, ho2] at ho; cases ho
      rw [hc2] at hc'
      injection hc' with hc'; exact absurd hc' (by decide)
    have hlt : i < its.toArray.size := by rw [List.size_toArray]; exact (List.getElem?_eq_some_iff.mp hu).1
    refine wpAny_pyNext_enum_itemC (Draws.list (A := X.A.in1) (I.ok.hd hc) it a hai its.toArray) he ⟨hit, p.isList⟩ hlt hne (by simp [hne, hae]) fun x' h' tk hP ho hst' hT hsz hk => ?_
    have ex' : x' = u := by
      have hP' : its.toArray[i]? = some x' := hP
      rw [List.getElem?_toArray, hu] at hP'
      exact (Option.some.inj hP').symm
    subst ex'
    obtain ⟨hit', _⟩ := hst'
    refine ⟨_, rfl, wpAny_letOwnedTupleGo_enum (s := { s with heap := h', toks := tk + 1 }) ho fun h'' he' sb => ?_⟩
    have hT2 : h''.get? s.heap.objs.size = some { cls := .type "tuple", data := .seq #[.int (k + ((i : Nat) : Int)) tk, x'] } := (sb.2 _ (Nat.ne_of_gt hel)).trans hT
    have new : ObjOk X.prog X.w (upd H s.heap.objs.size (.tup [.int (k + (i : Nat)), x])) h'' s.heap.objs.size (.tup [.int (k + (i : Nat)), x]) :=
      ⟨by show 2 ≤ sizeLine; rw [sizeLine_eq]; decide, [.int (k + ((i : Nat) : Int)) tk, x'], .cons ⟨_, rfl⟩ (.cons ru .nil), ⟨_, hT2, rfl, _, rfl⟩⟩
    have I1 : Inv X pins σ (upd H s.heap.objs.size (.tup [.int (k + (i : Nat)), x])) { s with heap := h'', toks := tk + 1 } :=
      I.turnedNew (ch := [e, it]) (fun b ob hb q => (sb.2 b (fun z => hb (by simp [z]))).trans (hk b ob (fun z => hb (by simp [z])) (fun z => hb (by simp [z])) q)) hf (Nat.le_refl _) new
    refine ⟨.ref s.heap.objs.size, _, I1, rfl, ⟨_, x, rfl, I.hok.fresh (Nat.le_refl _), rfl, fun ys hy => by rw [I.list_inj hy hq]; exact hx⟩, ⟨⟨x', ?_⟩, hit'.at fun o q => (sb.2 it (Ne.symm hne)).trans q, hne⟩, fun b hb => ?_⟩
    · have e1 : k + ((i + 1 : Nat) : Int) = k + (i : Int) + 1 := by omega
      rw [e1]; exact he'
    · have hb' : b < s.heap.objs.size := by
        have e' : b = e ∨ b = it := by simpa using hb
        rcases e' with z | z
        · rw [z]; exact hel
        · rw [z]; exact hil
      rw [upd_ne (Nat.ne_of_lt hb')]
      exact (hf b hb).1
  done := by
    intro X hP hw hK hc i pins s σ H E I hf st hg
    subst hP hw hK
    obtain ⟨⟨old, he⟩, hit, hne⟩ := st
    obtain ⟨xs, hq, hx⟩ := hg
    obtain ⟨its, rv, p, hz⟩ := I.list hq
    obtain ⟨f0, f1, f2, f3, f4, f5⟩ := hf it (by simp)
    have hl := rv.length
    exact enum_end_at (I.ok.hd hc) he hit p.isList (by simp; omega) fun h' eb => ⟨rfl, I.turned (t' := s.toks) (fun b o hb q => eb b o hb q) f0 f1 f3 f4 f5⟩
  self := fun A i s Q E st h => let ⟨⟨_, he⟩, _⟩ := st; wpAny_pyIter_enum he h
def iEnumS (K : PySem.W.Frag) (ta tk : TA) : TI := fun σ H R => ta σ H fun vs H1 => tk σ H1 fun zs H2 => ∃ a xs k, vs = [.ref a] ∧ zs = [.int k] ∧ -(2 ^ 63) ≤ k ∧ k < 2 ^ 63 ∧ SqL K H2 a xs ∧ R (IteK K a k) H2
theorem pi_enumS {e : Expr} {ta tk : TA} {kws : List Keyword} {elts : List Expr} {kk : Nat} (hg : Gl X "enumerate") (hm : X.mg "enumerate" = none) (ha : PA X [e] ta) (hk : PK X kws tk)
    (he : backTo pos (starEach [e] X.env) = (false, eval e X.env) :: backTo pos (starEach [] X.env) := by rfl) (hpl : (backTo pos (starEach [e] X.env)).any (·.1) = false := by rfl)
    (hall : (backToKw pos (keywordEach kws X.env)).all (·.1.isSome) = true := by rfl) (hnone : (backToKw pos (keywordEach kws X.env)).any (·.1.isNone) = false := by rfl) (hks : (backToKw pos (keywordEach kws X.env)).filterMap (·.1) = [Str.ofString "start"] := by rfl) :
    PI X (.Tuple elts kk tpos) (.Call (.Name "enumerate" p) [e] kws pos) (iEnumS X.K ta tk) := by
  refine ⟨fun pins s σ H R I h => ?_⟩
  refine wpAny_Call_Name_kw (ld_blt I hg hm PyProof.Rows.boot_enumerate ?_)
  refine callWith_typeK (thn (ha.run pos pins s σ H _ I h) fun us s1 ⟨vs, H1, I1, r1, q1⟩ => thn (hk.run pos pins s1 σ H1 _ I1 q1) fun ws s2 ⟨zs, H2, I2, r2, q2⟩ => ?_) he hpl hall hnone
  rw [hks]
  obtain ⟨a, xs, k, rfl, rfl, k0, k1, hq, q⟩ := q2
  cases r1 with
  | cons r rr =>
    cases rr
    cases r
    cases r2 with
    | cons r rr =>
      cases rr
      obtain ⟨t, rfl⟩ := r
      obtain ⟨its, rv, p', hz⟩ := I2.list hq
      refine enum_begins_start (begins_list a its.toArray) p'.isList k0 k1 fun h' he' hit hsz hkp => wpAny_pyIter_enum he' ?_
      have I3 : Inv X pins σ H2 { s2 with heap := h' } := I2.kept (t' := s2.toks) hkp
      refine ⟨s2.heap.objs.size + 1, [s2.heap.objs.size + 1, s2.heap.objs.size], _, _, H2, rfl, I3, turn_enumK a (s2.heap.objs.size + 1) s2.heap.objs.size k, ⟨⟨.none, by simpa using he'⟩, ⟨_, hit, rfl, rfl⟩, Nat.succ_ne_self _⟩, fun b hb => ?_, q⟩
      have e' : b = s2.heap.objs.size + 1 ∨ b = s2.heap.objs.size := by simpa using hb
      have hle : s2.heap.objs.size ≤ b := by
        rcases e' with z | z
        · rw [z]; exact Nat.le_add_right _ _
        · rw [z]; exact Nat.le_refl _
      exact I2.fpOk hle (I2.hok.fresh hle)
theorem numIt_obs {K : PySem.W.Frag} {h : List Ob} {n i : Nat} {k : Int} {a : Addr} {d : D} (hb : HAb K cm L H h) (hL : L[n]? = some a) (hf : numIt k (lstIt n) h i = some (some d)) : ∃ vs v d0, H a = some (.lst vs) ∧ vs[i]? = some v ∧ Rep K cm L H d0 v ∧ d = .tup [.int (k + (i : Nat)), d0] := by
  unfold numIt at hf
  split at hf
  · rename_i d0 h0
    unfold lstIt at h0
    split at h0
    · rename_i xs hx
      obtain ⟨vs, hH, rr⟩ := hb.obs _ _ _ hx hL
      obtain ⟨v, hv, rv⟩ := rr.get (Option.some.inj h0)
      cases hf
      exact ⟨vs, v, d0, hH, hv, rv, rfl⟩
    · cases h0
  · cases hf
  · cases hf
theorem numIt_stop {K : PySem.W.Frag} {h : List Ob} {n i : Nat} {k : Int} {a : Addr} (hb : HAb K cm L H h) (hL : L[n]? = some a) (hf : numIt k (lstIt n) h i = some none) : ∃ vs : List V, H a = some (.lst vs) ∧ vs.length ≤ i := by
  unfold numIt at hf
  split at hf
  · cases hf
  · rename_i h0
    unfold lstIt at h0
    split at h0
    · rename_i xs hx
      obtain ⟨vs, hH, rr⟩ := hb.obs _ _ _ hx hL
      refine ⟨vs, hH, ?_⟩
      rw [← rr.length]
      exact List.getElem?_eq_none_iff.mp (Option.some.inj h0)
    · cases h0
  · cases hf
theorem pair_new {K : PySem.W.Frag} {T : Addr} {i : Int} {d0 : D} {v : V} (hT : H T = none) (rv : Rep K cm L H d0 v) : Ext K L H L (upd H T (.tup [.int i, v])) ∧ (∀ h', HAb K cm L H h' → HAb K cm L (upd H T (.tup [.int i, v])) h') ∧ Rep K cm L (upd H T (.tup [.int i, v])) (.tup [.int i, d0]) (.ref T) :=
  ⟨Ext.beside hT, fun h' x => x.beside hT, .tup (.inl (.inl upd_same)) (.cons (.int _) (.cons (rv.mono (Ext.beside hT)) .nil))⟩
theorem walk_enumK {n : Nat} {a : Addr} {k : Int} (hL : L[n]? = some a) : WalksD K cm L H (numIt k (lstIt n)) (IteK K a k) :=
  ⟨fun L' H' h i d e hb hf => by
    obtain ⟨vs, v, d0, hH, hv, rv, rfl⟩ := numIt_obs hb (e.ix hL) hf
    refine ⟨⟨vs, v, SqL.of hH, hv⟩, fun x H2 y => ?_⟩
    obtain ⟨T, x0, rfl, hT, rfl, hy⟩ := y
    have ev := hy vs (SqL.of hH)
    rw [hv] at ev
    cases ev
    exact pair_new hT rv, fun L' H' h i e hb hf => by
    obtain ⟨vs, hH, hl⟩ := numIt_stop hb (e.ix hL) hf
    exact ⟨vs, SqL.of hH, hl⟩⟩
theorem walk_enum0 {n : Nat} {a : Addr} (hL : L[n]? = some a) : WalksD K cm L H (numIt 0 (lstIt n)) (Ite K a) :=
  ⟨fun L' H' h i d e hb hf => by
    obtain ⟨vs, v, d0, hH, hv, rv, rfl⟩ := numIt_obs hb (e.ix hL) hf
    refine ⟨⟨vs, v, SqL.of hH, hv⟩, fun x H2 y => ?_⟩
    obtain ⟨T, x0, rfl, hT, rfl, hy⟩ := y
    have ev := hy vs (SqL.of hH)
    rw [hv] at ev
    cases ev
    rw [Int.zero_add]
    exact pair_new hT rv, fun L' H' h i e hb hf => by
    obtain ⟨vs, hH, hl⟩ := numIt_stop hb (e.ix hL) hf
    exact ⟨vs, SqL.of hH, hl⟩⟩
theorem i_enum {elts : List Expr} {kk : Nat} (hg : Gl X "enumerate") (hm : X.mg "enumerate" = none) (ha : PA X [e] (rdA X.K cm W ga)) (hs : starEach [e] X.env = [(false, eval e X.env)] := by rfl) :
    PI X (.Tuple elts kk tpos) (.Call (.Name "enumerate" p) [e] [] pos) (rdI X.K cm W (dEnum ga)) := weakI (pi_enum hg hm ha hs) fun σ H R q => by
  obtain ⟨L, S, a, q⟩ := q
  refine ⟨L, S, a, (Aft.step (R := Reps X.K cm) q).mono fun v H1 z => ?_⟩
  obtain ⟨L1, S1, d, e1, x1, r1, q1⟩ := z
  split at q1
  · cases r1 with
    | cons r1 r2 =>
      cases r2
      unfold enumOf at q1
      split at q1
      · split at q1
        · rename_i hx
          obtain ⟨p1, vs1, rfl, g1, h1, rr⟩ := x1.lst r1 hx
          exact ⟨_, _, rfl, SqL.of h1, q1.give x1 (walk_enum0 g1)⟩
        · exact q1.elim
      · exact q1.elim
  · exact q1.elim
theorem i_enumS {elts : List Expr} {kk : Nat} {kws : List Keyword} (hg : Gl X "enumerate") (hm : X.mg "enumerate" = none) (ha : PA X [e] (rdA X.K cm W ga)) (hk : PK X kws (rdA X.K cm W gz))
    (he : backTo pos (starEach [e] X.env) = (false, eval e X.env) :: backTo pos (starEach [] X.env) := by rfl) (hpl : (backTo pos (starEach [e] X.env)).any (·.1) = false := by rfl)
    (hall : (backToKw pos (keywordEach kws X.env)).all (·.1.isSome) = true := by rfl) (hnone : (backToKw pos (keywordEach kws X.env)).any (·.1.isNone) = false := by rfl) (hks : (backToKw pos (keywordEach kws X.env)).filterMap (·.1) = [Str.ofString "start"] := by rfl) :
    PI X (.Tuple elts kk tpos) (.Call (.Name "enumerate" p) [e] kws pos) (rdI X.K cm W (dEnumS ga gz)) := weakI (pi_enumS hg hm ha hk he hpl hall hnone hks) fun σ H R q => by
  obtain ⟨L, S, a, q⟩ := q
  refine ⟨L, S, a, (Aft.step (R := Reps X.K cm) q).mono fun v H1 z => ?_⟩
  obtain ⟨L1, S1, ds, e1, x1, r1, q1⟩ := z
  refine ⟨L1, S1, x1, (Aft.step (R := Reps X.K cm) q1).mono fun v H2 z => ?_⟩
  obtain ⟨L2, S2, ds2, e2, x2, r2, q2⟩ := z
  split at q2
  · cases r1 with
    | cons r1 r3 =>
      cases r3
      cases r2 with
      | cons r2 r4 =>
        cases r4
        cases r2
        split at q2
        · rename_i hk
          unfold enumOf at q2
          split at q2
          · split at q2
            · rename_i hx
              obtain ⟨p1, vs1, rfl, g1, h1, rr⟩ := x2.lst (r1.mono e2) hx
              exact ⟨_, _, _, rfl, rfl, by omega, by omega, SqL.of h1, q2.give x2 (walk_enumK g1)⟩
            · exact q2.elim
          · exact q2.elim
        · exact q2.elim
  · exact q2.elim
end

/-! ### 32. TABLE.get(x), a dict of the module -/
def dKGet (tbl : List (Str × D)) (a : DE) : DE := fun S => (a S).bind fun d S1 => match d with
  | .str x => .ok ((tbl.lookup x).getD .non) S1
  | _ => .stuck
def KVal (K : PySem.W.Frag) (cm : Str → Value) (r : Option Value) (e : Option D) : Prop := match r, e with
  | some u, some e => ∃ v, RelV v u ∧ ∀ L H, Rep K cm L H e v
  | none, none => True
  | _, _ => False
structure KTab (K : PySem.W.Frag) (w : World) (cm : Str → Value) (d : Addr) (tbl : List (Str × D)) : Prop where
  ex : ∃ es n, KDict K w d es n ∧ ∀ x, ∃ r, PySem.W.nsIn K d x = some r ∧ KVal K cm r (tbl.lookup x)
inductive KRows (K : PySem.W.Frag) (w : World) (cm : Str → Value) : List DictEntry → List (Str × D) → Prop
  | nil : KRows K w cm [] []
  | cons {x : Str} {t : Tok} {u : Value} {v : V} {e : D} {es : List DictEntry} {tbl : List (Str × D)} : RelV v u → (∀ L H, Rep K cm L H e v) → KRows K w cm es tbl → KRows K w cm (⟨PyData.keyHash w.params x, .str x t, u⟩ :: es) ((x, e) :: tbl)
section
variable {K : PySem.W.Frag} {w : World} {cm : Str → Value}
theorem KRows.lit : ∀ {es : List DictEntry} {tbl : List (Str × D)}, KRows K w cm es tbl → PySem.W.KeysLit w.params es
  | _, _, .nil => trivial
  | _, _, .cons _ _ r => ⟨⟨_, _, rfl, rfl⟩, r.lit⟩
theorem KRows.find : ∀ {es : List DictEntry} {tbl : List (Str × D)}, KRows K w cm es tbl → ∀ x : Str, KVal K cm ((es.find? (·.key.isStr x)).map (·.val)) (tbl.lookup x) ∧ es.any (·.refKey) = false
  | _, _, .nil, x => ⟨trivial, rfl⟩
  | _, _, .cons (x := y) (t := t) (u := u) (v := v) (e := e) (es := es) (tbl := tbl) hv hr r, x => by
    obtain ⟨h1, h2⟩ := r.find x
    refine ⟨?_, ?_⟩
    · rw [List.find?_cons, List.lookup_cons]
      show KVal K cm (Option.map _ (match y == x with | true => _ | false => _)) _
      by_cases h : y = x
      · subst h
        rw [beq_self_eq_true]
        exact ⟨v, hv, hr⟩
      · rw [show (y == x) = false from by simpa using h, show (x == y) = false from by simpa using Ne.symm h]
        exact h1
    · rw [List.any_cons, h2, Bool.or_false]
      rfl
theorem ktab_of {d : Addr} {es : List DictEntry} {n : Nat} {tbl : List (Str × D)} (h : K.lookup d = some ⟨.type "dict", none, .dict es.toArray n, #[]⟩) (low : (d == sysModules) = false) (r : KRows K w cm es tbl) : KTab K w cm d tbl := by
  refine ⟨es.toArray, n, ⟨h, by simpa using r.lit, low⟩, fun x => ?_⟩
  obtain ⟨h1, h2⟩ := r.find x
  refine ⟨_, ?_, h1⟩
  unfold PySem.W.nsIn
  rw [h]
  dsimp only
  cases z : es.find? (·.key.isStr x) with
  | some e => simp [z]
  | none => simp [z, h2]
end
section
variable {X : Cx} {cm : Str → Value} {W : WX} {e : Expr} {nm : Str} {p apos cpos : Pos} {fa : DE} {d : Addr} {tbl : List (Str × D)}
theorem e_kget (T : KTab X.K X.w cm d tbl) (hg : Gl X nm) (hm : X.mg nm = some (.ref d)) (he : PE X e (rdE X.K cm W fa)) (hdb : (nm == ("__debug__" : Str)) = false := by decide)
    (base : attributeBase (.Name nm p) "get" X.env (eval (.Name nm p) X.env) = eval (.Name nm p) X.env := by rfl)
    (few : ((backTo cpos (starEach [e] X.env)).all (fun x => !x.1) && (backToKw cpos (keywordEach [] X.env)).all (fun x => x.1.isSome)
      && decide (([e] : List Expr).length + ([] : List Keyword).length + (if ([] : List Keyword).isEmpty then 0 else 1) < 30)) = true := by rfl)
    (line : (apos.endLine == cpos.line) = true := by rfl) (trees : backTo cpos (starEach [e] X.env) = [(false, eval e X.env)] := by rfl) :
    PE X (.Call (.Attribute (.Name nm p) "get" apos) [e] [] cpos) (rdE X.K cm W (dKGet tbl fa)) := by
  obtain ⟨es, n, D, hl⟩ := T.ex
  refine ⟨fun pins s σ H Q I h => ?_⟩
  refine wpAny_Call_method base few line PySem.F.plainAttrs_dict PySem.F.slot_dict_get PySem.F.type_dict_get (ld_glob I hg hm ?_ hdb)
  refine ⟨kd_type D I, fun b z => by cases z; exact ⟨_, I.kIn _ _ D.at_, rfl⟩, ?_⟩
  rw [trees]
  obtain ⟨L, S, a, q⟩ := h
  refine Calls.callWith_builtin rfl (Calls.evalArgs_plain (Calls.spliced_cons (thn (he.run pins s σ H _ I ⟨L, S, a, Aft.step (R := Rep X.K cm) q⟩) fun iv s2 ⟨y, H2, I2, ry, z⟩ => Calls.spliced_nil ?_)))
  obtain ⟨L1, S1, dd, e1, x1, r1, q1⟩ := z
  split at q1
  · rename_i x
    cases r1
    obtain ⟨t, rfl⟩ := ry
    obtain ⟨r, hr, hv⟩ := hl x
    refine call_meetsIn PySem.F.slot_dict_get (kd_type D I2) PySem.F.entry_dict_get (PySem.F.args_dict_get_2 _ _) (meets_dict_get (strKind X.prog X.w) d (strKind_is X.prog X.w x t) D.low) ⟨_, PySem.W.mapOf_K (prog := X.prog) I2.kIn D.at_ D.lit, ?_⟩
    rw [PySem.W.find_K D.at_ hr]
    unfold KVal at hv
    split at hv
    · rename_i u e' he'
      obtain ⟨v, rv, rr⟩ := hv
      rw [he'] at q1
      exact ⟨v, H2, I2.tok _, rv, q1.give x1 (rr _ _)⟩
    · rename_i he'
      rw [he'] at q1
      exact ⟨.non, H2, I2.tok _, rfl, q1.give x1 .non⟩
    · exact hv.elim
  · exact q1.elim
end
end Den

namespace Den
open PySem L2

/-! ### 24. running plain functions -/
theorem runB_ret {n : Nat} {b : DSt} {ds : List D} {h : List Ob} {d : D} {S : DS} (e : b ⟨ds.map some ++ List.replicate (n - ds.length) none, h⟩ = .ok (.ret d) S) : runB n b ds h = .ok d ⟨[], S.h⟩ := by
  unfold runB; rw [e]
theorem runB_exc {n : Nat} {b : DSt} {ds : List D} {h : List Ob} {x : Xn} {S : DS} (e : b ⟨ds.map some ++ List.replicate (n - ds.length) none, h⟩ = .exc x S) : runB n b ds h = .exc x ⟨[], S.h⟩ := by
  unfold runB; rw [e]
/-- a for over values, with an invariant that each turn keeps -/
theorem forV_inv {g : DG} {b : DSt} {I : DS → Prop} : ∀ (xs : List D) (S : DS), I S → (∀ d ∈ xs, ∀ S, I S → ∃ S1, g d S = some S1 ∧ ∃ f S2, b S1 = .ok f S2 ∧ (f = .next ∨ f = .cont) ∧ I S2) → ∃ S', forV g b xs S = .ok .next S' ∧ I S'
  | [], S, i, _ => ⟨S, rfl, i⟩
  | d :: ds, S, i, h => by
    obtain ⟨S1, e1, f, S2, e2, hf, i2⟩ := h d (by simp) S i
    obtain ⟨S', e3, i3⟩ := forV_inv ds S2 i2 fun x hx => h x (List.mem_cons_of_mem _ hx)
    refine ⟨S', ?_, i3⟩
    unfold forV
    rw [e1]
    dsimp only
    rw [e2]
    rcases hf with rfl | rfl <;> exact e3
/-- a for over a list that stays as it is -/
theorem forO_inv {g : DG} {b : DSt} {I : Nat → DS → Prop} {it : List Ob → Nat → Option (Option D)} {xs : List D} (hh : ∀ i S, I i S → it S.h i = some xs[i]?) (step : ∀ i d S, xs[i]? = some d → I i S → ∃ S1, g d S = some S1 ∧ ∃ f S2, b S1 = .ok f S2 ∧ (f = .next ∨ f = .cont) ∧ I (i + 1) S2) :
    ∀ (k i : Nat) (S : DS), xs.length < i + k → i ≤ xs.length → I i S → ∃ S', forO it g b k i S = .ok .next S' ∧ I xs.length S'
  | 0, i, S, h, h2, _ => by omega
  | k + 1, i, S, h, h2, ii => by
    unfold forO
    rw [hh i S ii]
    cases e : xs[i]? with
    | none =>
      have : xs.length ≤ i := List.getElem?_eq_none_iff.mp e
      obtain rfl : i = xs.length := by omega
      exact ⟨S, rfl, ii⟩
    | some d =>
      obtain ⟨S1, e1, f, S2, e2, hf, i2⟩ := step i d S e ii
      have lt := (List.getElem?_eq_some_iff.mp e).1
      obtain ⟨S', e3, i3⟩ := forO_inv hh step k (i + 1) S2 (by omega) (by omega) i2
      refine ⟨S', ?_, i3⟩
      dsimp only
      rw [e1]
      dsimp only
      rw [e2]
      rcases hf with rfl | rfl <;> exact e3
/-! heaps -/
/-- h' has all that h has but at n and m -/
def Kp (n m : Nat) (h h' : List Ob) : Prop := ∀ (k : Nat) (ob : Ob), k ≠ n → k ≠ m → h[k]? = some ob → h'[k]? = some ob
def Kp0 (h h' : List Ob) : Prop := ∀ (k : Nat) (ob : Ob), h[k]? = some ob → h'[k]? = some ob
theorem Kp.refl (n m : Nat) (h : List Ob) : Kp n m h h := fun _ _ _ _ e => e
theorem Kp.trans {n m : Nat} {h h1 h2 : List Ob} (a : Kp n m h h1) (b : Kp n m h1 h2) : Kp n m h h2 := fun k ob x y e => b k ob x y (a k ob x y e)
theorem Kp0.refl (h : List Ob) : Kp0 h h := fun _ _ e => e
theorem Kp0.trans {h h1 h2 : List Ob} (a : Kp0 h h1) (b : Kp0 h1 h2) : Kp0 h h2 := fun k ob e => b k ob (a k ob e)
theorem Kp0.kp {h h1 : List Ob} (a : Kp0 h h1) (n m : Nat) : Kp n m h h1 := fun k ob _ _ e => a k ob e
theorem Kp0.app (h t : List Ob) : Kp0 h (h ++ t) := fun k ob e => by
  rw [List.getElem?_append_left (List.getElem?_eq_some_iff.mp e).1]; exact e
theorem lt_of_at {h : List Ob} {k : Nat} {ob : Ob} (e : h[k]? = some ob) : k < h.length := (List.getElem?_eq_some_iff.mp e).1
theorem at_new (h : List Ob) (ob : Ob) : (h ++ [ob])[h.length]? = some ob := by
  rw [List.getElem?_append_right (Nat.le_refl _)]; simp
theorem at_old {h t : List Ob} {k : Nat} {ob : Ob} (e : h[k]? = some ob) : (h ++ t)[k]? = some ob := Kp0.app h t k ob e
/-! data -/
theorem toPy_ints (h : List Ob) (n : Nat) : ∀ xs : List Int, (xs.map D.int).mapM (toPy h n) = some (xs.map PyData.int)
  | [] => rfl
  | x :: xs => by
    rw [List.map_cons, List.mapM_cons, toPy_ints h n xs]
    cases n <;> rfl
theorem toPy_strs (h : List Ob) (n : Nat) : ∀ xs : List Str, (xs.map D.str).mapM (toPy h n) = some (xs.map PyData.str)
  | [] => rfl
  | x :: xs => by
    rw [List.map_cons, List.mapM_cons, toPy_strs h n xs]
    cases n <;> rfl
theorem shaped_int (i : Int) : SeqAt.shaped (.int i) = true := rfl
theorem canLay_ints : ∀ xs : List Int, PyData.canLayAll0 (xs.map PyData.int) = true
  | [] => rfl
  | x :: xs => by
    show (true && PyData.canLayAll0 (xs.map PyData.int)) = true
    rw [canLay_ints xs]; rfl
theorem depth_ints : ∀ xs : List Int, PyData.depthAll (xs.map PyData.int) = 0
  | [] => rfl
  | x :: xs => by
    show max 0 (PyData.depthAll (xs.map PyData.int)) = 0
    rw [depth_ints xs]; rfl
theorem shaped_ints (xs : List Int) : SeqAt.shaped (.list (xs.map PyData.int)) = true := by
  unfold SeqAt.shaped
  show (PyData.canLayAll0 (xs.map PyData.int) && decide (PyData.depthAll (xs.map PyData.int) + 1 ≤ 64)) = true
  rw [canLay_ints, depth_ints]; rfl
/-- signs -/
def Good (x : Str) : Prop := ∀ c ∈ x.cps.toList, c < 256
theorem Good.shaped {x : Str} (g : Good x) : SeqAt.shaped (.str x) = true := by
  unfold SeqAt.shaped
  show (PyData.strOk x && decide (0 ≤ 64)) = true
  have : PyData.strOk x = true := by
    unfold PyData.strOk
    rw [Array.all_eq_true_iff_forall_mem]
    intro c hc
    have := g c (by simpa using hc)
    simp; omega
  rw [this]; rfl

/-- r comes to a value of which Q holds -/
def Ok {α : Type} (r : Res α) (Q : α → DS → Prop) : Prop := match r with
  | .ok a S => Q a S
  | _ => False
@[simp] theorem Ok_ok {α : Type} (a : α) (S : DS) (Q : α → DS → Prop) : Ok (.ok a S) Q ↔ Q a S := Iff.rfl
theorem Ok.ex {α : Type} {r : Res α} {Q : α → DS → Prop} (h : Ok r Q) : ∃ a S, r = .ok a S ∧ Q a S := by
  cases r with
  | ok a S => exact ⟨a, S, rfl, h⟩
  | exc e S => exact h.elim
  | stuck => exact h.elim
theorem ok_runB {n : Nat} {b : DSt} {ds : List D} {h : List Ob} {Q : D → DS → Prop} (e : Ok (b ⟨ds.map some ++ List.replicate (n - ds.length) none, h⟩) fun f S => match f with
    | .ret d => Q d ⟨[], S.h⟩
    | .next => Q .non ⟨[], S.h⟩
    | _ => False) : Ok (runB n b ds h) Q := by
  obtain ⟨f, S, e1, q⟩ := e.ex
  unfold runB
  rw [e1]
  cases f <;> first | exact q | exact q.elim
theorem ok_dyn {g : DG} {b : DSt} {K : Fl → DS → Res Fl} {Q : Fl → DS → Prop} {it : List Ob → Nat → Option (Option D)} {S : DS} (I : Nat → DS → Prop) (xs : List D) (hl : xs.length < 100000) (i0 : I 0 S) (hh : ∀ i S, I i S → it S.h i = some xs[i]?)
    (step : ∀ i d S, xs[i]? = some d → I i S → ∃ S1, g d S = some S1 ∧ Ok (b S1) fun f S2 => (f = .next ∨ f = .cont) ∧ I (i + 1) S2) (k : ∀ S', I xs.length S' → Ok (K .next S') Q) : Ok ((forO it g b 100000 0 S).bind K) Q := by
  obtain ⟨S', e, i'⟩ := forO_inv (g := g) (b := b) hh (fun i d S e ii => by
    obtain ⟨S1, e1, o⟩ := step i d S e ii
    obtain ⟨f, S2, e2, hf, i2⟩ := o.ex
    exact ⟨S1, e1, f, S2, e2, hf, i2⟩) 100000 0 S (by omega) (Nat.zero_le _) i0
  rw [e]
  exact k S' i'
theorem lstIt_of {h : List Ob} {n : Nat} {xs : List D} (e : h[n]? = some (.lst xs)) (i : Nat) : lstIt n h i = some xs[i]? := by
  unfold lstIt; rw [e]
theorem ok_forO {g : DG} {b : DSt} {K : Fl → DS → Res Fl} {Q : Fl → DS → Prop} {n : Nat} {S : DS} (I : Nat → DS → Prop) (xs : List D) (hl : xs.length < 100000) (i0 : I 0 S) (hh : ∀ i S, I i S → S.h[n]? = some (.lst xs))
    (step : ∀ i d S, xs[i]? = some d → I i S → ∃ S1, g d S = some S1 ∧ Ok (b S1) fun f S2 => (f = .next ∨ f = .cont) ∧ I (i + 1) S2) (k : ∀ S', I xs.length S' → Ok (K .next S') Q) : Ok ((forO (lstIt n) g b 100000 0 S).bind K) Q := ok_dyn I xs hl i0 (fun i S ii => lstIt_of (hh i S ii) i) step k
theorem ok_forV {g : DG} {b : DSt} {K : Fl → DS → Res Fl} {Q : Fl → DS → Prop} {S : DS} {xs : List D} (I : DS → Prop) (i0 : I S) (step : ∀ d ∈ xs, ∀ S, I S → ∃ S1, g d S = some S1 ∧ Ok (b S1) fun f S2 => (f = .next ∨ f = .cont) ∧ I S2)
    (k : ∀ S', I S' → Ok (K .next S') Q) : Ok ((forV g b xs S).bind K) Q := by
  obtain ⟨S', e, i'⟩ := forV_inv (g := g) (b := b) xs S i0 fun d hd S ii => by
    obtain ⟨S1, e1, o⟩ := step d hd S ii
    obtain ⟨f, S2, e2, hf, i2⟩ := o.ex
    exact ⟨S1, e1, f, S2, e2, hf, i2⟩
  rw [e]
  exact k S' i'
/-! rules of reckoning -/
@[simp] theorem mxL_eq : mxL = 1000000 := rfl
section
variable {S : DS} {i j : Int} {x y : Str} {n m : Nat}
@[simp] theorem z_seq (a b : DSt) (S : DS) : sSeq a b S = (a S).bind fun f S1 => match f with
  | .next => b S1
  | f => .ok f S1 := rfl
@[simp] theorem z_if (t : DT) (a b : DSt) (S : DS) : sIf t a b S = (t S).bind fun c S1 => if c then a S1 else b S1 := rfl
@[simp] theorem z_ret (e : DE) (S : DS) : sRet e S = (e S).bind fun d S1 => .ok (.ret d) S1 := rfl
@[simp] theorem z_expr (e : DE) (S : DS) : sExpr e S = (e S).bind fun _ S1 => .ok .next S1 := rfl
@[simp] theorem z_nop (S : DS) : sNop S = .ok .next S := rfl
@[simp] theorem z_asg (e : DE) (i : Nat) (S : DS) : sAsg e (gN i) S = (e S).bind fun d S1 => .ok .next { S1 with loc := S1.loc.set i (some d) } := rfl
@[simp] theorem z_par (i j : Nat) (a : DA) (S : DS) : sPar i j a S = (a S).bind fun ds S1 => match ds with
  | [d, e] => .ok .next { S1 with loc := (S1.loc.set i (some d)).set j (some e) }
  | _ => .stuck := rfl
@[simp] theorem z_put (v o i : DE) (S : DS) : sPut v o i S = (v S).bind fun d S1 => (o S1).bind fun x S2 => (i S2).bind fun k S3 => match oPut x k d S3 with
  | some S4 => .ok .next S4
  | none => .stuck := rfl
@[simp] theorem z_tV (a : DE) (S : DS) : tV a S = (a S).bind toB := rfl
@[simp] theorem z_toB (b : Bool) (S : DS) : toB (.bl b) S = .ok b S := rfl
@[simp] theorem z_tAnd (a b : DT) (S : DS) : tAndD a b S = (a S).bind fun c S1 => if c then b S1 else .ok false S1 := rfl
@[simp] theorem z_tOr (a b : DT) (S : DS) : tOrD a b S = (a S).bind fun c S1 => if c then .ok true S1 else b S1 := rfl
@[simp] theorem z_tNot (a : DT) (S : DS) : tNotD a S = (a S).bind fun c S1 => .ok (!c) S1 := rfl
@[simp] theorem z_dAnd (a b : DE) (S : DS) : dAnd a b S = (a S).bind fun d S1 => (toB d S1).bind fun c S2 => if c then b S2 else .ok (.bl false) S2 := rfl
@[simp] theorem z_dOr (a b : DE) (S : DS) : dOr a b S = (a S).bind fun d S1 => (toB d S1).bind fun c S2 => if c then .ok (.bl true) S2 else b S2 := rfl
@[simp] theorem z_dIf (t : DT) (a b : DE) (S : DS) : dIf t a b S = (t S).bind fun c S1 => if c then a S1 else b S1 := rfl
@[simp] theorem z_bin (f : D → D → DS → Res D) (a b : DE) (S : DS) : dBin f a b S = (a S).bind fun x S1 => (b S1).bind fun y S2 => f x y S2 := rfl
@[simp] theorem z_var (i : Nat) (S : DS) : dVar i S = match S.loc[i]? with
  | some (some d) => .ok d S
  | _ => .stuck := rfl
@[simp] theorem z_c (d : D) (S : DS) : dC d S = .ok d S := rfl
@[simp] theorem z_nil (S : DS) : dNil S = .ok [] S := rfl
@[simp] theorem z_cons (a : DE) (r : DA) (S : DS) : dCons a r S = (a S).bind fun d S1 => (r S1).bind fun ds S2 => .ok (d :: ds) S2 := rfl
@[simp] theorem z_tup (a : DA) (S : DS) : dTup a S = (a S).bind fun ds S1 => if ds.length ≤ mxL then .ok (.tup ds) S1 else .stuck := rfl
@[simp] theorem z_lst (a : DA) (S : DS) : dLst a S = (a S).bind fun ds S1 => if ds.length ≤ mxL then newO (.lst ds) S1 else .stuck := rfl
@[simp] theorem z_cb (f : List D → DS → Res D) (a : DA) (S : DS) : dCB f a S = (a S).bind fun ds S1 => f ds S1 := rfl
@[simp] theorem z_call (F : Fn) (a : DA) (S : DS) : dCall F a S = (a S).bind fun ds S1 => match F ds S1.h with
  | .ok d S2 => .ok d ⟨S1.loc, S2.h⟩
  | .exc e S2 => .exc e ⟨S1.loc, S2.h⟩
  | .stuck => .stuck := rfl
@[simp] theorem z_callK (F : Fn) (p : List Nat) (a z : DA) (S : DS) : dCallK F p a z S = (a S).bind fun ds S1 => (z S1).bind fun es S2 => match F (pick p (ds ++ es)) S2.h with
  | .ok d S3 => .ok d ⟨S2.loc, S3.h⟩
  | .exc e S3 => .exc e ⟨S2.loc, S3.h⟩
  | .stuck => .stuck := rfl
@[simp] theorem z_mtL (f : D → List D → DS → Res D) (o : DE) (a : DA) (S : DS) : dMtL f o a S = (o S).bind fun x S1 => if isLst S1 x then (a S1).bind fun ds S2 => f x ds S2 else .stuck := rfl
@[simp] theorem z_mtS (f : D → List D → DS → Res D) (o : DE) (a : DE) (S : DS) : dMtS f o a S = (o S).bind fun x S1 => if isStr x then (a S1).bind fun d S2 => f x [d] S2 else .stuck := rfl
@[simp] theorem z_isStr (x : Str) : isStr (.str x) = true := rfl
@[simp] theorem z_isLst (S : DS) (n : Nat) : isLst S (.ref n) = match S.h[n]? with
  | some (.lst _) => true
  | _ => false := rfl
@[simp] theorem z_sl (a : DE) (lo hi : DS → Res (Option Int)) (S : DS) : dSl a lo hi S = (a S).bind fun x S1 => (lo S1).bind fun l S2 => (hi S2).bind fun u S3 => oSl x l u S3 := rfl
@[simp] theorem z_pn (S : DS) : dPN S = .ok none S := rfl
@[simp] theorem z_ps (a : DE) (S : DS) : dPS a S = (a S).bind fun d S1 => match d with
  | .int i => .ok (some i) S1
  | _ => .stuck := rfl
@[simp] theorem z_rev (a : DE) (S : DS) : dRev a S = (a S).bind oRev := rfl
@[simp] theorem z_newO (ob : Ob) (S : DS) : newO ob S = .ok (.ref S.h.length) { S with h := S.h ++ [ob] } := rfl
@[simp] theorem z_new0 (S : DS) : dNew0 S = .ok (.ref S.h.length) { S with h := S.h ++ [.dct []] } := rfl
@[simp] theorem z_add : oAdd (.int i) (.int j) S = .ok (.int (i + j)) S := rfl
@[simp] theorem z_addS : oAdd (.str x) (.str y) S = if x.length + y.length ≤ mxL then .ok (.str (x ++ y)) S else .stuck := rfl
@[simp] theorem z_addT (a b : List D) : oAdd (.tup a) (.tup b) S = if a.length + b.length ≤ mxL then .ok (.tup (a ++ b)) S else .stuck := rfl
@[simp] theorem z_addL : oAdd (.ref n) (.ref m) S = match S.h[n]?, S.h[m]? with
  | some (.lst a), some (.lst b) => if a.length + b.length ≤ mxL then newO (.lst (a ++ b)) S else .stuck
  | _, _ => .stuck := rfl
@[simp] theorem z_sub : oSub (.int i) (.int j) S = .ok (.int (i - j)) S := rfl
@[simp] theorem z_mul : oMulA (.int i) (.int j) S = if (-(2 ^ 64) < i ∧ i < 2 ^ 64) ∨ (-(2 ^ 64) < j ∧ j < 2 ^ 64) then .ok (.int (i * j)) S else .stuck := rfl
@[simp] theorem z_mulS : oMulA (.str x) (.int j) S = if -1000000 ≤ j ∧ j ≤ 1000000 ∧ x.length * j.toNat ≤ mxL ∧ (repS x j).length ≤ mxL then .ok (.str (repS x j)) S else .stuck := rfl
@[simp] theorem z_mod : oMod (.int i) (.int j) S = if 0 < j then .ok (.int (i % j)) S else .stuck := rfl
@[simp] theorem z_div : oDiv (.int i) (.int j) S = if 0 < j ∧ j < 1073741824 then .ok (.int (i / j)) S else .stuck := rfl
@[simp] theorem z_pow : oPow (.int i) (.int j) S = if 0 ≤ j ∧ j ≤ 1000 ∧ i.natAbs < 2 ^ 64 then .ok (.int (i ^ j.toNat)) S else .stuck := rfl
@[simp] theorem z_lt : oLt (.int i) (.int j) S = .ok (.bl (decide (i < j))) S := rfl
@[simp] theorem z_le : oLe (.int i) (.int j) S = .ok (.bl (decide (i ≤ j))) S := rfl
@[simp] theorem z_gt : oGt (.int i) (.int j) S = .ok (.bl (decide (j < i))) S := rfl
@[simp] theorem z_ge : oGe (.int i) (.int j) S = .ok (.bl (decide (j ≤ i))) S := rfl
@[simp] theorem z_isn (d : D) : oIsN d .non S = .ok (.bl (isNon d)) S := rfl
@[simp] theorem z_notn (d : D) : oNotN d .non S = .ok (.bl (!isNon d)) S := rfl
@[simp] theorem z_eqI : oEq (.int i) (.int j) S = .ok (.bl (i == j)) S := rfl
@[simp] theorem z_neI : oNe (.int i) (.int j) S = .ok (.bl (!(i == j))) S := rfl
@[simp] theorem z_ixR (k : Str) : oIx (.ref n) (.str k) S = match S.h[n]? with
  | some (.dct kvs) => match valD kvs (.inr k) with
    | some d => .ok d S
    | none => .stuck
  | some (.fdct kvs) => match valD kvs (.inr k) with
    | some d => .ok d S
    | none => .stuck
  | _ => .stuck := by
  show (match S.h[n]?, D.str k with
    | some (.lst xs), .int i => match atI xs i with
      | some d => Res.ok d S
      | none => .stuck
    | some (.dct kvs), y => match keyOf y with
      | some k => match valD kvs k with
        | some d => .ok d S
        | none => .stuck
      | none => .stuck
    | some (.fdct kvs), y => match keyOf y with
      | some k => match valD kvs k with
        | some d => .ok d S
        | none => .stuck
      | none => .stuck
    | _, _ => .stuck) = _
  cases S.h[n]? with
  | none => rfl
  | some ob => cases ob <;> rfl
@[simp] theorem z_ixT (xs : List D) : oIx (.tup xs) (.int i) S = match atI xs i with
  | some d => .ok d S
  | none => .stuck := rfl
@[simp] theorem z_putD (k : Str) (d : D) : oPut (.ref n) (.str k) d S = match S.h[n]? with
  | some (.dct kvs) => if kvs.length < mxL then some { S with h := S.h.set n (.dct (putD kvs (.inr k) d)) } else none
  | _ => none := by
  unfold oPut
  dsimp only
  cases S.h[n]? with
  | none => rfl
  | some ob => cases ob <;> rfl
@[simp] theorem z_lenS : cLen [.str x] S = if x.length ≤ mxL then .ok (.int x.length) S else .stuck := rfl
@[simp] theorem z_lenT (xs : List D) : cLen [.tup xs] S = .ok (.int xs.length) S := rfl
@[simp] theorem z_lenR : cLen [.ref n] S = match S.h[n]? with
  | some (.lst xs) => .ok (.int xs.length) S
  | some (.dct kvs) => .ok (.int kvs.length) S
  | _ => .stuck := rfl
@[simp] theorem z_intI : cInt [.int i] S = .ok (.int i) S := rfl
@[simp] theorem z_intB (b : Bool) : cInt [.bl b] S = .ok (.int (if b then 1 else 0)) S := rfl
@[simp] theorem z_abs : cAbs [.int i] S = .ok (.int (if i < 0 then -i else i)) S := rfl
@[simp] theorem z_slS (lo hi : Option Int) : oSl (.str x) lo hi S = if x.length ≤ mxL then .ok (.str (cutS x lo hi)) S else .stuck := rfl
@[simp] theorem z_slT (xs : List D) (lo hi : Option Int) : oSl (.tup xs) lo hi S = .ok (.tup (cutD xs lo hi)) S := rfl
@[simp] theorem z_slR (xs : List D) (lo hi : Option Int) : oSl (.ro xs) lo hi S = newO (.lst (cutD xs lo hi)) S := rfl
@[simp] theorem z_slL (lo hi : Option Int) : oSl (.ref n) lo hi S = match S.h[n]? with
  | some (.lst xs) => newO (.lst (cutD xs lo hi)) S
  | _ => .stuck := rfl
@[simp] theorem z_pop : mPop (.ref n) [] S = match S.h[n]? with
  | some (.lst xs) => match xs[xs.length - 1]? with
    | some d => .ok d { S with h := S.h.set n (.lst xs.dropLast) }
    | none => .stuck
  | _ => .stuck := rfl
@[simp] theorem z_append (d : D) : mAppend (.ref n) [d] S = match S.h[n]? with
  | some (.lst xs) => if xs.length < mxL then .ok .non { S with h := S.h.set n (.lst (xs ++ [d])) } else .stuck
  | _ => .stuck := rfl
@[simp] theorem z_split : mSplit (.str x) [.str y] S = if y.length ≠ 0 ∧ x.length + 2 ≤ mxL then newO (.lst ((Txt.split x y).map .str)) S else .stuck := rfl
end
end Den

namespace Den
open PySem L2

/-! ### 25. texts -/
def goodB (x : Str) : Bool := x.cps.toList.all (fun c => decide (c < 256))
theorem good_of {x : Str} (h : goodB x = true) : Good x := fun c hc => of_decide_eq_true (List.all_eq_true.mp h c hc)
theorem sig_app (x y : Str) : (x ++ y).cps.toList = x.cps.toList ++ y.cps.toList := TL.tl_append x y
theorem Good.app {x y : Str} (a : Good x) (b : Good y) : Good (x ++ y) := fun c hc => by
  rw [sig_app] at hc
  rcases List.mem_append.mp hc with h | h
  · exact a c h
  · exact b c h
theorem Good.left {x y : Str} (a : Good (x ++ y)) : Good x := fun c hc => a c (by rw [sig_app]; exact List.mem_append.mpr (.inl hc))
theorem Good.right {x y : Str} (a : Good (x ++ y)) : Good y := fun c hc => a c (by rw [sig_app]; exact List.mem_append.mpr (.inr hc))
theorem Good.cut {x : Str} (a : Good x) (lo hi : Option Int) : Good (cutS x lo hi) := fun c hc => a c (by
  unfold cutS at hc
  exact List.mem_of_mem_drop (List.mem_of_mem_take hc))
theorem Good.rev {x : Str} (a : Good x) : Good (revS x) := fun c hc => a c (by
  unfold revS at hc
  simpa using hc)
theorem len_app (x y : Str) : (x ++ y).length = x.length + y.length := by
  show (x.cps ++ y.cps).size = _
  rw [Array.size_append]; rfl
theorem len_cut (x : Str) (lo hi : Option Int) : (cutS x lo hi).length ≤ x.length := by
  unfold cutS
  show (List.toArray _).size ≤ x.cps.size
  rw [List.size_toArray, List.length_take, List.length_drop, Array.length_toList]
  omega
theorem good_join {y : Str} (gy : Good y) : ∀ {ps : List Str}, (∀ p ∈ ps, Good p) → Good (Str.join y ps)
  | [], _ => fun c hc => by cases hc
  | [p], h => h p (by simp)
  | p :: q :: r, h => ((h p (by simp)).app gy).app (good_join gy fun z hz => h z (List.mem_cons_of_mem _ hz))
theorem good_parts {y : Str} : ∀ {ps : List Str}, Good (Str.join y ps) → ∀ p ∈ ps, Good p
  | [], _ => fun _ hp => by cases hp
  | [p], h => fun z hz => by rw [List.mem_singleton.mp hz]; exact h
  | p :: q :: r, h => fun z hz => by
    have h' : Good (p ++ y ++ Str.join y (q :: r)) := h
    rcases List.mem_cons.mp hz with rfl | hz
    · exact h'.left.left
    · exact good_parts h'.right z hz
theorem good_split {x y : Str} (g : Good x) : ∀ p ∈ Txt.split x y, Good p := good_parts (by rw [StrLaws.join_split]; exact g)
def lenS (ps : List Str) : Nat := (ps.map (·.length)).sum
theorem len_join (y : Str) : ∀ {ps : List Str}, ps ≠ [] → (Str.join y ps).length + y.length = lenS ps + ps.length * y.length
  | [], h => absurd rfl h
  | [p], _ => by
    show p.length + y.length = p.length + 0 + 1 * y.length
    omega
  | p :: q :: r, _ => by
    show (p ++ y ++ Str.join y (q :: r)).length + y.length = p.length + lenS (q :: r) + (r.length + 1 + 1) * y.length
    rw [len_app, len_app, Nat.add_assoc (p.length + y.length), len_join y (ps := q :: r) (by simp)]
    rw [Nat.add_mul (r.length + 1) 1, Nat.one_mul]
    show _ + (lenS (q :: r) + (r.length + 1) * y.length) = _
    omega
theorem split_ne (x y : Str) : Txt.split x y ≠ [] ∨ x.length = 0 := by
  by_cases h : Txt.split x y = []
  · refine .inr ?_
    have := StrLaws.join_split x y
    rw [h] at this
    rw [← this]; rfl
  · exact .inl h
theorem split_len (x y : Str) : lenS (Txt.split x y) + (Txt.split x y).length * y.length ≤ x.length + y.length := by
  rcases split_ne x y with h | h
  · rw [← len_join y h, StrLaws.join_split]; exact Nat.le_refl _
  · by_cases h2 : Txt.split x y = []
    · rw [h2]; show 0 + 0 * _ ≤ _; omega
    · rw [← len_join y h2, StrLaws.join_split]; exact Nat.le_refl _
theorem lenS_rev (ps : List Str) : lenS ps.reverse = lenS ps := by
  unfold lenS
  rw [List.map_reverse, List.sum_reverse]
theorem strsOf_map : ∀ ps : List Str, strsOf (ps.map D.str) = some ps
  | [] => rfl
  | p :: ps => by
    show (strsOf (ps.map D.str)).map (fun ys => p :: ys) = _
    rw [strsOf_map ps]; rfl
theorem join_len (y : Str) (ps : List Str) : (Str.join y ps).length ≤ lenS ps + ps.length * y.length := by
  by_cases h : ps = []
  · subst h; exact Nat.zero_le _
  · have := len_join y h; omega
theorem tjoin (y : Str) (ps : List Str) : Txt.join y ps = Str.join y ps := TL.join_eq y ps
theorem joinOk_of {y : Str} {ps : List Str} (h : lenS ps + ps.length * y.length ≤ 1000000) : joinOk y ps = true := decide_eq_true h
/-- places -/
theorem atI_nat {α : Type} {xs : List α} {r : Int} (h0 : 0 ≤ r) (h1 : r < xs.length) : ∃ d, atI xs r = some d ∧ d ∈ xs := by
  unfold atI ixN
  rw [if_pos h0, if_pos h1]
  have : r.toNat < xs.length := by omega
  exact ⟨xs[r.toNat], by simp [this], List.getElem_mem this⟩
theorem ix_lst {S : DS} {n : Nat} {xs : List D} {r : Int} {d : D} (h : S.h[n]? = some (.lst xs)) (e : atI xs r = some d) : oIx (.ref n) (.int r) S = .ok d S := by
  show (match S.h[n]?, D.int r with
    | some (.lst xs), .int i => match atI xs i with
      | some d => Res.ok d S
      | none => .stuck
    | some (.dct kvs), y => match keyOf y with
      | some k => match valD kvs k with
        | some d => .ok d S
        | none => .stuck
      | none => .stuck
    | some (.fdct kvs), y => match keyOf y with
      | some k => match valD kvs k with
        | some d => .ok d S
        | none => .stuck
      | none => .stuck
    | _, _ => .stuck) = _
  rw [h]
  dsimp only
  rw [e]
@[simp] theorem z_pyS (S : DS) (x : Str) : pyD S (.str x) = some (.str x) := rfl
@[simp] theorem z_pyI (S : DS) (i : Int) : pyD S (.int i) = some (.int i) := rfl
theorem ne_str {S : DS} {x y : Str} (gx : SeqAt.shaped (.str x) = true) (gy : SeqAt.shaped (.str y) = true) : oNe (.str x) (.str y) S = .ok (.bl (!(x == y))) S := by
  unfold oNe
  rw [z_pyS, z_pyS]
  dsimp only
  rw [if_pos (by rw [gx, gy]; rfl)]
  rfl
theorem eq_str {S : DS} {x y : Str} (gx : SeqAt.shaped (.str x) = true) (gy : SeqAt.shaped (.str y) = true) : oEq (.str x) (.str y) S = .ok (.bl (x == y)) S := by
  unfold oEq
  rw [z_pyS, z_pyS]
  dsimp only
  rw [if_pos (by rw [gx, gy]; rfl)]
  rfl
/-- repr of a value whose data are known -/
theorem repr_of {S : DS} {d : D} {p : PyData} (h : pyD S d = some p) (ok : (PyData.showable p && !p.hasDict && decide (p.depth ≤ 30) && decide (p.shown.length ≤ 1000000)) = true) : cRepr [d] S = .ok (.str p.shown) S := by
  unfold cRepr
  dsimp only
  rw [h]
  dsimp only
  rw [mxL_eq, if_pos ok]
section
variable {S : DS} {x y : Str} {n : Nat}
@[simp] theorem z_revS : oRev (.str x) S = if x.length ≤ mxL then .ok (.str (revS x)) S else .stuck := rfl
@[simp] theorem z_revL : oRev (.ref n) S = match S.h[n]? with
  | some (.lst xs) => newO (.lst xs.reverse) S
  | _ => .stuck := rfl
@[simp] theorem z_joinR : mJoin (.str x) [.ref n] S = match S.h[n]? with
  | some (.lst xs) => match strsOf xs with
    | some ys => if joinOk x ys then .ok (.str (Txt.join x ys)) S else .stuck
    | none => .stuck
  | _ => .stuck := rfl
@[simp] theorem z_joinT (xs : List D) : mJoin (.str x) [.tup xs] S = match strsOf xs with
  | some ys => if joinOk x ys then .ok (.str (Txt.join x ys)) S else .stuck
  | none => .stuck := rfl
@[simp] theorem z_tupT (xs : List D) : cTuple [.tup xs] S = .ok (.tup xs) S := rfl
@[simp] theorem z_tupO (xs : List D) : cTuple [.ro xs] S = .ok (.tup xs) S := rfl
@[simp] theorem z_tupR : cTuple [.ref n] S = match S.h[n]? with
  | some (.lst xs) => .ok (.tup xs) S
  | _ => .stuck := rfl
@[simp] theorem z_listR : cList [.ref n] S = match S.h[n]? with
  | some (.lst xs) => newO (.lst xs) S
  | some (.dct kvs) => newO (.lst (kvs.map fun kv => keyD kv.1)) S
  | _ => .stuck := rfl
@[simp] theorem z_listT (xs : List D) : cList [.tup xs] S = newO (.lst xs) S := rfl
@[simp] theorem z_isi (d : D) (t : String) : cIsi [d, .ty t] S = match tyName S d with
  | some m => match isaB m t with
    | some b => .ok (.bl b) S
    | none => .stuck
  | none => .stuck := rfl
@[simp] theorem z_tyS : tyName S (.str x) = some "str" := rfl
@[simp] theorem z_tyI (i : Int) : tyName S (.int i) = some "int" := rfl
@[simp] theorem z_tyB (b : Bool) : tyName S (.bl b) = some "bool" := rfl
@[simp] theorem z_tyN : tyName S .non = some "NoneType" := rfl
@[simp] theorem z_tyT (xs : List D) : tyName S (.tup xs) = some "tuple" := rfl
@[simp] theorem z_tyR : tyName S (.ref n) = match S.h[n]? with
  | some (.lst _) => some "list"
  | some (.dct _) => some "dict"
  | some (.fdct _) => some "dict"
  | none => none := rfl
@[simp] theorem z_raise1 (cls f : Str) (a : DA) (S : DS) : sRaise1 cls f a S = (a S).bind fun ds S1 => match ds with
  | [d] => .exc ⟨cls, [(f, d)]⟩ S1
  | _ => .stuck := rfl
@[simp] theorem z_raise0 (cls : Str) (S : DS) : sRaise0 cls S = .exc ⟨cls, []⟩ S := rfl
end
theorem ok_sForK {i n : Nat} {g : DG} {b : DSt} {K : Fl → DS → Res Fl} {Q : Fl → DS → Prop} {S : DS} {kvs : List (Key × D)} (I : DS → Prop) (hi : S.loc[i]? = some (some (.ref n))) (hn : S.h[n]? = some (.dct kvs)) (i0 : I { S with h := S.h.set n (.fdct kvs) })
    (step : ∀ d ∈ kvs.map (fun kv => keyD kv.1), ∀ S, I S → ∃ S1, g d S = some S1 ∧ Ok (b S1) fun f S2 => (f = .next ∨ f = .cont) ∧ I S2) (hI : ∀ S, I S → ∃ k2, S.h[n]? = some (.fdct k2)) (k : ∀ S', I S' → Ok (K .next { S' with h := S'.h.set n (.dct kvs) }) Q) :
    Ok ((sForK i g b S).bind K) Q := by
  obtain ⟨S', e, i'⟩ := forV_inv (g := g) (b := b) (kvs.map fun kv => keyD kv.1) _ i0 fun d hd S ii => by
    obtain ⟨S1, e1, o⟩ := step d hd S ii
    obtain ⟨f, S2, e2, hf, i2⟩ := o.ex
    exact ⟨S1, e1, f, S2, e2, hf, i2⟩
  obtain ⟨k2, h2⟩ := hI S' i'
  unfold sForK
  rw [hi]
  dsimp only
  rw [hn]
  dsimp only
  rw [e]
  dsimp only
  rw [h2]
  exact k S' i'
theorem ok_sForV {it : DS → Res Iter0} {g : DG} {b : DSt} {K : Fl → DS → Res Fl} {Q : Fl → DS → Prop} {S S0 : DS} {xs : List D} (hi : it S = .ok (.vals xs) S0) (I : DS → Prop) (i0 : I S0) (step : ∀ d ∈ xs, ∀ S, I S → ∃ S1, g d S = some S1 ∧ Ok (b S1) fun f S2 => (f = .next ∨ f = .cont) ∧ I S2)
    (k : ∀ S', I S' → Ok (K .next S') Q) : Ok ((sFor it g b S).bind K) Q := by
  unfold sFor
  rw [hi]
  exact ok_forV I i0 step k
theorem rng_one (j : Int) (h : -1000000 ≤ j ∧ j ≤ 1000000) (S : DS) : dRng (dCons (dC (.int j)) dNil) S = .ok (.vals (rgD 0 j.toNat)) S := by
  unfold dRng
  simp [h]
theorem mem_rgD {lo : Int} {n : Nat} {d : D} (h : d ∈ rgD lo n) : ∃ i : Int, d = .int i ∧ lo ≤ i ∧ i < lo + n := by
  unfold rgD at h
  obtain ⟨k, hk, rfl⟩ := List.mem_map.mp h
  have := List.mem_range.mp hk
  exact ⟨_, rfl, by omega, by omega⟩
end Den

namespace Den
open PySem L2

/-! ### 40. rules of reckoning, more -/
section
variable {S : DS} {i j : Int} {x y : Str} {n m : Nat}
@[simp] theorem z_tTr (a : DE) (S : DS) : tTr a S = (a S).bind toTru := rfl
@[simp] theorem z_truB (b : Bool) : toTru (.bl b) S = .ok b S := rfl
@[simp] theorem z_truN : toTru .non S = .ok false S := rfl
@[simp] theorem z_truI : toTru (.int i) S = .ok (i != 0) S := rfl
@[simp] theorem z_truT (xs : List D) : toTru (.tup xs) S = .ok (!xs.isEmpty) S := rfl
@[simp] theorem z_truR : toTru (.ref n) S = match S.h[n]? with
  | some (.lst xs) => .ok (!xs.isEmpty) S
  | some (.dct kvs) => .ok (!kvs.isEmpty) S
  | _ => .stuck := rfl
@[simp] theorem z_chain (f g : D → D → DS → Res D) (a b c : DE) (S : DS) : dChain f g a b c S = (a S).bind fun x S1 => (b S1).bind fun y S2 => (f x y S2).bind fun k S3 => (toB k S3).bind fun k S4 => if k then (c S4).bind fun z S5 => g y z S5 else .ok (.bl false) S4 := rfl
@[simp] theorem z_all : cAll [.ref n] S = match S.h[n]? with
  | some (.lst xs) => match blsOf xs with
    | some bs => .ok (.bl (bs.all id)) S
    | none => .stuck
  | _ => .stuck := rfl
@[simp] theorem z_strI : cStr [.int i] S = if i.natAbs.log2 < 1920 then .ok (.str (toString i)) S else .stuck := rfl
@[simp] theorem z_strS : cStr [.str x] S = .ok (.str x) S := rfl
@[simp] theorem z_intAI : cIntA [.int i] S = .ok (.int i) S := rfl
@[simp] theorem z_intAB (b : Bool) : cIntA [.bl b] S = .ok (.int (if b then 1 else 0)) S := rfl
@[simp] theorem z_intAS : cIntA [.str x] S = if x.length ≤ 640 then match PySem.intText? x with
    | some n => .ok (.int n) S
    | none => .stuck else .stuck := rfl
@[simp] theorem z_extend : mExtend (.ref n) [.ref m] S = match S.h[n]?, S.h[m]? with
  | some (.lst xs), some (.lst zs) => if xs.length + zs.length ≤ mxL then .ok .non { S with h := S.h.set n (.lst (xs ++ zs)) } else .stuck
  | _, _ => .stuck := rfl
@[simp] theorem z_ixI : oIx (.ref n) (.int i) S = match S.h[n]? with
  | some (.lst xs) => match atI xs i with
    | some d => .ok d S
    | none => .stuck
  | some (.dct kvs) => match valD kvs (.inl i) with
    | some d => .ok d S
    | none => .stuck
  | some (.fdct kvs) => match valD kvs (.inl i) with
    | some d => .ok d S
    | none => .stuck
  | none => .stuck := by
  unfold oIx
  dsimp only
  cases S.h[n]? with
  | none => rfl
  | some ob => cases ob <;> rfl
@[simp] theorem z_neg (a : DE) (S : DS) : dNeg a S = (a S).bind fun d S1 => match d with
  | .int i => .ok (.int (-i)) S1
  | _ => .stuck := rfl
@[simp] theorem z_kget (tbl : List (Str × D)) (a : DE) (S : DS) : dKGet tbl a S = (a S).bind fun d S1 => match d with
  | .str x => .ok ((tbl.lookup x).getD .non) S1
  | _ => .stuck := rfl
@[simp] theorem z_starts : mStarts (.str x) [.str y] S = .ok (.bl (Txt.startswith x y)) S := rfl
@[simp] theorem z_dNot (a : DE) (S : DS) : dNot a S = (a S).bind fun d S1 => (toB d S1).bind fun c S2 => .ok (.bl (!c)) S2 := rfl
@[simp] theorem z_tTrue (S : DS) : tTrue S = .ok true S := rfl
@[simp] theorem z_mulL : oMulA (.ref n) (.int j) S = match S.h[n]? with
  | some (.lst xs) => if -1000000 ≤ j ∧ j ≤ 1000000 ∧ xs.length * j.toNat ≤ mxL then newO (.lst (List.replicate j.toNat xs).flatten) S else .stuck
  | _ => .stuck := rfl
end
/-! data -/
theorem mapM_strs (S : DS) (us : List Str) : (us.map D.str).mapM (pyD S) = some (us.map PyData.str) := toPy_strs S.h 20 us
theorem canLay_strs : ∀ {us : List Str}, (∀ u ∈ us, Good u) → PyData.canLayAll0 (us.map PyData.str) = true
  | [], _ => rfl
  | u :: us, h => by
    show (PyData.canLay0 (.str u) && PyData.canLayAll0 (us.map PyData.str)) = true
    rw [SeqAt.canLay_of_shaped (h u (by simp)).shaped, canLay_strs fun v hv => h v (List.mem_cons_of_mem _ hv)]; rfl
theorem depth_strs : ∀ us : List Str, PyData.depthAll (us.map PyData.str) = 0
  | [] => rfl
  | u :: us => by
    show max 0 (PyData.depthAll (us.map PyData.str)) = 0
    rw [depth_strs us]; rfl
theorem shaped_strsT {us : List Str} (h : ∀ u ∈ us, Good u) : SeqAt.shaped (.tuple (us.map PyData.str)) = true := by
  unfold SeqAt.shaped
  show (PyData.canLayAll0 (us.map PyData.str) && decide (PyData.depthAll (us.map PyData.str) + 1 ≤ 64)) = true
  rw [canLay_strs h, depth_strs]; rfl
theorem shaped_strsL {us : List Str} (h : ∀ u ∈ us, Good u) : SeqAt.shaped (.list (us.map PyData.str)) = true := by
  unfold SeqAt.shaped
  show (PyData.canLayAll0 (us.map PyData.str) && decide (PyData.depthAll (us.map PyData.str) + 1 ≤ 64)) = true
  rw [canLay_strs h, depth_strs]; rfl
theorem any_strs (a : Str) : ∀ us : List Str, (us.map PyData.str).any (fun z => PyData.eqv z (.str a)) = us.any (fun u => u == a)
  | [] => rfl
  | u :: us => by
    rw [List.map_cons, List.any_cons, List.any_cons, any_strs a us]
    rfl
/-- a text among the texts of a tuple -/
theorem in_strs {S : DS} {a : Str} {us : List Str} (ga : Good a) (gu : ∀ u ∈ us, Good u) : inD (.str a) (.tup (us.map D.str)) S = some (us.any fun u => u == a) := by
  show (match pyD S (.str a), (us.map D.str).mapM (pyD S) with
    | some p, some ps => if SeqAt.shaped p && SeqAt.shaped (.tuple ps) then some (ps.any fun z => PyData.eqv z p) else none
    | _, _ => none) = _
  rw [mapM_strs, z_pyS]
  dsimp only
  rw [ga.shaped, shaped_strsT gu, if_pos (by rfl), any_strs]
theorem pyD_lst {S : DS} {n : Nat} {xs : List D} (h : S.h[n]? = some (.lst xs)) : pyD S (.ref n) = (xs.mapM (toPy S.h 19)).map PyData.list := by
  show (match S.h[n]? with | some (.lst xs) => (xs.mapM (toPy S.h 19)).map PyData.list | _ => none) = _
  rw [h]
/-- a list of texts, and the empty one -/
theorem ne_strs {S : DS} {n m : Nat} {us : List Str} (g : ∀ u ∈ us, Good u) (hn : S.h[n]? = some (.lst (us.map D.str))) (hm : S.h[m]? = some (.lst [])) : oNe (.ref n) (.ref m) S = .ok (.bl (!us.isEmpty)) S := by
  unfold oNe
  rw [pyD_lst hn, pyD_lst hm, toPy_strs]
  show (if SeqAt.shaped (.list (us.map PyData.str)) && SeqAt.shaped (.list []) then Res.ok (D.bl (!PyData.eqv (.list (us.map PyData.str)) (.list []))) S else .stuck) = _
  rw [shaped_strsL g, if_pos (by rfl)]
  cases us <;> rfl
/-! a comprehension whose turns change nothing -/
def PureT (g : DG) (t : DT) (e : DE) (f : D → Option D) (S : DS) (d : D) : Prop := ∃ S0, g d S = some S0 ∧ match f d with
  | none => Ok (t S0) fun c S1 => c = false ∧ S1.h = S.h
  | some y => Ok (t S0) fun c S1 => c = true ∧ Ok (e S1) fun z S2 => z = y ∧ S2.h = S.h
theorem compT_pure {g : DG} {t : DT} {e : DE} {f : D → Option D} {S : DS} {d : D} (p : PureT g t e f S d) {acc : List D} (hl : acc.length < 1000000) : ∃ S0 S1, g d S = some S0 ∧ S1.h = S.h ∧ compT t e S0 acc = .ok (acc ++ (f d).toList) S1 := by
  obtain ⟨S0, h1, h3⟩ := p
  unfold compT
  split at h3
  · rename_i hf
    obtain ⟨c, S1, e1, rfl, h2⟩ := h3.ex
    refine ⟨S0, S1, h1, h2, ?_⟩
    rw [e1, Res.only_ok, if_neg (by decide), hf]
    simp
  · rename_i y hf
    obtain ⟨c, S1, e1, rfl, h4⟩ := h3.ex
    obtain ⟨z, S2, e2, rfl, h2⟩ := h4.ex
    refine ⟨S0, S2, h1, h2, ?_⟩
    rw [e1, Res.only_ok, if_pos rfl, e2, Res.only_ok, mxL_eq, if_pos hl, hf]
    rfl
@[simp] theorem wipe0 (ls : List (Option D)) : wipeD ls [] = ls := rfl
@[simp] theorem wipe1 (ls : List (Option D)) (v : Nat) (vs : List Nat) : wipeD ls (v :: vs) = (wipeD ls vs).set v none := rfl
theorem compV_pure {g : DG} {t : DT} {e : DE} {w : List (Option D)} {h : List Ob} (f : D → Option D) : ∀ (xs acc : List D), acc.length + xs.length ≤ 1000000 → (∀ d ∈ xs, PureT g t e f ⟨w, h⟩ d) → compV g t e w xs acc h = .ok (acc ++ xs.filterMap f) ⟨w, h⟩
  | [], acc, _, _ => by
    unfold compV; simp
  | d :: ds, acc, hl, p => by
    simp only [List.length_cons] at hl
    obtain ⟨S0, S1, h1, h2, h3⟩ := compT_pure (p d (by simp)) (acc := acc) (by omega)
    unfold compV
    rw [h1]
    dsimp only
    rw [h3, Res.only_ok, show S1.h = h from h2]
    have hz : (f d).toList.length ≤ 1 := by cases f d <;> simp
    rw [compV_pure f ds (acc ++ (f d).toList) (by rw [List.length_append]; omega) fun z hz => p z (List.mem_cons_of_mem _ hz)]
    rw [List.filterMap_cons]
    cases f d <;> simp
theorem compO_pure {g : DG} {t : DT} {e : DE} {w : List (Option D)} {h : List Ob} {it : List Ob → Nat → Option (Option D)} {xs : List D} (f : D → Option D) (hx : ∀ i, it h i = some xs[i]?) : ∀ (k i : Nat) (acc : List D), xs.length < i + k → i ≤ xs.length → acc.length + (xs.length - i) ≤ 1000000 → (∀ d ∈ xs, PureT g t e f ⟨w, h⟩ d) →
    compO it g t e w k i acc h = .ok (acc ++ (xs.drop i).filterMap f) ⟨w, h⟩
  | 0, i, acc, h1, h2, _, _ => by omega
  | k + 1, i, acc, hk, hi, hl, p => by
    unfold compO
    rw [hx i]
    by_cases lt : i < xs.length
    · rw [List.getElem?_eq_getElem lt]
      dsimp only
      obtain ⟨S0, S1, h1, h2, h3⟩ := compT_pure (p xs[i] (List.getElem_mem lt)) (acc := acc) (by omega)
      rw [h1]
      dsimp only
      rw [h3, Res.only_ok, show S1.h = h from h2]
      have hz : (f xs[i]).toList.length ≤ 1 := by cases f xs[i] <;> simp
      rw [compO_pure f hx k (i + 1) (acc ++ (f xs[i]).toList) (by omega) (by omega) (by rw [List.length_append]; omega) p]
      rw [List.drop_eq_getElem_cons lt, List.filterMap_cons]
      cases f xs[i] <;> simp
    · have e0 : i = xs.length := by omega
      subst e0
      rw [List.getElem?_eq_none (Nat.le_refl _), List.drop_length]
      simp
/-- what it walks are xs -/
def Over (I : Iter0) (xs : List D) (h : List Ob) : Prop := match I with
  | .vals ys => ys = xs
  | .dyn f => ∀ i, f h i = some xs[i]?
theorem comp_pure {vs : List Nat} {it : DS → Res Iter0} {g : DG} {t : DT} {e : DE} {S S1 : DS} {I : Iter0} {xs : List D} (f : D → Option D) (hi : it S = .ok I S1) (ov : Over I xs S1.h) (hl : xs.length < 100000) (hp : ∀ d ∈ xs, PureT g t e f ⟨wipeD S1.loc vs, S1.h⟩ d) :
    dComp vs it g t e S = .ok (.ref S1.h.length) ⟨S1.loc, S1.h ++ [.lst (xs.filterMap f)]⟩ := by
  unfold dComp
  rw [hi, Res.bind_ok]
  cases I with
  | vals ys =>
    obtain rfl : ys = xs := ov
    dsimp only
    rw [compV_pure f ys [] (by simp; omega) hp]
    rfl
  | dyn it2 =>
    dsimp only
    rw [compO_pure f ov 100000 0 [] (by omega) (by omega) (by simp; omega) hp]
    simp
theorem over_lst {n : Nat} {xs : List D} {h : List Ob} (e : h[n]? = some (.lst xs)) : Over (.dyn (lstIt n)) xs h := fun i => lstIt_of e i
theorem iter_ref {a : DE} {S S1 : DS} {n : Nat} {xs : List D} (h : a S = .ok (.ref n) S1) (e : S1.h[n]? = some (.lst xs)) : dIter a S = .ok (.dyn (lstIt n)) S1 := by
  unfold dIter
  rw [h, Res.bind_ok]
  show (match S1.h[n]? with | some (.lst _) => Res.ok (Iter0.dyn (lstIt n)) S1 | _ => .stuck) = _
  rw [e]
theorem iter_tup {a : DE} {S S1 : DS} {xs : List D} (h : a S = .ok (.tup xs) S1) : dIter a S = .ok (.vals xs) S1 := by
  unfold dIter
  rw [h, Res.bind_ok]
  rfl
theorem iter_str {a : DE} {S S1 : DS} {x : Str} (h : a S = .ok (.str x) S1) : dIter a S = .ok (.vals (x.cps.toList.map fun c => .str ⟨#[c]⟩)) S1 := by
  unfold dIter
  rw [h, Res.bind_ok]
  rfl
theorem fm_some {α β : Type} (f : α → β) : ∀ xs : List α, xs.filterMap (fun x => some (f x)) = xs.map f
  | [] => rfl
  | x :: xs => by rw [List.filterMap_cons, List.map_cons, fm_some f xs]
@[simp] theorem at_app0 (h l : List Ob) : (h ++ l)[h.length]? = l[0]? := by
  rw [List.getElem?_append_right (Nat.le_refl _), Nat.sub_self]
@[simp] theorem at_appk (h l : List Ob) (k : Nat) : (h ++ l)[h.length + k]? = l[k]? := by
  rw [List.getElem?_append_right (Nat.le_add_right _ _), Nat.add_sub_cancel_left]
theorem cut_tl (x : D) (xs : List D) : Den.cutD (x :: xs) (some 1) none = xs := by
  have e : HT.sIx (x :: xs).length 0 (some 1) = 1 := by
    unfold HT.sIx
    simp
  unfold Den.cutD
  rw [e]
  show List.take ((x :: xs).length - 1) (List.drop 1 (x :: xs)) = xs
  simp
theorem iter_tail {i n : Nat} {S : DS} {x : D} {xs : List D} (h1 : S.loc[i]? = some (some (.ref n))) (h2 : S.h[n]? = some (.lst (x :: xs))) : dIter (dSl (dVar i) (dPS (dC (.int 1))) dPN) S = .ok (.dyn (lstIt S.h.length)) ⟨S.loc, S.h ++ [.lst xs]⟩ := by
  refine iter_ref (xs := xs) ?_ (at_new _ _)
  simp [h1, h2, z_slL, cut_tl]
theorem oIn_strs {S : DS} {a : Str} {us : List Str} (ga : Good a) (gu : ∀ u ∈ us, Good u) : oIn (.str a) (.tup (us.map D.str)) S = .ok (.bl (us.any fun u => u == a)) S := by
  unfold oIn; rw [in_strs ga gu]
theorem oNotIn_strs {S : DS} {a : Str} {us : List Str} (ga : Good a) (gu : ∀ u ∈ us, Good u) : oNotIn (.str a) (.tup (us.map D.str)) S = .ok (.bl (!us.any fun u => u == a)) S := by
  unfold oNotIn; rw [in_strs ga gu]
/-! texts -/
theorem one_of {c d : Nat} : ((⟨#[c]⟩ : Str) == ⟨#[d]⟩) = (c == d) := by
  by_cases h : c = d
  · subst h; simp
  · have : ((⟨#[c]⟩ : Str) == ⟨#[d]⟩) = false := by
      apply beq_false_of_ne
      intro z
      injection z with z
      simp at z
      exact h z
    rw [this]
    simp [h]
theorem starts_cut (x y : Str) : Txt.startswith x y = (cutS x none (some y.length) == y) := by
  unfold Txt.startswith
  rw [StrLaws.subAt_eq]
  have e : (cutS x none (some (y.length : Int))).cps.toList = x.cps.toList.take y.length := by
    unfold cutS HT.sIx
    simp only [List.drop_zero]
    rw [if_neg (by omega)]
    simp
    have e3 : x.length = x.cps.size := rfl
    omega
  have e2 : (cutS x none (some (y.length : Int)) == y) = (x.cps.toList.take y.length == y.cps.toList) := by
    rw [← e]
    by_cases h : cutS x none (some (y.length : Int)) = y
    · rw [h]; simp
    · rw [beq_false_of_ne h]
      symm
      apply beq_false_of_ne
      intro z
      apply h
      cases h1 : cutS x none (some (y.length : Int)) with
      | mk a =>
        cases y with
        | mk b =>
          rw [h1] at z
          simp at z
          rw [z]
  rw [e2, List.drop_zero]
  by_cases h : x.cps.toList.take y.length = y.cps.toList
  · have : y.length ≤ x.length := by
      have := congrArg List.length h
      simp at this
      show y.cps.size ≤ x.cps.size
      have e3 : y.length = y.cps.size := rfl
      omega
    simp [h, this]
  · simp [h]
theorem str0 {x : Str} (h : x.length = 0) : x = ⟨#[]⟩ := by
  cases x with
  | mk a =>
    have : a.size = 0 := h
    rw [Array.size_eq_zero_iff.mp this]
theorem split_some {x y : Str} (h0 : Txt.split ⟨#[]⟩ y ≠ []) : ∃ w ws, Txt.split x y = w :: ws := by
  rcases split_ne x y with h | h
  · match e : Txt.split x y, h with
    | w :: ws, _ => exact ⟨w, ws, rfl⟩
  · rw [str0 h]
    match e : Txt.split ⟨#[]⟩ y, h0 with
    | w :: ws, _ => exact ⟨w, ws, rfl⟩
theorem split_count {x y : Str} (hy : 1 ≤ y.length) : (Txt.split x y).length ≤ x.length + y.length := by
  have := split_len x y
  have h : (Txt.split x y).length * 1 ≤ (Txt.split x y).length * y.length := Nat.mul_le_mul_left _ hy
  omega
theorem le_lenS {p : Str} : ∀ {ps : List Str}, p ∈ ps → p.length ≤ lenS ps
  | q :: ps, h => by
    show p.length ≤ q.length + lenS ps
    rcases List.mem_cons.mp h with rfl | h
    · omega
    · have := le_lenS h; omega
theorem split_each {x y : Str} {p : Str} (h : p ∈ Txt.split x y) : p.length ≤ lenS (Txt.split x y) := by
  exact le_lenS h
end Den

namespace Den
open PySem L2

/-! ### 50. data whose repr is short -/
structure Sm (p : PyData) (n d : Nat) : Prop where
  s : PyData.showable p = true
  h : p.hasDict = false
  d : p.depth ≤ d
  l : p.shown.length ≤ n
  g : Good p.shown
def smB (p : PyData) (n d : Nat) : Bool := PyData.showable p && !p.hasDict && decide (p.depth ≤ d) && decide (p.shown.length ≤ n) && goodB p.shown
theorem sm_of {p : PyData} {n d : Nat} (h : smB p n d = true) : Sm p n d := by
  unfold smB at h
  simp only [Bool.and_eq_true, Bool.not_eq_true', decide_eq_true_eq] at h
  exact ⟨h.1.1.1.1, h.1.1.1.2, h.1.1.2, h.1.2, good_of h.2⟩
theorem Sm.le {p : PyData} {n d n' d' : Nat} (a : Sm p n d) (h : n ≤ n') (h2 : d ≤ d') : Sm p n' d' := ⟨a.s, a.h, Nat.le_trans a.d h2, Nat.le_trans a.l h, a.g⟩
theorem shownAll_map : ∀ ps : List PyData, PyData.shownAll ps = ps.map PyData.shown
  | [] => by unfold PyData.shownAll; rfl
  | p :: ps => by
    unfold PyData.shownAll
    rw [List.map_cons, shownAll_map ps]
theorem showableAll_of : ∀ {ps : List PyData}, (∀ p ∈ ps, PyData.showable p = true) → PyData.showableAll ps = true
  | [], _ => by unfold PyData.showableAll; rfl
  | p :: ps, h => by
    unfold PyData.showableAll
    rw [h p (by simp), showableAll_of fun q hq => h q (List.mem_cons_of_mem _ hq)]; rfl
theorem hasDictAll_of : ∀ {ps : List PyData}, (∀ p ∈ ps, p.hasDict = false) → PyData.hasDictAll ps = false
  | [], _ => by unfold PyData.hasDictAll; rfl
  | p :: ps, h => by
    unfold PyData.hasDictAll
    rw [h p (by simp), hasDictAll_of fun q hq => h q (List.mem_cons_of_mem _ hq)]; rfl
theorem depthAll_of {d : Nat} : ∀ {ps : List PyData}, (∀ p ∈ ps, p.depth ≤ d) → PyData.depthAll ps ≤ d
  | [], _ => by unfold PyData.depthAll; omega
  | p :: ps, h => by
    unfold PyData.depthAll
    have h1 := h p (by simp)
    have h2 := depthAll_of fun q hq => h q (List.mem_cons_of_mem _ hq)
    omega
theorem lenS_le {n : Nat} : ∀ {ps : List Str}, (∀ p ∈ ps, p.length ≤ n) → lenS ps ≤ ps.length * n
  | [], _ => by show 0 ≤ _; omega
  | p :: ps, h => by
    show p.length + lenS ps ≤ (ps.length + 1) * n
    have h1 := h p (by simp)
    have h2 := lenS_le fun q hq => h q (List.mem_cons_of_mem _ hq)
    rw [Nat.add_mul, Nat.one_mul]
    omega
theorem textFrom_le : ∀ (ts : List Str) (k : Nat) (acc : Str), (PySem.textFrom k acc ts).length ≤ acc.length + lenS ts + 2 * ts.length ∧ (Good acc → (∀ t ∈ ts, Good t) → Good (PySem.textFrom k acc ts))
  | [], k, acc => ⟨by show acc.length ≤ acc.length + 0 + 2 * 0; omega, fun g _ => g⟩
  | t :: r, k, acc => by
    obtain ⟨h1, h2⟩ := textFrom_le r (k + 1) (acc ++ (if k > 0 then ", " else "" : String) ++ t)
    have e : (acc ++ (if k > 0 then ", " else "" : String) ++ t).length ≤ acc.length + 2 + t.length := by
      rw [len_app, len_app]
      split
      · show _ + (Str.ofString ", ").length + _ ≤ _
        rw [show (Str.ofString ", ").length = 2 by decide +kernel]; omega
      · show _ + (Str.ofString "").length + _ ≤ _
        rw [show (Str.ofString "").length = 0 by decide +kernel]; omega
    refine ⟨?_, fun g gt => ?_⟩
    · show (PySem.textFrom (k + 1) (acc ++ (if k > 0 then ", " else "" : String) ++ t) r).length ≤ acc.length + (t.length + lenS r) + 2 * (r.length + 1)
      omega
    · refine h2 ((g.app ?_).app (gt t (by simp))) fun z hz => gt z (List.mem_cons_of_mem _ hz)
      split
      · exact good_of (by decide +kernel)
      · exact good_of (by decide +kernel)
theorem shown_mem {ps : List PyData} {n d : Nat} (h : ∀ p ∈ ps, Sm p n d) : (∀ t ∈ ps.map PyData.shown, t.length ≤ n) ∧ ∀ t ∈ ps.map PyData.shown, Good t :=
  ⟨fun t ht => by obtain ⟨p, hp, rfl⟩ := List.mem_map.mp ht; exact (h p hp).l, fun t ht => by obtain ⟨p, hp, rfl⟩ := List.mem_map.mp ht; exact (h p hp).g⟩
theorem sm_list {ps : List PyData} {n d : Nat} (h : ∀ p ∈ ps, Sm p n d) : Sm (.list ps) (ps.length * (n + 2) + 2) (d + 1) := by
  obtain ⟨h1, h2⟩ := shown_mem h
  have e : PyData.shown (.list ps) = PySem.textFrom 0 "[" (ps.map PyData.shown) ++ "]" := by
    unfold PyData.shown
    rw [shownAll_map]; rfl
  obtain ⟨t1, t2⟩ := textFrom_le (ps.map PyData.shown) 0 "["
  refine ⟨?_, ?_, ?_, ?_, ?_⟩
  · unfold PyData.showable; exact showableAll_of fun p hp => (h p hp).s
  · unfold PyData.hasDict; exact hasDictAll_of fun p hp => (h p hp).h
  · unfold PyData.depth
    have := depthAll_of fun p hp => (h p hp).d
    omega
  · rw [e, len_app, show (("]" : String) : Str).length = 1 by decide +kernel]
    have l1 := lenS_le h1
    rw [List.length_map] at l1 t1
    rw [show (("[" : String) : Str).length = 1 by decide +kernel] at t1
    rw [Nat.mul_add]
    omega
  · rw [e]
    exact (t2 (good_of (by decide +kernel)) h2).app (good_of (by decide +kernel))
theorem sm_tup {ps : List PyData} {n d : Nat} (h : ∀ p ∈ ps, Sm p n d) : Sm (.tuple ps) (ps.length * (n + 2) + 3) (d + 1) := by
  obtain ⟨h1, h2⟩ := shown_mem h
  have e : PyData.shown (.tuple ps) = ("(" : Str) ++ Str.join ", " (ps.map PyData.shown) ++ (if (ps.map PyData.shown).length == 1 then ",)" else ")" : String) := by
    unfold PyData.shown
    rw [shownAll_map]; rfl
  refine ⟨?_, ?_, ?_, ?_, ?_⟩
  · unfold PyData.showable; exact showableAll_of fun p hp => (h p hp).s
  · unfold PyData.hasDict; exact hasDictAll_of fun p hp => (h p hp).h
  · unfold PyData.depth
    have := depthAll_of fun p hp => (h p hp).d
    omega
  · rw [e, len_app, len_app, show (("(" : String) : Str).length = 1 by decide +kernel]
    have l1 := lenS_le h1
    have l2 := join_len ", " (ps.map PyData.shown)
    rw [List.length_map] at l1 l2
    rw [show ((", " : String) : Str).length = 2 by decide +kernel] at l2
    rw [Nat.mul_add]
    have l3 : ((if (ps.map PyData.shown).length == 1 then ",)" else ")" : String) : Str).length ≤ 2 := by split <;> decide +kernel
    omega
  · rw [e]
    refine ((good_of (by decide +kernel)).app (good_join (good_of (by decide +kernel)) h2)).app ?_
    split <;> exact good_of (by decide +kernel)
theorem Sm.repr {S : DS} {d : D} {p : PyData} {n k : Nat} (a : Sm p n k) (hn : n ≤ 1000000) (hk : k ≤ 30) (e : pyD S d = some p) : cRepr [d] S = .ok (.str p.shown) S := by
  refine repr_of e ?_
  rw [a.s, a.h, decide_eq_true (Nat.le_trans a.d hk), decide_eq_true (Nat.le_trans a.l hn)]
  rfl
theorem Sm.ne {S : DS} {p : PyData} {n k : Nat} (a : Sm p n k) : oNe (.str p.shown) (.str p.shown) S = .ok (.bl false) S := by
  rw [ne_str a.g.shaped a.g.shaped]; simp
theorem Sm.eq {S : DS} {p : PyData} {n k : Nat} (a : Sm p n k) : oEq (.str p.shown) (.str p.shown) S = .ok (.bl true) S := by
  rw [eq_str a.g.shaped a.g.shaped]; simp
theorem sm_bool (b : Bool) : Sm (.bool b) 5 0 := by cases b <;> exact sm_of (by decide +kernel)
end Den
namespace Den
open PySem L2
/-! ### 51. loops over numbered lists -/
theorem numIt_of {h : List Ob} {n i : Nat} {k : Int} {xs : List D} (e : h[n]? = some (.lst xs)) : numIt k (lstIt n) h i = some (xs[i]?.map fun d => .tup [.int (k + (i : Nat)), d]) := by
  unfold numIt lstIt
  rw [e]
  dsimp only
  cases xs[i]? <;> rfl
theorem g_two (i j : Nat) (a b : D) (S : DS) : gTup 2 (gCons (gN i) (gCons (gN j) gNil)) (.tup [a, b]) S = some { S with loc := (S.loc.set i (some a)).set j (some b) } := rfl
theorem sFor_dyn {it : DS → Res Iter0} {g : DG} {b : DSt} {S S1 : DS} {f : List Ob → Nat → Option (Option D)} (h : it S = .ok (.dyn f) S1) : sFor it g b S = forO f g b 100000 0 S1 := by
  unfold sFor
  rw [h, Res.bind_ok]
theorem sFor_vals {it : DS → Res Iter0} {g : DG} {b : DSt} {S S1 : DS} {xs : List D} (h : it S = .ok (.vals xs) S1) : sFor it g b S = forV g b xs S1 := by
  unfold sFor
  rw [h, Res.bind_ok]
theorem enumS_tail {i n : Nat} {k : Int} {S : DS} {x : D} {xs : List D} (hk : -1000000 ≤ k ∧ k ≤ 1000000) (h1 : S.loc[i]? = some (some (.ref n))) (h2 : S.h[n]? = some (.lst (x :: xs))) : dEnumS (dCons (dSl (dVar i) (dPS (dC (.int 1))) dPN) dNil) (dCons (dC (.int k)) dNil) S = .ok (.dyn (numIt k (lstIt S.h.length))) ⟨S.loc, S.h ++ [.lst xs]⟩ := by
  unfold dEnumS
  simp [h1, h2, z_slL, cut_tl, hk, enumOf]
theorem enum_tail {i n : Nat} {S : DS} {x : D} {xs : List D} (h1 : S.loc[i]? = some (some (.ref n))) (h2 : S.h[n]? = some (.lst (x :: xs))) : dEnum (dCons (dSl (dVar i) (dPS (dC (.int 1))) dPN) dNil) S = .ok (.dyn (numIt 0 (lstIt S.h.length))) ⟨S.loc, S.h ++ [.lst xs]⟩ := by
  unfold dEnum
  simp [h1, h2, z_slL, cut_tl, enumOf]
theorem enum_var {i n : Nat} {S : DS} {xs : List D} (h1 : S.loc[i]? = some (some (.ref n))) (h2 : S.h[n]? = some (.lst xs)) : dEnum (dCons (dVar i) dNil) S = .ok (.dyn (numIt 0 (lstIt n))) S := by
  unfold dEnum
  simp [h1, h2, enumOf]
/-- one turn of a loop -/
theorem forO_end {it : List Ob → Nat → Option (Option D)} {g : DG} {b : DSt} {k i : Nat} {S : DS} (h : it S.h i = some none) : forO it g b (k + 1) i S = .ok .next S := by
  unfold forO; rw [h]
theorem forO_next {it : List Ob → Nat → Option (Option D)} {g : DG} {b : DSt} {k i : Nat} {S S1 S2 : DS} {d : D} (h : it S.h i = some (some d)) (h1 : g d S = some S1) (h2 : b S1 = .ok .next S2) : forO it g b (k + 1) i S = forO it g b k (i + 1) S2 := by
  conv => lhs; unfold forO
  rw [h]; dsimp only; rw [h1]; dsimp only; rw [h2]; rfl
theorem forO_ret {it : List Ob → Nat → Option (Option D)} {g : DG} {b : DSt} {k i : Nat} {S S1 S2 : DS} {d r : D} (h : it S.h i = some (some d)) (h1 : g d S = some S1) (h2 : b S1 = .ok (.ret r) S2) : forO it g b (k + 1) i S = .ok (.ret r) S2 := by
  conv => lhs; unfold forO
  rw [h]; dsimp only; rw [h1]; dsimp only; rw [h2]; rfl
theorem forO_exc {it : List Ob → Nat → Option (Option D)} {g : DG} {b : DSt} {k i : Nat} {S S1 S2 : DS} {d : D} {x : Xn} (h : it S.h i = some (some d)) (h1 : g d S = some S1) (h2 : b S1 = .exc x S2) : forO it g b (k + 1) i S = .exc x S2 := by
  conv => lhs; unfold forO
  rw [h]; dsimp only; rw [h1]; dsimp only; rw [h2]; rfl
end Den

namespace Den
open PySem L2
/-! ### 60. a comprehension whose turns change the heap -/
/-- one turn: from acc and h to what holds of the new ones -/
def TurnJ (g : DG) (t : DT) (e : DE) (w : List (Option D)) (J : List D → List Ob → Prop) (d : D) (acc : List D) (h : List Ob) : Prop := ∃ S0, g d ⟨w, h⟩ = some S0 ∧ Ok (t S0) fun c S2 => if c = true then Ok (e S2) fun y S3 => J (acc ++ [y]) S3.h else J acc S2.h
theorem compT_J {g : DG} {t : DT} {e : DE} {w : List (Option D)} {J : List D → List Ob → Prop} {d : D} {acc : List D} {h : List Ob} (p : TurnJ g t e w J d acc h) (hl : acc.length < 1000000) : ∃ S0 acc2 S1, g d ⟨w, h⟩ = some S0 ∧ compT t e S0 acc = .ok acc2 S1 ∧ J acc2 S1.h ∧ acc2.length ≤ acc.length + 1 := by
  obtain ⟨S0, h1, h3⟩ := p
  obtain ⟨c, S2, e1, h4⟩ := h3.ex
  cases c with
  | true =>
    rw [if_pos rfl] at h4
    obtain ⟨y, S3, e2, j⟩ := h4.ex
    refine ⟨S0, acc ++ [y], S3, h1, ?_, j, by simp⟩
    unfold compT
    rw [e1, Res.only_ok, if_pos rfl, e2, Res.only_ok, mxL_eq, if_pos hl]
  | false =>
    rw [if_neg (by decide)] at h4
    refine ⟨S0, acc, S2, h1, ?_, h4, by omega⟩
    unfold compT
    rw [e1, Res.only_ok, if_neg (by decide)]
theorem compV_J {g : DG} {t : DT} {e : DE} {w : List (Option D)} (J : List D → List Ob → Prop) : ∀ (xs acc : List D) (h : List Ob), acc.length + xs.length ≤ 1000000 → J acc h → (∀ d ∈ xs, ∀ acc h, J acc h → TurnJ g t e w J d acc h) → ∃ acc2 h2, compV g t e w xs acc h = .ok acc2 ⟨w, h2⟩ ∧ J acc2 h2 ∧ acc2.length ≤ acc.length + xs.length
  | [], acc, h, _, j, _ => ⟨acc, h, rfl, j, by simp⟩
  | d :: ds, acc, h, hl, j, p => by
    simp only [List.length_cons] at hl
    obtain ⟨S0, acc2, S1, h1, h2, j2, l2⟩ := compT_J (p d (by simp) acc h j) (by omega)
    obtain ⟨acc3, h3, e3, j3, l3⟩ := compV_J J ds acc2 S1.h (by omega) j2 fun z hz => p z (List.mem_cons_of_mem _ hz)
    refine ⟨acc3, h3, ?_, j3, by simp; omega⟩
    unfold compV
    rw [h1]
    dsimp only
    rw [h2, Res.only_ok]
    exact e3
theorem compO_J {g : DG} {t : DT} {e : DE} {w : List (Option D)} {it : List Ob → Nat → Option (Option D)} {xs : List D} (J : List D → List Ob → Prop) (hx : ∀ acc h i, J acc h → it h i = some xs[i]?) (p : ∀ d ∈ xs, ∀ acc h, J acc h → TurnJ g t e w J d acc h) : ∀ (k i : Nat) (acc : List D) (h : List Ob), xs.length < i + k → i ≤ xs.length → acc.length + (xs.length - i) ≤ 1000000 → J acc h →
    ∃ acc2 h2, compO it g t e w k i acc h = .ok acc2 ⟨w, h2⟩ ∧ J acc2 h2 ∧ acc2.length ≤ acc.length + (xs.length - i)
  | 0, i, acc, h, h1, h2, _, _ => by omega
  | k + 1, i, acc, h, hk, hi, hl, j => by
    by_cases lt : i < xs.length
    · obtain ⟨S0, acc2, S1, h1, h2, j2, l2⟩ := compT_J (p xs[i] (List.getElem_mem lt) acc h j) (by omega)
      obtain ⟨acc3, h3, e3, j3, l3⟩ := compO_J J hx p k (i + 1) acc2 S1.h (by omega) (by omega) (by omega) j2
      refine ⟨acc3, h3, ?_, j3, by omega⟩
      unfold compO
      rw [hx acc h i j, List.getElem?_eq_getElem lt]
      dsimp only
      rw [h1]
      dsimp only
      rw [h2, Res.only_ok]
      exact e3
    · refine ⟨acc, h, ?_, j, by omega⟩
      unfold compO
      rw [hx acc h i j, List.getElem?_eq_none (by omega)]
theorem comp_J {vs : List Nat} {it : DS → Res Iter0} {g : DG} {t : DT} {e : DE} {S S1 : DS} {I : Iter0} {xs : List D} (J : List D → List Ob → Prop) (hi : it S = .ok I S1) (ov : ∀ acc h, J acc h → Over I xs h) (hl : xs.length < 100000) (j0 : J [] S1.h) (p : ∀ d ∈ xs, ∀ acc h, J acc h → TurnJ g t e (wipeD S1.loc vs) J d acc h) :
    ∃ acc h2, dComp vs it g t e S = .ok (.ref h2.length) ⟨S1.loc, h2 ++ [.lst acc]⟩ ∧ J acc h2 ∧ acc.length ≤ xs.length := by
  cases I with
  | vals ys =>
    obtain rfl : ys = xs := ov _ _ j0
    obtain ⟨acc, h2, e2, j, l⟩ := compV_J (w := wipeD S1.loc vs) J ys [] S1.h (by simp; omega) j0 p
    refine ⟨acc, h2, ?_, j, by simpa using l⟩
    unfold dComp
    rw [hi, Res.bind_ok]
    dsimp only
    rw [e2]
    rfl
  | dyn it2 =>
    obtain ⟨acc, h2, e2, j, l⟩ := compO_J (w := wipeD S1.loc vs) J (fun acc h i j => ov acc h j i) p 100000 0 [] S1.h (by omega) (by omega) (by simp; omega) j0
    refine ⟨acc, h2, ?_, j, by simpa using l⟩
    unfold dComp
    rw [hi, Res.bind_ok]
    dsimp only
    rw [e2]
    rfl
theorem rng_of {a : DE} {S S1 : DS} {j : Int} (e : a S = .ok (.int j) S1) (h : -1000000 ≤ j ∧ j ≤ 1000000) : dRng (dCons a dNil) S = .ok (.vals (rgD 0 j.toNat)) S1 := by
  unfold dRng
  simp [e, h]
theorem rgD_len (lo : Int) (n : Nat) : (rgD lo n).length = n := by unfold rgD; simp
theorem foldl_cps : ∀ (l : List (Array Nat)) (acc : Array Nat), (l.foldl (· ++ ·) acc).toList = acc.toList ++ (l.map Array.toList).flatten
  | [], acc => by simp
  | a :: l, acc => by
    rw [List.foldl_cons, foldl_cps l, Array.toList_append, List.map_cons, List.flatten_cons, List.append_assoc]
theorem repS_cps {z : Str} {n : Int} (hn : 2 ≤ n) (hz : z.length ≠ 0) : (repS z n).cps.toList = (List.replicate n.toNat z.cps.toList).flatten := by
  unfold repS
  rw [if_neg (by omega), if_neg (by simp; exact ⟨by omega, hz⟩)]
  show ((List.replicate n.toNat z.cps).foldl (· ++ ·) #[]).toList = _
  rw [foldl_cps, List.map_replicate]
  rfl
theorem repS_len {z : Str} {n : Int} (hn : 2 ≤ n) (hz : z.length = 1) : (repS z n).length = n.toNat := by
  have e := congrArg List.length (repS_cps hn (z := z) (by omega))
  have h1 : z.cps.toList.length = 1 := by rw [Array.length_toList]; exact hz
  simp [h1] at e
  exact e
theorem repS_good {z : Str} {n : Int} (hn : 2 ≤ n) (hz : z.length = 1) (g : Good z) : Good (repS z n) := fun c hc => by
  rw [repS_cps hn (by omega)] at hc
  obtain ⟨l, hl, hc⟩ := List.mem_flatten.mp hc
  rw [(List.mem_replicate.mp hl).2] at hc
  exact g c hc
/-- texts joined: their lengths -/
theorem lenS_app : ∀ a b : List Str, lenS (a ++ b) = lenS a + lenS b
  | [], b => by show lenS b = 0 + lenS b; omega
  | x :: a, b => by
    show x.length + lenS (a ++ b) = x.length + lenS a + lenS b
    rw [lenS_app a b]; omega
theorem lenS_take (n : Nat) : ∀ a : List Str, lenS (a.take n) ≤ lenS a := fun a => by
  have := lenS_app (a.take n) (a.drop n)
  rw [List.take_append_drop] at this
  omega
theorem lenS_drop (n : Nat) : ∀ a : List Str, lenS (a.drop n) ≤ lenS a := fun a => by
  have := lenS_app (a.take n) (a.drop n)
  rw [List.take_append_drop] at this
  omega
theorem lenS_rep (a : List Str) : ∀ n : Nat, lenS (List.replicate n a).flatten = n * lenS a ∧ (List.replicate n a).flatten.length = n * a.length
  | 0 => by simp [lenS]
  | n + 1 => by
    obtain ⟨h1, h2⟩ := lenS_rep a n
    rw [List.replicate_succ, List.flatten_cons, lenS_app, List.length_append, h1, h2, Nat.add_mul, Nat.add_mul]
    omega
def cutL (xs : List Str) (lo hi : Option Int) : List Str := (xs.drop (HT.sIx xs.length 0 lo)).take (HT.sIx xs.length xs.length hi - HT.sIx xs.length 0 lo)
theorem cut_strs (xs : List Str) (lo hi : Option Int) : Den.cutD (xs.map D.str) lo hi = (cutL xs lo hi).map D.str := by
  unfold Den.cutD cutL
  rw [List.length_map, ← List.map_drop, ← List.map_take]
theorem cutL_mem {xs : List Str} {lo hi : Option Int} {p : Str} (h : p ∈ cutL xs lo hi) : p ∈ xs := List.mem_of_mem_drop (List.mem_of_mem_take h)
theorem cutL_len (xs : List Str) (lo hi : Option Int) : (cutL xs lo hi).length ≤ xs.length ∧ lenS (cutL xs lo hi) ≤ lenS xs := by
  unfold cutL
  refine ⟨?_, Nat.le_trans (lenS_take _ _) (lenS_drop _ _)⟩
  rw [List.length_take, List.length_drop]
  omega
theorem rep_strs (xs : List Str) (n : Nat) : (List.replicate n (xs.map D.str)).flatten = ((List.replicate n xs).flatten).map D.str := by
  rw [List.map_flatten, List.map_replicate]
theorem rep_mem {xs : List Str} {n : Nat} {p : Str} (h : p ∈ (List.replicate n xs).flatten) : p ∈ xs := by
  obtain ⟨l, hl, hp⟩ := List.mem_flatten.mp h
  rw [(List.mem_replicate.mp hl).2] at hp
  exact hp
end Den

namespace K10
open PySem L2 PySem.Spec PyProof.Rows Den
/-! ### B. plain functions -/
def g_MAX_DEEDS : D := (.int 400)
def g_MAX_MACHINES : D := (.int 6)
def g_START_HEAD : D := (.str "start ")
def tb_DEED_SIZES : List (Str × D) := [("get", (.int 3)), ("rest", (.int 2)), ("send", (.int 3)), ("visit", (.int 2))]
def tb_MACHINES : List (Str × D) := [("0", (.int 0)), ("1", (.int 1)), ("2", (.int 2)), ("3", (.int 3)), ("4", (.int 4)), ("5", (.int 5))]
def sub_BadText : Str → Option Bool := fun n => if n = "BadText" then some true else none
/-- is_integer: 0=value -/
def p_is_integer : DSt := (sRet (dAnd (dCB cIsi (dCons (dVar 0) (dCons (dC (.ty "int")) dNil))) (dNot (dCB cIsi (dCons (dVar 0) (dCons (dC (.ty "bool")) dNil))))))
def F_is_integer : Fn := runB 1 p_is_integer
/-- is_machine: 0=value, 1=many -/
def p_is_machine : DSt := (sRet (dAnd (dCall F_is_integer (dCons (dVar 0) dNil)) (dChain oLe oLt (dC (.int 0)) (dVar 0) (dVar 1))))
def F_is_machine : Fn := runB 2 p_is_machine
/-- is_many: 0=value -/
def p_is_many : DSt := (sRet (dAnd (dCall F_is_integer (dCons (dVar 0) dNil)) (dChain oLe oLe (dC (.int 2)) (dVar 0) (dC g_MAX_MACHINES))))
def F_is_many : Fn := runB 1 p_is_many
/-- has_form: 0=value -/
def p_has_form : DSt := (sSeq (sIf (tOrD (tNotD (tTr (dCB cIsi (dCons (dVar 0) (dCons (dC (.ty "tuple")) dNil))))) (tOrD (tNotD (tTr (dVar 0))) (tNotD (tTr (dCB cIsi (dCons (dBin oIx (dVar 0) (dC (.int 0))) (dCons (dC (.ty "str")) dNil))))))) (sRet (dC (.bl false))) sNop)
  (sRet (dBin oEq (dKGet tb_DEED_SIZES (dBin oIx (dVar 0) (dC (.int 0)))) (dCB cLen (dCons (dVar 0) dNil)))))
def F_has_form : Fn := runB 1 p_has_form
/-- has_machines: 0=deed, 1=many, 2=machines, 3=machine -/
def p_has_machines : DSt := (sSeq (sAsg (dSl (dVar 0) (dPS (dC (.int 1))) dPN) (gN 2))
  (sSeq (sIf (tNotD (tTr (dCB cAll (dCons (dComp [3] (dIter (dVar 2)) (gN 3) tTrue (dCall F_is_machine (dCons (dVar 3) (dCons (dVar 1) dNil)))) dNil)))) (sRet (dC (.bl false))) sNop)
  (sRet (dOr (dBin oEq (dCB cLen (dCons (dVar 2) dNil)) (dC (.int 1))) (dBin oNe (dBin oIx (dVar 2) (dC (.int 0))) (dBin oIx (dVar 2) (dC (.int 1))))))))
def F_has_machines : Fn := runB 4 p_has_machines
/-- works_of: 0=line, 1=signs, 2=sign -/
def p_works_of : DSt := (sSeq (sIf (tNotD (tTr (dMtS mStarts (dVar 0) (dC g_START_HEAD)))) (sRet (dC .non)) sNop)
  (sSeq (sAsg (dSl (dVar 0) (dPS (dCB cLen (dCons (dC g_START_HEAD) dNil))) dPN) (gN 1))
  (sSeq (sIf (tOrD (tNotD (tTr (dCall F_is_many (dCons (dCB cLen (dCons (dVar 1) dNil)) dNil)))) (tNotD (tTr (dCB cAll (dCons (dComp [2] (dIter (dVar 1)) (gN 2) tTrue (dBin oIn (dVar 2) (dTup (dCons (dC (.str "w")) (dCons (dC (.str "r")) dNil))))) dNil))))) (sRet (dC .non)) sNop)
  (sRet (dCB cTuple (dCons (dComp [2] (dIter (dVar 1)) (gN 2) tTrue (dBin oEq (dVar 2) (dC (.str "w")))) dNil))))))
def F_works_of : Fn := runB 3 p_works_of
/-- deed_of: 0=line, 1=many, 2=words, 3=deed, 4=word -/
def p_deed_of : DSt := (sSeq (sAsg (dMtS mSplit (dVar 0) (dC (.str " "))) (gN 2))
  (sSeq (sAsg (dCB cTuple (dCons (dBin oAdd (dLst (dCons (dBin oIx (dVar 2) (dC (.int 0))) dNil)) (dComp [4] (dIter (dSl (dVar 2) (dPS (dC (.int 1))) dPN)) (gN 4) tTrue (dKGet tb_MACHINES (dVar 4)))) dNil)) (gN 3))
  (sRet (dIf (tAndD (tTr (dCall F_has_form (dCons (dVar 3) dNil))) (tTr (dCall F_has_machines (dCons (dVar 3) (dCons (dVar 1) dNil))))) (dVar 3) (dC .non)))))
def F_deed_of : Fn := runB 5 p_deed_of
/-- read_run: 0=value, 1=lines, 2=works, 3=deeds, 4=number, 5=line, 6=deed -/
def p_read_run : DSt := (sSeq (sIf (tNotD (tTr (dCB cIsi (dCons (dVar 0) (dCons (dC (.ty "str")) dNil))))) (sRaise1 "BadText" "line" (dCons (dC (.int 0)) dNil)) sNop)
  (sSeq (sAsg (dMtS mSplit (dVar 0) (dC (.str "\n"))) (gN 1))
  (sSeq (sAsg (dCall F_works_of (dCons (dBin oIx (dVar 1) (dC (.int 0))) dNil)) (gN 2))
  (sSeq (sIf (tV (dBin oIsN (dVar 2) (dC .non))) (sRaise1 "BadText" "line" (dCons (dC (.int 0)) dNil)) sNop)
  (sSeq (sAsg (dLst dNil) (gN 3))
  (sSeq (sFor (dEnumS (dCons (dSl (dVar 1) (dPS (dC (.int 1))) dPN) dNil) (dCons (dC (.int 1)) dNil)) (gTup 2 (gCons (gN 4) (gCons (gN 5) gNil)))
  (sSeq (sAsg (dCall F_deed_of (dCons (dVar 5) (dCons (dC g_MAX_MACHINES) dNil))) (gN 6))
  (sSeq (sIf (tOrD (tV (dBin oIsN (dVar 6) (dC .non))) (tV (dBin oGt (dVar 4) (dC g_MAX_DEEDS)))) (sRaise1 "BadText" "line" (dCons (dVar 4) dNil)) sNop)
  (sExpr (dMtL mAppend (dVar 3) (dCons (dVar 6) dNil))))))
  (sRet (dTup (dCons (dVar 2) (dCons (dCB cTuple (dCons (dVar 3) dNil)) dNil))))))))))
def F_read_run : Fn := runB 7 p_read_run
/-- _law_deck: 0=script, 1=deck, 2=cell, 3=whole, 4=state -/
def p_law_deck : DSt := (sSeq (sAsg (dDict [((dC (.str "deep")), (dLst dNil)), ((dC (.str "state")), (dBin oAdd (dC (.int 1572610)) (dCB cLen (dCons (dSl (dVar 0) dPN (dPS (dC (.int 63)))) dNil))))]) (gN 1))
  (sSeq (sFor (dIter (dSl (dVar 0) dPN (dPS (dC (.int 63))))) (gN 2)
  (sSeq (sAsg (dCB cAbs (dCons (dVar 2) dNil)) (gN 3))
  (sSeq (sIf (tV (dBin oGe (dVar 3) (dBin oPow (dC (.int 10)) (dC (.int 18))))) (sPut (dBin oAdd (dLst (dCons (dVar 3) dNil)) (dBin oIx (dVar 1) (dC (.str "deep")))) (dVar 1) (dC (.str "deep"))) sNop)
  (sSeq (sAsg (dBin oAdd (dBin oMulA (dBin oAdd (dBin oAdd (dBin oAdd (dBin oIx (dVar 1) (dC (.str "state"))) (dBin oMulA (dC (.int 2)) (dVar 3))) (dCB cIntA (dCons (dBin oLt (dVar 2) (dC (.int 0))) dNil))) (dC (.int 1))) (dC (.int 1181783497276652981))) (dC (.int 521288629))) (gN 4))
  (sPut (dBin oMod (dCB cIntA (dCons (dVar 4) dNil)) (dC (.int 2305843009213693951))) (dVar 1) (dC (.str "state")))))))
  (sRet (dVar 1))))
def F_law_deck : Fn := runB 5 p_law_deck
/-- _law_draw: 0=deck, 1=many, 2=one, 3=two, 4=whole -/
def p_law_draw : DSt := (sSeq (sIf (tV (dBin oLt (dVar 1) (dC (.int 2)))) (sRet (dC (.int 0))) sNop)
  (sSeq (sIf (tV (dBin oNe (dBin oIx (dVar 0) (dC (.str "deep"))) (dLst dNil))) (sSeq (sAsg (dMtL mPop (dBin oIx (dVar 0) (dC (.str "deep"))) dNil) (gN 4))
  (sSeq (sIf (tV (dBin oGe (dVar 4) (dVar 1))) (sExpr (dMtL mAppend (dBin oIx (dVar 0) (dC (.str "deep"))) (dCons (dBin oDiv (dVar 4) (dVar 1)) dNil))) sNop)
  (sRet (dBin oMod (dCB cIntA (dCons (dVar 4) dNil)) (dVar 1))))) sNop)
  (sSeq (sAsg (dBin oMod (dCB cIntA (dCons (dBin oAdd (dBin oMulA (dBin oIx (dVar 0) (dC (.str "state"))) (dC (.int 1181783497276652981))) (dC (.int 88172645463325))) dNil)) (dC (.int 2305843009213693951))) (gN 2))
  (sSeq (sPut (dVar 2) (dVar 0) (dC (.str "state")))
  (sSeq (sAsg (dBin oMod (dCB cIntA (dCons (dBin oAdd (dBin oAdd (dBin oMulA (dVar 2) (dVar 2)) (dBin oMulA (dC (.int 374761393)) (dVar 2))) (dC (.int 11))) dNil)) (dC (.int 2305843009213693921))) (gN 3))
  (sRet (dBin oMod (dCB cIntA (dCons (dBin oDiv (dVar 3) (dC (.int 1048576))) dNil)) (dVar 1))))))))
def F_law_draw : Fn := runB 5 p_law_draw
/-- _law_pick: 0=deck, 1=items -/
def p_law_pick : DSt := (sRet (dBin oIx (dVar 1) (dCall F_law_draw (dCons (dVar 0) (dCons (dCB cLen (dCons (dVar 1) dNil)) dNil)))))
def F_law_pick : Fn := runB 2 p_law_pick
/-- _law_deed: 0=deck, 1=many, 2=one, 3=word -/
def p_law_deed : DSt := (sSeq (sPar 2 3 (dCons (dCall F_law_draw (dCons (dVar 0) (dCons (dVar 1) dNil))) (dCons (dCall F_law_pick (dCons (dVar 0) (dCons (dLst (dCons (dC (.str "send")) (dCons (dC (.str "get")) (dCons (dC (.str "rest")) (dCons (dC (.str "visit")) (dCons (dC (.str "send")) (dCons (dC (.str "visit")) dNil))))))) dNil))) dNil)))
  (sSeq (sIf (tV (dBin oIn (dVar 3) (dTup (dCons (dC (.str "rest")) (dCons (dC (.str "visit")) dNil))))) (sRet (dTup (dCons (dVar 3) (dCons (dVar 2) dNil)))) sNop)
  (sRet (dTup (dCons (dVar 3) (dCons (dVar 2) (dCons (dBin oMod (dBin oAdd (dBin oAdd (dVar 2) (dC (.int 1))) (dCall F_law_draw (dCons (dVar 0) (dCons (dBin oSub (dVar 1) (dC (.int 1))) dNil)))) (dVar 1)) dNil)))))))
def F_law_deed : Fn := runB 4 p_law_deed
/-- _law_line: 0=deed, 1=item -/
def p_law_line : DSt := (sRet (dMtS mJoin (dC (.str " ")) (dComp [1] (dIter (dVar 0)) (gN 1) tTrue (dCB cStr (dCons (dVar 1) dNil)))))
def F_law_line : Fn := runB 2 p_law_line
/-- _law_text: 0=works, 1=deeds, 2=begin, 3=own, 4=deed -/
def p_law_text : DSt := (sSeq (sAsg (dBin oAdd (dC (.str "start ")) (dMtS mJoin (dC (.str "")) (dComp [3] (dIter (dVar 0)) (gN 3) tTrue (dIf (tTr (dVar 3)) (dC (.str "w")) (dC (.str "r")))))) (gN 2))
  (sRet (dMtS mJoin (dC (.str "\n")) (dBin oAdd (dLst (dCons (dVar 2) dNil)) (dComp [4] (dIter (dVar 1)) (gN 4) tTrue (dCall F_law_line (dCons (dVar 4) dNil)))))))
def F_law_text : Fn := runB 5 p_law_text
/-- _law_works: 0=deck, 1=machine -/
def p_law_works : DSt := (sRet (dCB cTuple (dCons (dComp [1] (dRng (dCons (dBin oAdd (dC (.int 2)) (dCall F_law_draw (dCons (dVar 0) (dCons (dC (.int 5)) dNil)))) dNil)) (gN 1) tTrue (dBin oEq (dCall F_law_draw (dCons (dVar 0) (dCons (dC (.int 2)) dNil))) (dC (.int 0)))) dNil)))
def F_law_works : Fn := runB 2 p_law_works
/-- _law_deed_in: 0=line, 1=items, 2=machines, 3=item -/
def p_law_deed_in : DSt := (sSeq (sAsg (dMtS mSplit (dVar 0) (dC (.str " "))) (gN 1))
  (sSeq (sIf (tV (dBin oNe (dComp [3] (dIter (dSl (dVar 1) (dPS (dC (.int 1))) dPN)) (gN 3) (tV (dBin oNotIn (dVar 3) (dTup (dCons (dC (.str "0")) (dCons (dC (.str "1")) (dCons (dC (.str "2")) (dCons (dC (.str "3")) (dCons (dC (.str "4")) (dCons (dC (.str "5")) dNil))))))))) (dVar 3)) (dLst dNil))) (sRet (dLst dNil)) sNop)
  (sSeq (sAsg (dComp [3] (dIter (dSl (dVar 1) (dPS (dC (.int 1))) dPN)) (gN 3) tTrue (dCB cIntA (dCons (dVar 3) dNil))) (gN 2))
  (sSeq (sIf (tAndD (tV (dBin oIn (dBin oIx (dVar 1) (dC (.int 0))) (dTup (dCons (dC (.str "rest")) (dCons (dC (.str "visit")) dNil))))) (tV (dBin oEq (dCB cLen (dCons (dVar 2) dNil)) (dC (.int 1))))) (sRet (dLst (dCons (dTup (dCons (dBin oIx (dVar 1) (dC (.int 0))) (dCons (dBin oIx (dVar 2) (dC (.int 0))) dNil))) dNil))) sNop)
  (sSeq (sIf (tAndD (tV (dBin oIn (dBin oIx (dVar 1) (dC (.int 0))) (dTup (dCons (dC (.str "send")) (dCons (dC (.str "get")) dNil))))) (tAndD (tV (dBin oEq (dCB cLen (dCons (dVar 2) dNil)) (dC (.int 2)))) (tV (dBin oNe (dBin oIx (dVar 2) (dC (.int 0))) (dBin oIx (dVar 2) (dC (.int 1))))))) (sRet (dLst (dCons (dTup (dCons (dBin oIx (dVar 1) (dC (.int 0))) (dCons (dBin oIx (dVar 2) (dC (.int 0))) (dCons (dBin oIx (dVar 2) (dC (.int 1))) dNil)))) dNil))) sNop)
  (sRet (dLst dNil)))))))
def F_law_deed_in : Fn := runB 4 p_law_deed_in
/-- _law_due: 0=value, 1=lines, 2=signs, 3=deeds, 4=number, 5=line, 6=own, 7=sign -/
def p_law_due : DSt := (sSeq (sIf (tNotD (tTr (dCB cIsi (dCons (dVar 0) (dCons (dC (.ty "str")) dNil))))) (sRet (dLst (dCons (dC (.str "text")) (dCons (dC (.int 0)) (dCons (dC (.bl true)) dNil))))) sNop)
  (sSeq (sAsg (dMtS mSplit (dVar 0) (dC (.str "\n"))) (gN 1))
  (sSeq (sAsg (dSl (dBin oIx (dVar 1) (dC (.int 0))) (dPS (dC (.int 6))) dPN) (gN 2))
  (sSeq (sIf (tOrD (tV (dBin oNe (dSl (dBin oIx (dVar 1) (dC (.int 0))) dPN (dPS (dC (.int 6)))) (dC (.str "start ")))) (tOrD (tNotD (tV (dChain oLe oLe (dC (.int 2)) (dCB cLen (dCons (dVar 2) dNil)) (dC (.int 6))))) (tV (dBin oNe (dComp [7] (dIter (dVar 2)) (gN 7) (tV (dBin oNotIn (dVar 7) (dC (.str "wr")))) (dVar 7)) (dLst dNil))))) (sRet (dLst (dCons (dC (.str "text")) (dCons (dC (.int 0)) (dCons (dC (.bl true)) dNil))))) sNop)
  (sSeq (sAsg (dLst dNil) (gN 3))
  (sSeq (sFor (dEnum (dCons (dSl (dVar 1) (dPS (dC (.int 1))) dPN) dNil)) (gTup 2 (gCons (gN 4) (gCons (gN 5) gNil)))
  (sSeq (sAsg (dCall F_law_deed_in (dCons (dVar 5) dNil)) (gN 6))
  (sSeq (sIf (tOrD (tV (dBin oEq (dVar 6) (dLst dNil))) (tV (dBin oEq (dVar 4) (dC (.int 400))))) (sRet (dLst (dCons (dC (.str "text")) (dCons (dBin oAdd (dVar 4) (dC (.int 1))) (dCons (dC (.bl true)) dNil))))) sNop)
  (sExpr (dMtL mExtend (dVar 3) (dCons (dVar 6) dNil))))))
  (sRet (dLst (dCons (dC (.str "told")) (dCons (dTup (dCons (dCB cTuple (dCons (dComp [7] (dIter (dVar 2)) (gN 7) tTrue (dBin oEq (dVar 7) (dC (.str "w")))) dNil)) (dCons (dCB cTuple (dCons (dVar 3) dNil)) dNil))) dNil))))))))))
def F_law_due : Fn := runB 8 p_law_due
/-- _law_heard: 0=value, 1=is_named, 2=slip -/
def p_law_heard : DSt := (sTry1 sub_BadText (sRet (dLst (dCons (dC (.str "told")) (dCons (dIf (tTr (dVar 1)) (dCallK F_read_run [0] dNil (dCons (dVar 0) dNil)) (dCall F_read_run (dCons (dVar 0) dNil))) dNil)))) (sRetX 2 (xLst (xCons (xC (dC (.str "text"))) (xCons (xFld "BadText" "line") (xCons (xIsi "BadText" true) xNil))))))
def F_law_heard : Fn := runB 3 p_law_heard
/-- _law_spoilt: 0=deck, 1=text, 2=lines, 3=spot, 4=signs, 5=odd, 6=at, 7=way -/
def p_law_spoilt : DSt := (sSeq (sPar 6 7 (dCons (dCall F_law_draw (dCons (dVar 0) (dCons (dBin oAdd (dCB cLen (dCons (dVar 1) dNil)) (dC (.int 1))) dNil))) (dCons (dCall F_law_draw (dCons (dVar 0) (dCons (dC (.int 7)) dNil))) dNil)))
  (sSeq (sAsg (dMtS mSplit (dVar 1) (dC (.str "\n"))) (gN 2))
  (sSeq (sAsg (dCall F_law_draw (dCons (dVar 0) (dCons (dCB cLen (dCons (dVar 2) dNil)) dNil))) (gN 3))
  (sSeq (sAsg (dLst (dCons (dC (.str " ")) (dCons (dC (.str "0")) (dCons (dC (.str "5")) (dCons (dC (.str "6")) (dCons (dC (.str "9")) (dCons (dC (.str "-")) (dCons (dC (.str "w")) (dCons (dC (.str "r")) (dCons (dC (.str "x")) (dCons (dC (.str "\n")) (dCons (dC (.str "\nrest 0")) (dCons (dC (.str " 1")) (dCons (dC (.str "start")) (dCons (dC (.str "send ")) (dCons (dC (.str "+")) (dCons (dC (.str "01")) dNil))))))))))))))))) (gN 4))
  (sSeq (sIf (tV (dBin oEq (dVar 7) (dC (.int 0)))) (sRet (dBin oAdd (dSl (dVar 1) dPN (dPS (dVar 6))) (dSl (dVar 1) (dPS (dBin oAdd (dVar 6) (dC (.int 1)))) dPN))) sNop)
  (sSeq (sIf (tV (dBin oEq (dVar 7) (dC (.int 1)))) (sRet (dBin oAdd (dBin oAdd (dSl (dVar 1) dPN (dPS (dVar 6))) (dCall F_law_pick (dCons (dVar 0) (dCons (dVar 4) dNil)))) (dSl (dVar 1) (dPS (dVar 6)) dPN))) sNop)
  (sSeq (sIf (tV (dBin oEq (dVar 7) (dC (.int 2)))) (sRet (dBin oAdd (dBin oAdd (dSl (dVar 1) dPN (dPS (dVar 6))) (dCall F_law_pick (dCons (dVar 0) (dCons (dVar 4) dNil)))) (dSl (dVar 1) (dPS (dBin oAdd (dVar 6) (dC (.int 1)))) dPN))) sNop)
  (sSeq (sIf (tV (dBin oEq (dVar 7) (dC (.int 3)))) (sRet (dBin oAdd (dBin oAdd (dSl (dVar 1) dPN (dPS (dVar 6))) (dRev (dSl (dVar 1) (dPS (dVar 6)) (dPS (dBin oAdd (dVar 6) (dC (.int 2))))))) (dSl (dVar 1) (dPS (dBin oAdd (dVar 6) (dC (.int 2)))) dPN))) sNop)
  (sSeq (sIf (tV (dBin oEq (dVar 7) (dC (.int 4)))) (sRet (dMtS mJoin (dC (.str "\n")) (dBin oAdd (dBin oAdd (dSl (dVar 2) dPN (dPS (dVar 3))) (dBin oMulA (dSl (dVar 2) (dPS (dVar 3)) (dPS (dBin oAdd (dVar 3) (dC (.int 1))))) (dCall F_law_draw (dCons (dVar 0) (dCons (dC (.int 3)) dNil))))) (dSl (dVar 2) (dPS (dBin oAdd (dVar 3) (dC (.int 1)))) dPN)))) sNop)
  (sSeq (sIf (tV (dBin oEq (dVar 7) (dC (.int 5)))) (sSeq (sAsg (dLst (dCons (dC (.str "send 0 0")) (dCons (dC (.str "get 5 5")) (dCons (dC (.str "rest 6")) (dCons (dC (.str "visit")) (dCons (dC (.str "rest 0 1")) (dCons (dC (.str "send 1")) (dCons (dC (.str "get 0 1 2")) (dCons (dC (.str "")) (dCons (dC (.str "Visit 0")) (dCons (dC (.str "rest 00")) dNil))))))))))) (gN 5))
  (sRet (dMtS mJoin (dC (.str "\n")) (dBin oAdd (dBin oAdd (dSl (dVar 2) dPN (dPS (dBin oAdd (dVar 3) (dC (.int 1))))) (dLst (dCons (dCall F_law_pick (dCons (dVar 0) (dCons (dVar 5) dNil))) dNil))) (dSl (dVar 2) (dPS (dBin oAdd (dVar 3) (dC (.int 1)))) dPN))))) sNop)
  (sSeq (sAsg (dLst (dCons (dC (.str "start ")) (dCons (dC (.str "start w")) (dCons (dC (.str "start wwwwwww")) (dCons (dC (.str "start wx")) (dCons (dC (.str "Start wr")) (dCons (dC (.str "startwr")) (dCons (dC (.str "start  wr")) (dCons (dC (.str "start wr ")) dNil))))))))) (gN 5))
  (sRet (dBin oAdd (dCall F_law_pick (dCons (dVar 0) (dCons (dVar 5) dNil))) (dSl (dVar 1) (dPS (dC (.int 8))) dPN))))))))))))))
def F_law_spoilt : Fn := runB 8 p_law_spoilt
/-- law: 0=script, 1=deck, 2=turn, 3=lines, 4=far, 5=spot, 6=deeds, 7=text, 8=some, 9=odd, 10=value, 11=due -/
def p_law : DSt := (sSeq (sAsg (dCall F_law_deck (dCons (dVar 0) dNil)) (gN 1))
  (sSeq (sFor (dRng (dCons (dC (.int 8)) dNil)) (gN 2)
  (sSeq (sAsg (dCB cTuple (dCons (dComp [5] (dRng (dCons (dCall F_law_draw (dCons (dVar 1) (dCons (dC (.int 9)) dNil))) dNil)) (gN 5) tTrue (dCall F_law_deed (dCons (dVar 1) (dCons (dC (.int 6)) dNil)))) dNil)) (gN 6))
  (sSeq (sAsg (dCall F_law_text (dCons (dCall F_law_works (dCons (dVar 1) dNil)) (dCons (dVar 6) dNil))) (gN 7))
  (sSeq (sAsg (dLst (dCons (dVar 7) (dCons (dCall F_law_spoilt (dCons (dVar 1) (dCons (dVar 7) dNil))) (dCons (dCall F_law_spoilt (dCons (dVar 1) (dCons (dVar 7) dNil))) dNil)))) (gN 8))
  (sSeq (sExpr (dMtL mAppend (dVar 8) (dCons (dCall F_law_spoilt (dCons (dVar 1) (dCons (dBin oIx (dVar 8) (dNeg (dC (.int 1)))) dNil))) dNil)))
  (sSeq (sAsg (dLst (dCons (dC .non) (dCons (dC (.int 0)) (dCons (dC (.bl true)) (dCons (dLst dNil) (dCons dNew0 (dCons (dTup (dCons (dVar 7) dNil)) (dCons (dC (.str "")) (dCons (dC (.str "start")) (dCons (dC (.str "\n")) (dCons (dC (.str "rest 0")) (dCons (dC (.str "start wr\n\n")) (dCons (dBin oAdd (dC (.str "start ")) (dBin oMulA (dC (.str "w")) (dC (.int 3000)))) dNil))))))))))))) (gN 9))
  (sSeq (sExpr (dMtL mAppend (dVar 8) (dCons (dCall F_law_pick (dCons (dVar 1) (dCons (dBin oAdd (dVar 9) (dLst (dCons (dBin oAdd (dC (.str "start rr\nvisit ")) (dBin oMulA (dC (.str "0")) (dC (.int 4000)))) (dCons (dTup (dCons (dTup (dCons (dC (.bl true)) (dCons (dC (.bl false)) dNil))) (dCons (dTup dNil) dNil))) dNil)))) dNil))) dNil)))
  (sFor (dEnum (dCons (dVar 8) dNil)) (gTup 2 (gCons (gN 5) (gCons (gN 10) gNil)))
  (sSeq (sAsg (dCB cRepr (dCons (dCall F_law_due (dCons (dVar 10) dNil)) dNil)) (gN 11))
  (sIf (tOrD (tV (dBin oNe (dCB cRepr (dCons (dCall F_law_heard (dCons (dVar 10) (dCons (dBin oEq (dVar 5) (dBin oMod (dVar 2) (dC (.int 6)))) dNil))) dNil)) (dVar 11))) (tAndD (tV (dBin oLt (dVar 5) (dC (.int 2)))) (tV (dBin oNe (dCB cRepr (dCons (dCall F_law_heard (dCons (dVar 10) (dCons (dC (.bl false)) dNil))) dNil)) (dVar 11))))) (sRet (dC (.bl false))) sNop))))))))))
  (sSeq (sAsg (dBin oMulA (dComp [5] (dRng (dCons (dC (.int 4)) dNil)) (gN 5) tTrue (dCall F_law_line (dCons (dCall F_law_deed (dCons (dVar 1) (dCons (dC (.int 6)) dNil))) dNil))) (dC (.int 100))) (gN 3))
  (sSeq (sAsg (dMtS mJoin (dC (.str "\n")) (dBin oAdd (dBin oAdd (dLst (dCons (dC (.str "start wr")) dNil)) (dVar 3)) (dCall F_law_pick (dCons (dVar 1) (dCons (dLst (dCons (dLst dNil) (dCons (dLst (dCons (dC (.str "rest 0")) dNil)) (dCons (dLst (dCons (dC (.str "x")) dNil)) (dCons (dLst (dCons (dC (.str "")) dNil)) (dCons (dLst (dCons (dC (.str "rest 0")) (dCons (dC (.str "x")) dNil))) dNil)))))) dNil))))) (gN 4))
  (sSeq (sAsg (dCall F_law_draw (dCons (dVar 1) (dCons (dC (.int 2)) dNil))) (gN 5))
  (sRet (dBin oEq (dCB cRepr (dCons (dCall F_law_heard (dCons (dVar 4) (dCons (dBin oEq (dVar 5) (dC (.int 0))) dNil))) dNil)) (dCB cRepr (dCons (dCall F_law_due (dCons (dVar 4) dNil)) dNil)))))))))
def F_law : Fn := runB 12 p_law
end K10

namespace K10
open PySem L2 PySem.Spec PyProof.Rows Den
/-! ### F. what the plain functions do -/
structure Deck (h : List Ob) (n m : Nat) : Prop where
  ne : n ≠ m
  ex : ∃ (s : Int) (xs : List Int), h[n]? = some (.dct [(.inr "deep", .ref m), (.inr "state", .int s)]) ∧ h[m]? = some (.lst (xs.map .int)) ∧ 0 ≤ s ∧ s < 2305843009213693951 ∧ (∀ x ∈ xs, 0 ≤ x) ∧ xs.length ≤ 63
theorem k_ds : (decide ((Sum.inr (Str.ofString "deep") : Key) = Sum.inr (Str.ofString "state"))) = false := by decide +kernel
theorem k_sd : (decide ((Sum.inr (Str.ofString "state") : Key) = Sum.inr (Str.ofString "deep"))) = false := by decide +kernel
theorem val_deep {m : Nat} {s : Int} : valD [(.inr (Str.ofString "deep"), .ref m), (.inr (Str.ofString "state"), .int s)] (.inr (Str.ofString "deep")) = some (.ref m) := by
  unfold valD; simp [List.find?]
theorem val_state {m : Nat} {s : Int} : valD [(.inr (Str.ofString "deep"), .ref m), (.inr (Str.ofString "state"), .int s)] (.inr (Str.ofString "state")) = some (.int s) := by
  unfold valD
  rw [List.find?_cons, k_ds]
  simp
theorem put_state {m : Nat} {s : Int} {d : D} : putD [(.inr (Str.ofString "deep"), .ref m), (.inr (Str.ofString "state"), .int s)] (.inr (Str.ofString "state")) d = [(.inr (Str.ofString "deep"), .ref m), (.inr (Str.ofString "state"), d)] := by
  unfold putD hasD
  have := of_decide_eq_false k_ds
  simp [this]
theorem put_deep {m : Nat} {s : Int} {d : D} : putD [(.inr (Str.ofString "deep"), .ref m), (.inr (Str.ofString "state"), .int s)] (.inr (Str.ofString "deep")) d = [(.inr (Str.ofString "deep"), d), (.inr (Str.ofString "state"), .int s)] := by
  unfold putD hasD
  have := of_decide_eq_false k_sd
  simp [this]
theorem ne_nil (S : DS) (xs : List Int) {m k : Nat} (hm : S.h[m]? = some (.lst (xs.map .int))) (hk : S.h[k]? = some (.lst [])) : oNe (.ref m) (.ref k) S = .ok (.bl (!xs.isEmpty)) S := by
  have e1 : pyD S (.ref m) = some (.list (xs.map .int)) := by
    show (match S.h[m]? with | some (.lst xs) => (xs.mapM (toPy S.h 19)).map PyData.list | _ => none) = _
    rw [hm]; dsimp only; rw [toPy_ints]; rfl
  have e2 : pyD S (.ref k) = some (.list []) := by
    show (match S.h[k]? with | some (.lst xs) => (xs.mapM (toPy S.h 19)).map PyData.list | _ => none) = _
    rw [hk]; rfl
  unfold oNe
  rw [e1, e2]
  dsimp only
  rw [if_pos (by rw [shaped_ints]; rfl)]
  cases xs <;> rfl
theorem draw_ok {h : List Ob} {n m : Nat} (dk : Deck h n m) {many : Int} (h1 : 1 ≤ many) (h2 : many < 1073741824) : Ok (F_law_draw [.ref n, .int many] h) fun d S => ∃ r, d = .int r ∧ 0 ≤ r ∧ r < many ∧ Deck S.h n m ∧ Kp n m h S.h := by
  have D0 := dk
  obtain ⟨ne, s, xs, hn, hm, s0, s1, x0, xl⟩ := dk
  have ln := lt_of_at hn
  have lm := lt_of_at hm
  apply ok_runB
  by_cases c : many < 2
  · simp [p_law_draw, c]
    exact ⟨h1, D0, Kp.refl _ _ _⟩
  · have hn2 := at_old (t := [.lst []]) hn
    have hm2 := at_old (t := [.lst []]) hm
    have q1 := ne_nil ⟨[some (.ref n), some (.int many), none, none, none], h ++ [.lst []]⟩ xs hm2 (at_new h _)
    rcases List.eq_nil_or_concat xs with hx | ⟨ys, y, hx⟩
    · subst hx
      simp at q1 hm
      simp [p_law_draw, c, hn, hm, q1, hn2, hm2, val_deep, val_state, put_state]
      have o0 : 0 ≤ (s * 1181783497276652981 + 88172645463325) % 2305843009213693951 := Int.emod_nonneg _ (by decide)
      have o1 : (s * 1181783497276652981 + 88172645463325) % 2305843009213693951 < 2305843009213693951 := Int.emod_lt_of_pos _ (by decide)
      generalize (s * 1181783497276652981 + 88172645463325) % 2305843009213693951 = one at o0 o1
      have o2 : -18446744073709551616 < one := by omega
      have o3 : one < 18446744073709551616 := by omega
      have o4 : 0 < many := by omega
      simp [o2, o3, o4]
      refine ⟨Int.emod_nonneg _ (by omega), Int.emod_lt_of_pos _ o4, ⟨ne, one, [], ?_, ?_, o0, o1, by simp, by simp⟩, ?_⟩
      · rw [List.getElem?_set_self (by simp; omega)]
      · rw [List.getElem?_set_ne ne]; exact hm2
      · intro k ob k1 k2 e
        rw [List.getElem?_set_ne (Ne.symm k1)]
        exact at_old e
    · rw [List.concat_eq_append] at hx
      subst hx
      have y0 : 0 ≤ y := x0 y (by simp)
      have o4 : 0 < many := by omega
      have g1 : ((h ++ [Ob.lst []]).set m (Ob.lst (ys.map D.int)))[n]? = some (.dct [(.inr "deep", .ref m), (.inr "state", .int s)]) := by
        rw [List.getElem?_set_ne (Ne.symm ne)]; exact hn2
      have g2 : ((h ++ [Ob.lst []]).set m (Ob.lst (ys.map D.int)))[m]? = some (.lst (ys.map D.int)) := by
        rw [List.getElem?_set_self (by simp; omega)]
      have yl : ys.length < 1000000 := by simp at xl; omega
      rw [show (ys ++ [y]).isEmpty = false by cases ys <;> rfl] at q1
      simp [p_law_draw, c, hn, hm, q1, hn2, hm2, val_deep, val_state, put_state]
      by_cases c2 : many ≤ y
      · simp [c2, g1, g2, val_deep, o4, h2, yl]
        refine ⟨Int.emod_nonneg _ (by omega), Int.emod_lt_of_pos _ o4, ⟨ne, s, ys ++ [y / many], ?_, ?_, s0, s1, ?_, ?_⟩, ?_⟩
        · rw [List.getElem?_set_ne (Ne.symm ne)]; exact hn2
        · rw [List.getElem?_set_self (by simp; omega)]; simp
        · intro x hx
          rcases List.mem_append.mp hx with hx | hx
          · exact x0 x (by simp [hx])
          · rw [List.mem_singleton.mp hx]; exact Int.ediv_nonneg y0 (by omega)
        · simp at xl ⊢; omega
        · intro k ob k1 k2 e
          rw [List.getElem?_set_ne (Ne.symm k2)]
          exact at_old e
      · simp [c2, o4]
        refine ⟨Int.emod_nonneg _ (by omega), Int.emod_lt_of_pos _ o4, ⟨ne, s, ys, g1, g2, s0, s1, ?_, ?_⟩, ?_⟩
        · exact fun x hx => x0 x (by simp [hx])
        · simp at xl ⊢; omega
        · intro k ob k1 k2 e
          rw [List.getElem?_set_ne (Ne.symm k2)]
          exact at_old e

theorem cut63 {ns : List Int} (hl : ns.length ≤ 63) : cutD (ns.map D.int) none (some 63) = ns.map D.int := by
  apply cut_whole
  rw [List.length_map]
  refine ⟨rfl, ?_⟩
  show (if (63 : Int) < 0 then ((63 : Int) + (ns.length : Int)).toNat else min (63 : Int).toNat ns.length) = ns.length
  rw [if_neg (by decide)]
  exact Nat.min_eq_right hl
def Dk (h : List Ob) (n w : Nat) (ns : List Int) (i : Nat) (S : DS) : Prop := ∃ (a2 a3 a4 : Option D) (m : Nat) (s : Int) (xs : List Int), S.loc = [some (.ro (ns.map D.int)), some (.ref n), a2, a3, a4] ∧ S.h[w]? = some (.lst (ns.map D.int)) ∧ n ≠ m ∧ w ≠ m ∧ n ≠ w ∧ S.h[n]? = some (.dct [(.inr "deep", .ref m), (.inr "state", .int s)]) ∧ S.h[m]? = some (.lst (xs.map D.int)) ∧ 0 ≤ s ∧ (∀ x ∈ xs, 0 ≤ x) ∧ xs.length ≤ i ∧ h.length ≤ n ∧ Kp0 h S.h ∧ s < 2305843009213693951
theorem merge_ds (m : Nat) (s : Int) : mergeD [] [(.inr (Str.ofString "deep"), .ref m), (.inr (Str.ofString "state"), .int s)] = [(.inr (Str.ofString "deep"), .ref m), (.inr (Str.ofString "state"), .int s)] := by
  show putD (putD [] (.inr (Str.ofString "deep")) (.ref m)) (.inr (Str.ofString "state")) (.int s) = _
  have := of_decide_eq_false k_ds
  simp [putD, hasD, this]
theorem deck_ok {ns : List Int} (hl : ns.length ≤ 63) (h : List Ob) : Ok (F_law_deck [.ro (ns.map D.int)] h) fun d S => ∃ n m, d = .ref n ∧ Deck S.h n m ∧ Kp0 h S.h := by
  apply ok_runB
  simp [p_law_deck, dDict, evPairs, keyPairs, keyOf, cut63 hl, at_new, sFor, dIter, iOf, merge_ds]
  apply ok_forO (Dk h (h.length + 2) (h.length + 3) ns) (ns.map D.int)
  · rw [List.length_map]; omega
  · refine ⟨none, none, none, h.length, _, [], rfl, by simp, by omega, by omega, by omega, by simp; rfl, by simp, by omega, by simp, by simp, by omega, Kp0.app _ _, by omega⟩
  · rintro i S ⟨_, _, _, _, _, _, _, e, _⟩
    exact e
  · rintro i d ⟨loc, hh⟩ hd ⟨a2, a3, a4, m, s, xs, rfl, hw, nm, wm, nw, hn, hm, s0, x0, xl, hln, kp, s1⟩
    dsimp only at hw hn hm kp
    obtain ⟨c, hc, rfl⟩ : ∃ c, ns[i]? = some c ∧ d = .int c := by
      rw [List.getElem?_map] at hd
      cases q : ns[i]? with
      | none => rw [q] at hd; cases hd
      | some c => rw [q] at hd; cases hd; exact ⟨c, rfl, rfl⟩
    refine ⟨_, rfl, ?_⟩
    simp [hn, hm, val_deep, val_state, put_deep, put_state]
    have ln := lt_of_at hn
    have lm := lt_of_at hm
    have lw := lt_of_at hw
    have w0 : 0 ≤ if c < 0 then -c else c := by split <;> omega
    generalize (if c < 0 then -c else c) = whole at w0
    have hk : ∀ k ob, h[k]? = some ob → k ≠ h.length + 2 := fun k ob e q => by have := lt_of_at e; omega
    by_cases big : 1000000000000000000 ≤ whole
    · have g1 : (hh ++ [Ob.lst [.int whole]])[h.length + 2]? = some (.dct [(.inr "deep", .ref m), (.inr "state", .int s)]) := at_old hn
      have g2 : (hh ++ [Ob.lst [.int whole]])[m]? = some (.lst (xs.map D.int)) := at_old hm
      have g3 : (hh ++ [Ob.lst [.int whole]])[hh.length]? = some (.lst [.int whole]) := at_new _ _
      have g4 : (hh ++ [Ob.lst [D.int whole], Ob.lst (D.int whole :: xs.map D.int)])[h.length + 2]? = some (.dct [(.inr "deep", .ref m), (.inr "state", .int s)]) := at_old hn
      have g5 : (hh ++ [Ob.lst [D.int whole], Ob.lst (D.int whole :: xs.map D.int)])[h.length + 3]? = some (.lst (ns.map D.int)) := at_old hw
      have li : i < ns.length := (List.getElem?_eq_some_iff.mp hc).1
      have e1 : 1 + xs.length ≤ 1000000 := by omega
      have g6 : ((hh ++ [Ob.lst [D.int whole], Ob.lst (D.int whole :: xs.map D.int)]).set (h.length + 2) (.dct [(.inr "deep", .ref (hh.length + 1)), (.inr "state", .int s)]))[h.length + 2]? = some (.dct [(.inr "deep", .ref (hh.length + 1)), (.inr "state", .int s)]) := List.getElem?_set_self (by simp; omega)
      simp [big, g1, g2, g3, g4, g6, val_deep, val_state, put_deep, put_state, e1]
      refine ⟨some (.int c), some (.int whole), _, hh.length + 1, _, whole :: xs, rfl, ?_, ?_, ?_, nw, List.getElem?_set_self (by simp; omega), ?_, ?_, ?_, ?_, hln, ?_, ?_⟩
      · rw [List.getElem?_set_ne (by omega)]; exact g5
      · omega
      · omega
      · rw [List.getElem?_set_ne (by omega), List.getElem?_append_right (by omega)]; simp
      · exact Int.emod_nonneg _ (by decide)
      · exact fun x hx => by
          rcases List.mem_cons.mp hx with rfl | hx
          · exact w0
          · exact x0 x hx
      · simp; omega
      · intro k ob e
        rw [List.getElem?_set_ne (Ne.symm (hk k ob e))]
        exact at_old (kp k ob e)
      · exact Int.emod_lt_of_pos _ (by decide)
    · simp [big, hn, val_state, put_state]
      refine ⟨some (.int c), some (.int whole), _, m, _, xs, rfl, ?_, nm, wm, nw, List.getElem?_set_self ln, ?_, ?_, x0, ?_, hln, ?_, ?_⟩
      · rw [List.getElem?_set_ne (by omega)]; exact hw
      · rw [List.getElem?_set_ne nm]; exact hm
      · exact Int.emod_nonneg _ (by decide)
      · omega
      · intro k ob e
        rw [List.getElem?_set_ne (Ne.symm (hk k ob e))]
        exact kp k ob e
      · exact Int.emod_lt_of_pos _ (by decide)
  · rintro ⟨loc, hh⟩ ⟨a2, a3, a4, m, s, xs, rfl, hw, nm, wm, nw, hn, hm, s0, x0, xl, hln, kp, s1⟩
    dsimp only at hw hn hm kp
    rw [List.length_map] at xl
    simp
    exact ⟨⟨m, nm, s, xs, hn, hm, s0, s1, x0, by omega⟩, kp⟩

theorem Deck.keep {h h' : List Ob} {n m : Nat} (dk : Deck h n m) (k : Kp0 h h') : Deck h' n m := by
  obtain ⟨ne, s, xs, hn, hm, r⟩ := dk
  exact ⟨ne, s, xs, k _ _ hn, k _ _ hm, r⟩
theorem Deck.lst {h : List Ob} {n m k : Nat} {xs : List D} (dk : Deck h n m) (hk : h[k]? = some (.lst xs)) : k ≠ n := by
  obtain ⟨ne, s, ys, hn, hm, r⟩ := dk
  rintro rfl
  rw [hn] at hk; cases hk
theorem pick_ok {h : List Ob} {n m k : Nat} (dk : Deck h n m) {xs : List D} (hk : h[k]? = some (.lst xs)) (km : k ≠ m) (h1 : 1 ≤ xs.length) (h2 : xs.length < 1000000) : Ok (F_law_pick [.ref n, .ref k] h) fun d S => d ∈ xs ∧ Deck S.h n m ∧ Kp n m h S.h := by
  apply ok_runB
  obtain ⟨d1, S1, e1, r, rfl, r0, r1, D1, k1⟩ := (draw_ok dk (many := xs.length) (by omega) (by omega)).ex
  obtain ⟨d, hd, hm⟩ := atI_nat r0 r1
  have hk1 := k1 k _ (dk.lst hk) km hk
  simp [p_law_pick, hk, e1, hk1, hd]
  exact ⟨hm, D1, k1⟩
end K10

namespace K10
open PySem L2 PySem.Spec PyProof.Rows Den
/-! ### G. the program, and the law's own reader -/
theorem look_map {α β γ : Type} [BEq α] (f : β → γ) (k : α) : ∀ l : List (α × β), (l.map fun p => (p.1, f p.2)).lookup k = (l.lookup k).map f
  | [] => rfl
  | (a, b) :: l => by
    rw [List.map_cons, List.lookup_cons, List.lookup_cons, look_map f k l]
    cases k == a <;> rfl
theorem look_mem {α β : Type} [BEq α] [LawfulBEq α] {k : α} {v : β} : ∀ {l : List (α × β)}, l.lookup k = some v → (k, v) ∈ l
  | [], h => by cases h
  | (a, b) :: l, h => by
    rw [List.lookup_cons] at h
    by_cases e : k = a
    · subst e
      rw [beq_self_eq_true] at h
      cases h
      exact List.mem_cons_self
    · rw [beq_false_of_ne e] at h
      exact List.mem_cons_of_mem _ (look_mem h)
theorem look_some {α β : Type} [BEq α] [LawfulBEq α] (k : α) : ∀ l : List (α × β), (l.lookup k).isSome = (l.map (·.1)).any (fun u => u == k)
  | [] => rfl
  | (a, b) :: l => by
    rw [List.lookup_cons, List.map_cons, List.any_cons, ← look_some k l]
    by_cases e : k = a
    · subst e
      rw [beq_self_eq_true]
      rfl
    · rw [beq_false_of_ne e, beq_false_of_ne (Ne.symm e)]
      rfl
def macT : List (Str × Int) := [("0", 0), ("1", 1), ("2", 2), ("3", 3), ("4", 4), ("5", 5)]
def sizT : List (Str × Int) := [("get", 3), ("rest", 2), ("send", 3), ("visit", 2)]
def machI (w : Str) : Option Int := macT.lookup w
def sizeI (w : Str) : Option Int := sizT.lookup w
def oD (o : Option Int) : D := (o.map D.int).getD .non
theorem tbM (w : Str) : (tb_MACHINES.lookup w).getD .non = oD (machI w) := by
  rw [show tb_MACHINES = macT.map (fun p => (p.1, D.int p.2)) from rfl, look_map]; rfl
theorem tbS (w : Str) : (tb_DEED_SIZES.lookup w).getD .non = oD (sizeI w) := by
  rw [show tb_DEED_SIZES = sizT.map (fun p => (p.1, D.int p.2)) from rfl, look_map]; rfl
theorem mach_in {w : Str} {n : Int} (h : machI w = some n) : 0 ≤ n ∧ n < 6 ∧ PySem.intText? w = some n ∧ w.length ≤ 640 ∧ Good w := by
  have := look_mem h
  unfold macT at this
  simp only [List.mem_cons, Prod.mk.injEq, List.not_mem_nil, or_false] at this
  rcases this with ⟨rfl, rfl⟩ | ⟨rfl, rfl⟩ | ⟨rfl, rfl⟩ | ⟨rfl, rfl⟩ | ⟨rfl, rfl⟩ | ⟨rfl, rfl⟩ <;> exact ⟨by decide, by decide, by decide +kernel, by decide +kernel, good_of (by decide +kernel)⟩
theorem eq_oD {S : DS} (o : Option Int) (n : Int) : oEq (oD o) (.int n) S = .ok (.bl (o == some n)) S := by
  cases o with
  | none => rfl
  | some i => rfl
theorem at0 {α : Type} (x : α) (xs : List α) : atI (x :: xs) 0 = some x := by
  unfold atI ixN
  rw [if_pos (by decide), if_pos (by simp)]
  rfl
theorem at1 {α : Type} (x y : α) (xs : List α) : atI (x :: y :: xs) 1 = some y := by
  unfold atI ixN
  rw [if_pos (by decide), if_pos (by simp; omega)]
  rfl
theorem cut1 (x : D) (xs : List D) : cutD (x :: xs) (some 1) none = xs := by
  have e : HT.sIx (x :: xs).length 0 (some 1) = 1 := by
    unfold HT.sIx
    simp
  unfold Den.cutD
  rw [e]
  show List.take ((x :: xs).length - 1) (List.drop 1 (x :: xs)) = xs
  simp
theorem bls_map : ∀ bs : List Bool, blsOf (bs.map D.bl) = some bs
  | [] => rfl
  | b :: bs => by
    show (blsOf (bs.map D.bl)).map (fun z => b :: z) = _
    rw [bls_map bs]; rfl
theorem isint_ok (i : Int) (h : List Ob) : F_is_integer [.int i] h = .ok (.bl true) ⟨[], h⟩ := by
  refine runB_ret (S := ⟨[some (.int i)], h⟩) ?_
  simp [p_is_integer, show isaB "int" "int" = some true by decide, show isaB "int" "bool" = some false by decide]
theorem isint_non (h : List Ob) : F_is_integer [.non] h = .ok (.bl false) ⟨[], h⟩ := by
  refine runB_ret (S := ⟨[some .non], h⟩) ?_
  simp [p_is_integer, show isaB "NoneType" "int" = some false by decide]
theorem ismach_ok (i : Int) (h : List Ob) : F_is_machine [.int i, .int 6] h = .ok (.bl (decide (0 ≤ i) && decide (i < 6))) ⟨[], h⟩ := by
  refine runB_ret (S := ⟨[some (.int i), some (.int 6)], h⟩) ?_
  simp [p_is_machine, isint_ok]
  by_cases c : 0 ≤ i <;> simp [c]
theorem ismach_non (h : List Ob) : F_is_machine [.non, .int 6] h = .ok (.bl false) ⟨[], h⟩ := by
  refine runB_ret (S := ⟨[some .non, some (.int 6)], h⟩) ?_
  simp [p_is_machine, isint_non]
theorem ismany_ok (i : Int) (h : List Ob) : F_is_many [.int i] h = .ok (.bl (decide (2 ≤ i) && decide (i ≤ 6))) ⟨[], h⟩ := by
  refine runB_ret (S := ⟨[some (.int i)], h⟩) ?_
  simp [p_is_many, isint_ok, g_MAX_MACHINES]
  by_cases c : 2 ≤ i <;> simp [c]
theorem form_ok (w : Str) (ds : List D) (h : List Ob) : F_has_form [.tup (.str w :: ds)] h = .ok (.bl (sizeI w == some ((ds.length : Int) + 1))) ⟨[], h⟩ := by
  refine runB_ret (S := ⟨[some (.tup (.str w :: ds))], h⟩) ?_
  simp [p_has_form, show isaB "tuple" "tuple" = some true by decide, show isaB "str" "str" = some true by decide, at0, tbS, eq_oD]
def okM (os : List (Option Int)) : Prop := ∀ o ∈ os, ∀ i, o = some i → 0 ≤ i ∧ i < 6
def isM (d : D) : Option D := match d with
  | .int i => some (.bl (decide (0 ≤ i) && decide (i < 6)))
  | _ => some (.bl false)
theorem isM_all {os : List (Option Int)} (ok : okM os) : (os.map oD).filterMap isM = (os.map (·.isSome)).map D.bl := by
  induction os with
  | nil => rfl
  | cons o os ih =>
    rw [List.map_cons, List.filterMap_cons, ih fun z hz => ok z (List.mem_cons_of_mem _ hz)]
    cases o with
    | none => rfl
    | some i =>
      obtain ⟨h1, h2⟩ := ok (some i) (by simp) i rfl
      simp [oD, isM, h1, h2]
def hmB (os : List (Option Int)) : Bool := match os with
  | [some _] => true
  | [some a, some b] => !(a == b)
  | _ => false
theorem hm_ok {w : Str} {os : List (Option Int)} (ok : okM os) (hl : os.length = 1 ∨ os.length = 2) (h : List Ob) : Ok (F_has_machines [.tup (.str w :: os.map oD), .int 6] h) fun d S => d = .bl (hmB os) ∧ Kp0 h S.h := by
  apply ok_runB
  have c : dComp [3] (dIter (dVar 2)) (gN 3) tTrue (dCall F_is_machine (dCons (dVar 3) (dCons (dVar 1) dNil))) ⟨[some (.tup (.str w :: os.map oD)), some (.int 6), some (.tup (os.map oD)), none], h⟩ = _ :=
    comp_pure isM (iter_tup (xs := os.map oD) rfl) rfl (by rw [List.length_map]; omega) fun d hd => by
      obtain ⟨o, ho, rfl⟩ := List.mem_map.mp hd
      cases o with
      | none => exact ⟨_, rfl, by simp [oD, isM, ismach_non]⟩
      | some i => exact ⟨_, rfl, by simp [oD, isM, ismach_ok]⟩
  rw [isM_all ok] at c
  dsimp only at c
  simp [p_has_machines, cut1, c, bls_map, -List.map_map]
  rcases hl with hl | hl
  · match os, hl with
    | [none], _ => simp [hmB]; exact Kp0.app _ _
    | [some a], _ => simp [hmB, oD]; exact Kp0.app _ _
  · match os, hl with
    | [none, o], _ => simp [hmB]; exact Kp0.app _ _
    | [some a, none], _ => simp [hmB]; exact Kp0.app _ _
    | [some a, some b], _ => simp [hmB, oD, at0, at1]; exact Kp0.app _ _
end K10

namespace K10
open PySem L2 PySem.Spec PyProof.Rows Den
theorem okM_of (ws : List Str) : okM (ws.map machI) := fun o ho i e => by
  obtain ⟨w, _, rfl⟩ := List.mem_map.mp ho
  obtain ⟨h1, h2, _⟩ := mach_in e
  exact ⟨h1, h2⟩
theorem size_in {w : Str} {n : Int} (h : sizeI w = some n) : (n = 2 ∨ n = 3) ∧ (w = "get" ∨ w = "rest" ∨ w = "send" ∨ w = "visit") := by
  have := look_mem h
  unfold sizT at this
  simp only [List.mem_cons, Prod.mk.injEq, List.not_mem_nil, or_false] at this
  rcases this with ⟨rfl, rfl⟩ | ⟨rfl, rfl⟩ | ⟨rfl, rfl⟩ | ⟨rfl, rfl⟩
  · exact ⟨.inr rfl, .inl rfl⟩
  · exact ⟨.inl rfl, .inr (.inl rfl)⟩
  · exact ⟨.inr rfl, .inr (.inr (.inl rfl))⟩
  · exact ⟨.inl rfl, .inr (.inr (.inr rfl))⟩
def valsO (os : List (Option Int)) : List Int := os.filterMap id
def deedW (w : Str) (os : List (Option Int)) : Option (Str × List Int) := if (sizeI w == some ((os.length : Int) + 1)) && hmB os then some (w, valsO os) else none
def deedD (p : Str × List Int) : D := .tup (.str p.1 :: p.2.map .int)
def deedO (o : Option (Str × List Int)) : D := match o with
  | some p => deedD p
  | none => .non
def deedL (l : Str) : Option (Str × List Int) := match Txt.split l " " with
  | w :: ws => deedW w (ws.map machI)
  | [] => none
theorem hm_tup {os : List (Option Int)} (h : hmB os = true) : (valsO os).map D.int = os.map oD := by
  unfold hmB at h
  split at h
  · rfl
  · rfl
  · cases h
theorem sp_len : (Str.ofString " ").length = 1 := by decide +kernel
theorem sp_ne : Txt.split ⟨#[]⟩ " " ≠ [] := by decide +kernel
theorem nl_len : (Str.ofString "\n").length = 1 := by decide +kernel
theorem nl_ne : Txt.split ⟨#[]⟩ "\n" ≠ [] := by decide +kernel
def getM (d : D) : Option D := match d with
  | .str s => some (oD (machI s))
  | _ => none
theorem getM_all : ∀ ws : List Str, (ws.map D.str).filterMap getM = ws.map fun s => oD (machI s)
  | [] => rfl
  | w :: ws => by
    rw [List.map_cons, List.filterMap_cons, List.map_cons, getM_all ws]; rfl
theorem deed_of_ok {l : Str} (ll : l.length ≤ 20000) (h : List Ob) : Ok (F_deed_of [.str l, .int 6] h) fun d S => d = deedO (deedL l) ∧ Kp0 h S.h := by
  apply ok_runB
  obtain ⟨w, ws, hs⟩ := split_some (x := l) sp_ne
  have hc := split_count (x := l) (y := " ") (by rw [show ((" " : Str)).length = 1 from sp_len]; omega)
  rw [hs, show ((" " : Str)).length = 1 from sp_len, List.length_cons] at hc
  have c : dComp [4] (dIter (dSl (dVar 2) (dPS (dC (.int 1))) dPN)) (gN 4) tTrue (dKGet tb_MACHINES (dVar 4)) ⟨[some (.str l), some (.int 6), some (.ref h.length), none, none], h ++ [Ob.lst (D.str w :: ws.map D.str), Ob.lst [D.str w]]⟩ = _ :=
    comp_pure getM (iter_tail rfl (x := .str w) (xs := ws.map D.str) (by simp)) (over_lst (at_new _ _)) (by rw [List.length_map]; omega) fun d hd => by
      obtain ⟨s, hs, rfl⟩ := List.mem_map.mp hd
      exact ⟨_, rfl, by simp [getM, tbM]⟩
  rw [getM_all] at c
  have q1 : l.length + 2 ≤ 1000000 := by omega
  have q2 : 1 + ws.length ≤ 1000000 := by omega
  have e0 : atI (D.str w :: ws.map D.str) 0 = some (.str w) := at0 _ _
  simp [p_deed_of, sp_len, q1, hs, at0, e0, c, q2, z_addL]
  rw [show (ws.map fun s => oD (machI s)) = (ws.map machI).map oD by simp]
  simp [form_ok, g_MAX_MACHINES, -List.map_map]
  have dl : deedL l = deedW w (ws.map machI) := by unfold deedL; rw [hs]
  by_cases z : sizeI w = some ((ws.length : Int) + 1)
  · have hl : (ws.map machI).length = 1 ∨ (ws.map machI).length = 2 := by
      have := (size_in z).1
      rw [List.length_map]; omega
    obtain ⟨d, S, e, rfl, k⟩ := (hm_ok (w := w) (okM_of ws) hl (h ++ [Ob.lst (D.str w :: ws.map D.str), Ob.lst [D.str w], Ob.lst (ws.map D.str), Ob.lst ((ws.map machI).map oD), Ob.lst (D.str w :: (ws.map machI).map oD)])).ex
    simp [z, e, -List.map_map]
    cases hb : hmB (ws.map machI) with
    | true =>
      simp [dl, deedW, z, hb, deedO, deedD, hm_tup hb, -List.map_map]
      exact (Kp0.app _ _).trans k
    | false =>
      simp [dl, deedW, z, hb, deedO]
      exact (Kp0.app _ _).trans k
  · simp [z, dl, deedW, deedO]
    exact Kp0.app _ _
end K10

namespace K10
open PySem L2 PySem.Spec PyProof.Rows Den
/-! ### H. the law's own reader -/
def notM (d : D) : Option D := match d with
  | .str s => if (machI s).isSome then none else some (.str s)
  | _ => none
def badS (ws : List Str) : List Str := ws.filter fun s => !(machI s).isSome
def okS (ws : List Str) : Bool := (ws.map machI).all (·.isSome)
theorem bad_emp : ∀ ws : List Str, (badS ws).isEmpty = okS ws
  | [] => rfl
  | w :: ws => by
    have ih := bad_emp ws
    unfold badS okS at ih ⊢
    rw [List.map_cons, List.all_cons, List.filter_cons, ← ih]
    cases (machI w).isSome <;> simp
theorem bad_mem {ws : List Str} {s : Str} (h : s ∈ badS ws) : s ∈ ws := (List.mem_filter.mp h).1
theorem notM_all : ∀ ws : List Str, (ws.map D.str).filterMap notM = (badS ws).map D.str
  | [] => rfl
  | w :: ws => by
    rw [List.map_cons, List.filterMap_cons, notM_all ws]
    unfold notM badS
    rw [List.filter_cons]
    dsimp only
    cases (machI w).isSome <;> rfl
def intM (d : D) : Option D := match d with
  | .str s => (machI s).map .int
  | _ => none
theorem intM_all : ∀ {ws : List Str} {is : List Int}, ws.map machI = is.map some → (ws.map D.str).filterMap intM = is.map D.int
  | [], is, h => by
    cases is with
    | nil => rfl
    | cons _ _ => cases h
  | w :: ws, is, h => by
    cases is with
    | nil => cases h
    | cons i is =>
      rw [List.map_cons, List.map_cons] at h
      injection h with h1 h2
      rw [List.map_cons, List.filterMap_cons, List.map_cons, intM_all h2]
      unfold intM
      dsimp only
      rw [h1]
      rfl
theorem all_some : ∀ {os : List (Option Int)}, os.all (·.isSome) = true → ∃ is : List Int, os = is.map some
  | [], _ => ⟨[], rfl⟩
  | o :: os, h => by
    rw [List.all_cons, Bool.and_eq_true] at h
    obtain ⟨is, rfl⟩ := all_some h.2
    cases o with
    | none => cases h.1
    | some i => exact ⟨i :: is, rfl⟩
def six : List Str := ["0", "1", "2", "3", "4", "5"]
theorem gSix : ∀ u ∈ six, Good u := by
  intro u hu
  unfold six at hu
  simp only [List.mem_cons, List.not_mem_nil, or_false] at hu
  rcases hu with rfl | rfl | rfl | rfl | rfl | rfl <;> exact good_of (by decide +kernel)
theorem in_six {S : DS} {s : Str} (g : Good s) : oNotIn (.str s) (.tup [.str "0", .str "1", .str "2", .str "3", .str "4", .str "5"]) S = .ok (.bl (!(machI s).isSome)) S := by
  refine (oNotIn_strs (us := six) g gSix).trans ?_
  rw [show (machI s).isSome = six.any fun u => u == s from look_some s macT]
theorem in_two {S : DS} {s a b : Str} (g : Good s) (ga : Good a) (gb : Good b) : oIn (.str s) (.tup [.str a, .str b]) S = .ok (.bl (a == s || b == s)) S := by
  refine (oIn_strs (us := [a, b]) g (fun u hu => ?_)).trans ?_
  · simp only [List.mem_cons, List.not_mem_nil, or_false] at hu
    rcases hu with rfl | rfl
    · exact ga
    · exact gb
  · simp
theorem size2 (w : Str) : (sizeI w == some 2) = (("rest" : Str) == w || ("visit" : Str) == w) := by
  by_cases h1 : w = "get"
  · subst h1; decide +kernel
  by_cases h2 : w = "rest"
  · subst h2; decide +kernel
  by_cases h3 : w = "send"
  · subst h3; decide +kernel
  by_cases h4 : w = "visit"
  · subst h4; decide +kernel
  have : sizeI w = none := by
    cases e : sizeI w with
    | none => rfl
    | some n => rcases (size_in e).2 with z | z | z | z <;> contradiction
  rw [this, beq_false_of_ne (Ne.symm h2), beq_false_of_ne (Ne.symm h4)]
  rfl
theorem size3 (w : Str) : (sizeI w == some 3) = (("send" : Str) == w || ("get" : Str) == w) := by
  by_cases h1 : w = "get"
  · subst h1; decide +kernel
  by_cases h2 : w = "rest"
  · subst h2; decide +kernel
  by_cases h3 : w = "send"
  · subst h3; decide +kernel
  by_cases h4 : w = "visit"
  · subst h4; decide +kernel
  have : sizeI w = none := by
    cases e : sizeI w with
    | none => rfl
    | some n => rcases (size_in e).2 with z | z | z | z <;> contradiction
  rw [this, beq_false_of_ne (Ne.symm h3), beq_false_of_ne (Ne.symm h1)]
  rfl
theorem size_no (w : Str) (n : Int) (h2 : n ≠ 2) (h3 : n ≠ 3) : (sizeI w == some n) = false := by
  cases e : sizeI w with
  | none => rfl
  | some m =>
    have := (size_in e).1
    apply beq_false_of_ne
    intro z
    injection z with z
    omega
def deedOL (o : Option (Str × List Int)) : List D := match o with
  | some p => [deedD p]
  | none => []
theorem gW {w : String} (h : goodB w = true) : Good (w : Str) := good_of h
theorem deed_in_ok {l : Str} (gl : Good l) (ll : l.length ≤ 20000) (h : List Ob) : Ok (F_law_deed_in [.str l] h) fun d S => ∃ k, d = .ref k ∧ S.h[k]? = some (.lst (deedOL (deedL l))) ∧ Kp0 h S.h ∧ h.length ≤ k := by
  apply ok_runB
  obtain ⟨w, ws, hs⟩ := split_some (x := l) sp_ne
  have hc := split_count (x := l) (y := " ") (by rw [show ((" " : Str)).length = 1 from sp_len]; omega)
  rw [hs, show ((" " : Str)).length = 1 from sp_len, List.length_cons] at hc
  have gs := good_split gl (y := " ")
  rw [hs] at gs
  have gw : Good w := gs w (by simp)
  have gws : ∀ s ∈ ws, Good s := fun s z => gs s (List.mem_cons_of_mem _ z)
  have dl : deedL l = deedW w (ws.map machI) := by unfold deedL; rw [hs]
  have c : dComp [3] (dIter (dSl (dVar 1) (dPS (dC (.int 1))) dPN)) (gN 3) (tV (dBin oNotIn (dVar 3) (dTup (dCons (dC (.str "0")) (dCons (dC (.str "1")) (dCons (dC (.str "2")) (dCons (dC (.str "3")) (dCons (dC (.str "4")) (dCons (dC (.str "5")) dNil))))))))) (dVar 3) ⟨[some (.str l), some (.ref h.length), none, none], h ++ [Ob.lst (D.str w :: ws.map D.str)]⟩ = _ :=
    comp_pure notM (iter_tail rfl (x := .str w) (xs := ws.map D.str) (by simp)) (over_lst (at_new _ _)) (by rw [List.length_map]; omega) fun d hd => by
      obtain ⟨s, hs, rfl⟩ := List.mem_map.mp hd
      refine ⟨_, rfl, ?_⟩
      cases q : (machI s).isSome with
      | true => simp [notM, q, in_six (gws s hs)]
      | false => simp [notM, q, in_six (gws s hs)]
  rw [notM_all] at c
  have q1 : l.length + 2 ≤ 1000000 := by omega
  have ne : ∀ loc, oNe (.ref (h.length + 2)) (.ref (h.length + 3)) ⟨loc, h ++ [Ob.lst (D.str w :: ws.map D.str), Ob.lst (ws.map D.str), Ob.lst ((badS ws).map D.str), Ob.lst []]⟩ = .ok (.bl (!(badS ws).isEmpty)) ⟨loc, h ++ [Ob.lst (D.str w :: ws.map D.str), Ob.lst (ws.map D.str), Ob.lst ((badS ws).map D.str), Ob.lst []]⟩ := fun loc =>
    ne_strs (fun s z => gws s (bad_mem z)) (by simp) (by simp)
  simp [p_law_deed_in, sp_len, q1, hs, c, ne, bad_emp]
  by_cases z : okS ws = true
  · have al : (ws.map machI).all (·.isSome) = true := z
    obtain ⟨is, his⟩ := all_some al
    have hlen : ws.length = is.length := by
      have := congrArg List.length his
      simpa using this
    have c2 : dComp [3] (dIter (dSl (dVar 1) (dPS (dC (.int 1))) dPN)) (gN 3) tTrue (dCB cIntA (dCons (dVar 3) dNil)) ⟨[some (.str l), some (.ref h.length), none, none], h ++ [Ob.lst (D.str w :: ws.map D.str), Ob.lst (ws.map D.str), Ob.lst ((badS ws).map D.str), Ob.lst []]⟩ = _ :=
      comp_pure intM (iter_tail rfl (x := .str w) (xs := ws.map D.str) (by simp)) (over_lst (at_new _ _)) (by rw [List.length_map]; omega) fun d hd => by
        obtain ⟨s, hs, rfl⟩ := List.mem_map.mp hd
        refine ⟨_, rfl, ?_⟩
        have : (machI s).isSome = true := by
          rw [List.all_map, List.all_eq_true] at al
          exact al s hs
        obtain ⟨n, hn⟩ := Option.isSome_iff_exists.mp this
        obtain ⟨_, _, m1, m2, _⟩ := mach_in hn
        simp [intM, hn, m1, m2]
    rw [intM_all his] at c2
    have e0 : ∀ ds : List D, atI (D.str w :: ds) 0 = some (.str w) := fun ds => at0 _ _
    have i1 : ∀ S, oIn (.str w) (.tup [.str "rest", .str "visit"]) S = .ok (.bl (sizeI w == some 2)) S := fun S => by
      rw [size2]; exact in_two gw (good_of (by decide +kernel)) (good_of (by decide +kernel))
    have i2 : ∀ S, oIn (.str w) (.tup [.str "send", .str "get"]) S = .ok (.bl (sizeI w == some 3)) S := fun S => by
      rw [size3]; exact in_two gw (good_of (by decide +kernel)) (good_of (by decide +kernel))
    rw [z]
    have dl2 : deedL l = deedW w (is.map some) := by rw [dl, his]
    simp [c2, e0, i1, i2, dl2]
    have no : ∀ n : Int, n ≠ 2 → n ≠ 3 → ¬ sizeI w = some n := fun n h2 h3 e => by
      have := (size_in e).1
      omega
    have n1 := no 1 (by decide) (by decide)
    by_cases h2 : sizeI w = some 2
    · match is with
      | [] => simp [e0, i1, i2, deedW, deedOL, h2]; exact Kp0.app _ _
      | [a] => simp [e0, i1, i2, deedW, hmB, valsO, deedOL, deedD, at0, h2]; exact Kp0.app _ _
      | [a, b] => simp [e0, i1, i2, deedW, deedOL, h2]; exact Kp0.app _ _
      | a :: b :: c :: r =>
        have e1 : ¬ ((r.length : Int) + 1 + 1 + 1 = 1) := by omega
        have e2 : ¬ ((2 : Int) = (r.length : Int) + 1 + 1 + 1 + 1) := by omega
        simp [e0, i1, i2, deedW, deedOL, h2, e1, e2]; exact Kp0.app _ _
    · by_cases h3 : sizeI w = some 3
      · match is with
        | [] => simp [e0, i1, i2, deedW, deedOL, h3]; exact Kp0.app _ _
        | [a] => simp [e0, i1, i2, deedW, deedOL, h3]; exact Kp0.app _ _
        | [a, b] =>
          by_cases ab : a = b
          · simp [e0, i1, i2, deedW, hmB, deedOL, deedD, at0, at1, h3, ab]; exact Kp0.app _ _
          · simp [e0, i1, i2, deedW, hmB, valsO, deedOL, deedD, at0, at1, h3, ab]; exact Kp0.app _ _
        | a :: b :: c :: r =>
          have e1 : ¬ ((r.length : Int) + 1 + 1 + 1 = 2) := by omega
          have e2 : ¬ ((3 : Int) = (r.length : Int) + 1 + 1 + 1 + 1) := by omega
          simp [e0, i1, i2, deedW, deedOL, h3, e1, e2]; exact Kp0.app _ _
      · have e1 : deedW w (is.map some) = none := by
          unfold deedW
          rw [if_neg]
          intro q
          rw [Bool.and_eq_true] at q
          have q2 := q.1
          rw [beq_iff_eq] at q2
          have := (size_in q2).1
          rcases this with z | z
          · rw [z] at q2; exact h2 q2
          · rw [z] at q2; exact h3 q2
        simp [e0, i1, i2, h2, h3, e1, deedOL]; exact Kp0.app _ _
  · rw [Bool.not_eq_true] at z
    rw [z]
    have e1 : deedW w (ws.map machI) = none := by
      unfold deedW
      have : hmB (ws.map machI) = false := by
        have na : (ws.map machI).all (·.isSome) = false := z
        generalize ws.map machI = os at na
        unfold hmB
        split
        · simp at na
        · simp at na
        · rfl
      rw [this, Bool.and_false]; rfl
    simp [dl, e1, deedOL]
    exact Kp0.app _ _
end K10

namespace K10
open PySem L2 PySem.Spec PyProof.Rows Den
/-! ### I. starts -/
def one (c : Nat) : Str := ⟨#[c]⟩
def wr (c : Nat) : Bool := c == 119 || c == 114
def sgS (l : Str) : Str := cutS l (some 6) none
def sg (l : Str) : List Nat := (sgS l).cps.toList
def worksL (l : Str) : Option (List Bool) := if (cutS l none (some 6) == ("start " : Str)) && (decide (2 ≤ (sg l).length) && decide ((sg l).length ≤ 6)) && (sg l).all wr then some ((sg l).map fun c => c == 119) else none
theorem st_len : (Str.ofString "start ").length = 6 := by decide +kernel
theorem w_is : Str.ofString "w" = one 119 := by decide +kernel
theorem r_is : Str.ofString "r" = one 114 := by decide +kernel
theorem wr_is : (Str.ofString "wr").cps.toList = [119, 114] := by decide +kernel
theorem wr_len : (Str.ofString "wr").length = 2 := by decide +kernel
theorem one_eq (c d : Nat) : (one c == one d) = (c == d) := one_of
theorem sg_len (l : Str) : (sgS l).length = (sg l).length := by
  unfold sg
  show (sgS l).cps.size = _
  rw [Array.length_toList]
theorem sg_good {l : Str} (g : Good l) : Good (sgS l) := g.cut _ _
theorem one_good {l : Str} (g : Good l) {c : Nat} (h : c ∈ sg l) : Good (one c) := fun d hd => by
  have : d = c := by simpa [one] using hd
  subst this
  exact sg_good g _ h
def oneD (c : Nat) : D := .str (one c)
def inW (d : D) : Option D := match d with
  | .str s => some (.bl ((Str.ofString "w") == s || (Str.ofString "r") == s))
  | _ => none
def eqW (d : D) : Option D := match d with
  | .str s => some (.bl (s == Str.ofString "w"))
  | _ => none
def badC (d : D) : Option D := match d with
  | .str s => if ((Str.ofString "w") == s || (Str.ofString "r") == s) then none else some (.str s)
  | _ => none
theorem wr_one (c : Nat) : ((Str.ofString "w") == one c || (Str.ofString "r") == one c) = wr c := by
  rw [w_is, r_is, one_eq, one_eq]
  unfold wr
  rw [BEq.comm (a := (119 : Nat)), BEq.comm (a := (114 : Nat))]
theorem inW_all : ∀ cs : List Nat, (cs.map oneD).filterMap inW = (cs.map wr).map D.bl
  | [] => rfl
  | c :: cs => by
    rw [List.map_cons, List.filterMap_cons, inW_all cs]
    unfold oneD inW
    dsimp only
    rw [wr_one]
    rfl
theorem eqW_all : ∀ cs : List Nat, (cs.map oneD).filterMap eqW = (cs.map fun c => c == 119).map D.bl
  | [] => rfl
  | c :: cs => by
    rw [List.map_cons, List.filterMap_cons, eqW_all cs]
    unfold oneD eqW
    dsimp only
    rw [w_is, one_eq]
    rfl
def badN (cs : List Nat) : List Str := (cs.filter fun c => !wr c).map one
theorem badN_emp : ∀ cs : List Nat, (badN cs).isEmpty = cs.all wr
  | [] => rfl
  | c :: cs => by
    have ih := badN_emp cs
    unfold badN at ih ⊢
    rw [List.all_cons, List.filter_cons, ← ih]
    cases wr c <;> simp
theorem badC_all : ∀ cs : List Nat, (cs.map oneD).filterMap badC = (badN cs).map D.str
  | [] => rfl
  | c :: cs => by
    rw [List.map_cons, List.filterMap_cons, badC_all cs]
    unfold oneD badC badN
    rw [List.filter_cons]
    dsimp only
    rw [wr_one]
    cases wr c <;> rfl
theorem notIn_wr {S : DS} (c : Nat) : oNotIn (.str (one c)) (.str "wr") S = .ok (.bl (!wr c)) S := by
  unfold oNotIn inD
  dsimp only
  rw [show one c = ⟨#[c]⟩ from rfl, StrLaws.found_one, wr_is]
  show Res.ok (D.bl (!decide (c ∈ [119, 114]))) S = _
  congr 3
  unfold wr
  simp
  rfl
def worksO (o : Option (List Bool)) : D := match o with
  | some bs => .tup (bs.map .bl)
  | none => .non
theorem works_of_ok {l : Str} (gl : Good l) (ll : l.length ≤ 20000) (h : List Ob) : Ok (F_works_of [.str l] h) fun d S => d = worksO (worksL l) ∧ Kp0 h S.h := by
  apply ok_runB
  have l1 : l.length ≤ 1000000 := by omega
  have l2 := len_cut l (some 6) none
  have l3 : (sg l).length ≤ 20000 := by rw [← sg_len]; exact Nat.le_trans l2 ll
  have l4 : (sg l).length ≤ 1000000 := by omega
  have it : ∀ (a0 a2 : Option D) (h : List Ob), dIter (dVar 1) ⟨[a0, some (.str (sgS l)), a2], h⟩ = .ok (.vals ((sg l).map oneD)) ⟨[a0, some (.str (sgS l)), a2], h⟩ := fun a0 a2 h => iter_str rfl
  have c1 : dComp [2] (dIter (dVar 1)) (gN 2) tTrue (dBin oIn (dVar 2) (dTup (dCons (dC (.str "w")) (dCons (dC (.str "r")) dNil)))) ⟨[some (.str l), some (.str (sgS l)), none], h⟩ = _ :=
    comp_pure inW (it _ _ _) rfl (by rw [List.length_map]; omega) fun d hd => by
      obtain ⟨c, hc, rfl⟩ := List.mem_map.mp hd
      refine ⟨_, rfl, ?_⟩
      simp [oneD, inW, in_two (one_good gl hc) (good_of (show goodB (Str.ofString "w") = true by decide +kernel)) (good_of (show goodB (Str.ofString "r") = true by decide +kernel))]
  have c2 : dComp [2] (dIter (dVar 1)) (gN 2) tTrue (dBin oEq (dVar 2) (dC (.str "w"))) ⟨[some (.str l), some (.str (sgS l)), none], h ++ [.lst (((sg l).map wr).map D.bl)]⟩ = _ :=
    comp_pure eqW (it _ _ _) rfl (by rw [List.length_map]; omega) fun d hd => by
      obtain ⟨c, hc, rfl⟩ := List.mem_map.mp hd
      refine ⟨_, rfl, ?_⟩
      simp [oneD, eqW, eq_str (one_good gl hc).shaped (good_of (show goodB (Str.ofString "w") = true by decide +kernel)).shaped]
  rw [inW_all] at c1
  rw [eqW_all] at c2
  have s0 : Txt.startswith l (Str.ofString "start ") = (cutS l none (some 6) == Str.ofString "start ") := by
    rw [starts_cut, st_len]; rfl
  by_cases z1 : cutS l none (some 6) = Str.ofString "start "
  · have z1' : (cutS l none (some 6) == Str.ofString "start ") = true := by rw [z1]; exact beq_self_eq_true _
    by_cases z2 : 2 ≤ (sg l).length ∧ (sg l).length ≤ 6
    · have zz : ¬ (((sg l).length : Int) < 2 ∨ 6 < ((sg l).length : Int)) := by omega
      cases z3 : (sg l).all wr with
      | true =>
        have e : worksL l = some ((sg l).map fun c => c == 119) := by unfold worksL; rw [z1', z3]; simp [z2]
        have z3' : ((sg l).map wr).all id = true := by rw [List.all_map]; exact z3
        simp [z1, zz, e, worksO, z3', p_works_of, g_START_HEAD, s0, st_len, l1, ismany_ok, l4, sg_len, c1, c2, bls_map, show cutS l (some 6) none = sgS l from rfl, -List.map_map, -List.all_map]
        exact Kp0.app _ _
      | false =>
        have e : worksL l = none := by unfold worksL; rw [z1', z3]; simp
        have z3' : ((sg l).map wr).all id = false := by rw [List.all_map]; exact z3
        simp [z1, zz, e, worksO, z3', p_works_of, g_START_HEAD, s0, st_len, l1, ismany_ok, l4, sg_len, c1, c2, bls_map, show cutS l (some 6) none = sgS l from rfl, -List.map_map, -List.all_map]
        exact Kp0.app _ _
    · have e : worksL l = none := by unfold worksL; rw [z1']; simp; intro a b; omega
      have zz : ((sg l).length : Int) < 2 ∨ 6 < ((sg l).length : Int) := by omega
      have z2' : ¬ (2 ≤ ((sg l).length : Int) ∧ ((sg l).length : Int) ≤ 6) := by omega
      have z2b : (decide ((2 : Int) ≤ ((sg l).length : Int)) && decide (((sg l).length : Int) ≤ 6)) = false := by
        rw [← Bool.decide_and]; exact decide_eq_false z2'
      simp [z1, zz, e, worksO, z2b, p_works_of, g_START_HEAD, s0, st_len, l1, ismany_ok, l4, sg_len, c1, c2, bls_map, show cutS l (some 6) none = sgS l from rfl, -List.map_map,  -List.all_map, -Bool.and_eq_true, -Bool.and_eq_false_imp]
      exact Kp0.refl _
  · have z1' : (cutS l none (some 6) == Str.ofString "start ") = false := beq_false_of_ne z1
    have e : worksL l = none := by unfold worksL; rw [z1']; simp
    simp [z1, e, worksO, p_works_of, g_START_HEAD, s0, st_len, l1, ismany_ok, l4, sg_len, c1, c2, bls_map, show cutS l (some 6) none = sgS l from rfl, -List.map_map]
    exact Kp0.refl _
end K10

namespace K10
open PySem L2 PySem.Spec PyProof.Rows Den
/-! ### J. whole texts -/
abbrev Dd := Str × List Int
def okD (p : Dd) : Prop := (p.1 = "get" ∨ p.1 = "rest" ∨ p.1 = "send" ∨ p.1 = "visit") ∧ (p.2.length = 1 ∨ p.2.length = 2) ∧ ∀ i ∈ p.2, 0 ≤ i ∧ i < 6
theorem deedL_ok {l : Str} {p : Dd} (h : deedL l = some p) : okD p := by
  unfold deedL at h
  split at h
  · rename_i w ws _
    have ok := okM_of ws
    unfold deedW at h
    generalize ws.map machI = os at h ok
    split at h
    · rename_i hz
      rw [Bool.and_eq_true] at hz
      cases h
      refine ⟨(size_in (by simpa using hz.1)).2, ?_⟩
      have hb := hz.2
      unfold hmB at hb
      split at hb
      · rename_i a
        obtain ⟨h1, h2⟩ := ok _ (by simp) a rfl
        exact ⟨.inl rfl, fun i hi => by
          have : i = a := by simpa [valsO] using hi
          subst this; exact ⟨h1, h2⟩⟩
      · rename_i a b
        obtain ⟨h1, h2⟩ := ok (some a) (by simp) a rfl
        obtain ⟨h3, h4⟩ := ok (some b) (by simp) b rfl
        exact ⟨.inr rfl, fun i hi => by
          have : i = a ∨ i = b := by simpa [valsO] using hi
          rcases this with rfl | rfl
          · exact ⟨h1, h2⟩
          · exact ⟨h3, h4⟩⟩
      · cases hb
    · cases h
  · cases h
def runL : Nat → List (Option Dd) → List Dd → Except Nat (List Dd)
  | k, [], acc => .ok acc
  | k, o :: r, acc => match (if 400 < k then none else o) with
    | none => .error k
    | some p => runL (k + 1) r (acc ++ [p])
inductive Out where
  | text (k : Nat) | told (ws : List Bool) (ds : List Dd)
def outS (x : Str) : Out := match Txt.split x "\n" with
  | [] => .text 0
  | l0 :: ls => match worksL l0 with
    | none => .text 0
    | some ws => match runL 1 (ls.map deedL) [] with
      | .error k => .text k
      | .ok ds => .told ws ds
def badX (k : Nat) : Xn := ⟨"BadText", [("line", .int k)]⟩
/-! the program's loop -/
def bodyR : DSt := (sSeq (sAsg (dCall F_deed_of (dCons (dVar 5) (dCons (dC g_MAX_MACHINES) dNil))) (gN 6))
  (sSeq (sIf (tOrD (tV (dBin oIsN (dVar 6) (dC .non))) (tV (dBin oGt (dVar 4) (dC g_MAX_DEEDS)))) (sRaise1 "BadText" "line" (dCons (dVar 4) dNil)) sNop)
  (sExpr (dMtL mAppend (dVar 3) (dCons (dVar 6) dNil)))))
theorem turnR {v r1 r2 a6 : Option D} {nd k : Nat} {l : Str} {h : List Ob} {acc : List Dd} (ll : l.length ≤ 20000) (hd : h[nd]? = some (.lst (acc.map deedD))) (la : acc.length < 1000000) :
    match (if 400 < k then none else deedL l) with
    | none => ∃ S', bodyR ⟨[v, r1, r2, some (.ref nd), some (.int k), some (.str l), a6], h⟩ = .exc (badX k) S' ∧ Kp0 h S'.h
    | some p => ∃ h', bodyR ⟨[v, r1, r2, some (.ref nd), some (.int k), some (.str l), a6], h⟩ = .ok .next ⟨[v, r1, r2, some (.ref nd), some (.int k), some (.str l), some (deedD p)], h'⟩ ∧ h'[nd]? = some (.lst ((acc ++ [p]).map deedD)) ∧ Kp nd nd h h' := by
  obtain ⟨d, S, e, rfl, kp⟩ := (deed_of_ok ll h).ex
  have hd1 := kp _ _ hd
  by_cases c : 400 < k
  · rw [if_pos c]
    have c' : (400 : Int) < (k : Int) := by omega
    refine ⟨⟨[v, r1, r2, some (.ref nd), some (.int k), some (.str l), some (deedO (deedL l))], S.h⟩, ?_, kp⟩
    cases q : deedL l with
    | none => simp [bodyR, g_MAX_MACHINES, e, q, deedO, Den.isNon, g_MAX_DEEDS, badX]
    | some p => simp [bodyR, g_MAX_MACHINES, e, q, deedO, deedD, Den.isNon, g_MAX_DEEDS, badX, c']
  · rw [if_neg c]
    have c' : ¬ (400 : Int) < (k : Int) := by omega
    cases q : deedL l with
    | none =>
      refine ⟨⟨[v, r1, r2, some (.ref nd), some (.int k), some (.str l), some (deedO none)], S.h⟩, ?_, kp⟩
      simp [bodyR, g_MAX_MACHINES, e, q, deedO, Den.isNon, g_MAX_DEEDS, badX]
    | some p =>
      rw [q] at e
      refine ⟨S.h.set nd (.lst ((acc ++ [p]).map deedD)), ?_, ?_, ?_⟩
      · simp [bodyR, g_MAX_MACHINES, e, q, deedO, deedD, Den.isNon, g_MAX_DEEDS, c', hd1, la]
      · rw [List.getElem?_set_self (lt_of_at hd1)]
      · intro j ob j1 _ hj
        rw [List.getElem?_set_ne (Ne.symm j1)]
        exact kp _ _ hj
def LoopE (v r1 r2 : Option D) (nd : Nat) (h : List Ob) (r : Res Fl) (o : Except Nat (List Dd)) : Prop := match o with
  | .error k => ∃ S', r = .exc (badX k) S' ∧ Kp nd nd h S'.h
  | .ok ds => ∃ S', r = .ok .next S' ∧ S'.h[nd]? = some (.lst (ds.map deedD)) ∧ Kp nd nd h S'.h ∧ ∃ a4 a5 a6, S'.loc = [v, r1, r2, some (.ref nd), a4, a5, a6]
theorem loopR {v r1 r2 : Option D} {nd n : Nat} (nn : n ≠ nd) {all : List Str} (gl : ∀ l ∈ all, l.length ≤ 20000) (h0 : List Ob) : ∀ (ls : List Str) (i fuel : Nat) (acc : List Dd) (h : List Ob) (a4 a5 a6 : Option D), all.drop i = ls → ls.length < fuel → acc.length + ls.length < 1000000 →
    h[n]? = some (.lst (all.map D.str)) → h[nd]? = some (.lst (acc.map deedD)) → Kp nd nd h0 h →
    LoopE v r1 r2 nd h0 (forO (numIt 1 (lstIt n)) (gTup 2 (gCons (gN 4) (gCons (gN 5) gNil))) bodyR fuel i ⟨[v, r1, r2, some (.ref nd), a4, a5, a6], h⟩) (runL (1 + i) (ls.map deedL) acc)
  | [], i, fuel, acc, h, a4, a5, a6, hd, hf, hl, hn, hnd, hk => by
    obtain ⟨f, rfl⟩ : ∃ f, fuel = f + 1 := ⟨fuel - 1, by simp at hf; omega⟩
    have e : (all.map D.str)[i]? = none := by
      rw [List.getElem?_eq_none_iff, List.length_map]
      exact List.drop_eq_nil_iff.mp hd
    rw [forO_end (by rw [numIt_of hn, e]; rfl)]
    exact ⟨_, rfl, hnd, hk, _, _, _, rfl⟩
  | l :: ls, i, fuel, acc, h, a4, a5, a6, hd, hf, hl, hn, hnd, hk => by
    obtain ⟨f, rfl⟩ : ∃ f, fuel = f + 1 := ⟨fuel - 1, by simp at hf; omega⟩
    have hi : i < all.length := by
      have := congrArg List.length hd
      simp at this; omega
    have hl0 : all[i] = l ∧ all.drop (i + 1) = ls := by
      rw [List.drop_eq_getElem_cons hi] at hd
      injection hd with h1 h2
      exact ⟨h1, h2⟩
    have e : numIt 1 (lstIt n) h i = some (some (.tup [.int ((1 + i : Nat) : Int), .str l])) := by
      rw [numIt_of hn, List.getElem?_map, List.getElem?_eq_getElem hi, hl0.1]
      simp
    simp only [List.length_cons] at hf hl
    have t := turnR (v := v) (r1 := r1) (r2 := r2) (a6 := a6) (nd := nd) (k := 1 + i) (gl l (by rw [← hl0.1]; exact List.getElem_mem hi)) hnd (by omega)
    rw [List.map_cons]
    unfold runL
    split at t
    · rename_i q
      rw [q]
      obtain ⟨S', e2, kp⟩ := t
      rw [forO_exc e (g_two 4 5 _ _ _) e2]
      exact ⟨S', rfl, hk.trans (kp.kp nd nd)⟩
    · rename_i p q
      rw [q]
      obtain ⟨h', e2, hd', kp⟩ := t
      rw [forO_next e (g_two 4 5 _ _ _) e2]
      exact loopR nn gl h0 ls (i + 1) f (acc ++ [p]) h' _ _ _ hl0.2 (by omega) (by simp; omega) (kp _ _ nn nn hn) hd' (hk.trans kp)
end K10

namespace K10
open PySem L2 PySem.Spec PyProof.Rows Den
theorem p_read_eq : p_read_run = (sSeq (sIf (tNotD (tTr (dCB cIsi (dCons (dVar 0) (dCons (dC (.ty "str")) dNil))))) (sRaise1 "BadText" "line" (dCons (dC (.int 0)) dNil)) sNop)
  (sSeq (sAsg (dMtS mSplit (dVar 0) (dC (.str "\n"))) (gN 1))
  (sSeq (sAsg (dCall F_works_of (dCons (dBin oIx (dVar 1) (dC (.int 0))) dNil)) (gN 2))
  (sSeq (sIf (tV (dBin oIsN (dVar 2) (dC .non))) (sRaise1 "BadText" "line" (dCons (dC (.int 0)) dNil)) sNop)
  (sSeq (sAsg (dLst dNil) (gN 3))
  (sSeq (sFor (dEnumS (dCons (dSl (dVar 1) (dPS (dC (.int 1))) dPN) dNil) (dCons (dC (.int 1)) dNil)) (gTup 2 (gCons (gN 4) (gCons (gN 5) gNil))) bodyR)
  (sRet (dTup (dCons (dVar 2) (dCons (dCB cTuple (dCons (dVar 3) dNil)) dNil)))))))))) := rfl
def toldD (ws : List Bool) (ds : List Dd) : D := .tup [.tup (ws.map .bl), .tup (ds.map deedD)]
def ReadR (h : List Ob) (r : Res D) (o : Out) : Prop := match o with
  | .text k => ∃ S, r = .exc (badX k) S ∧ Kp0 h S.h
  | .told ws ds => ∃ S, r = .ok (toldD ws ds) S ∧ Kp0 h S.h
structure Lines (x l0 : Str) (ls : List Str) : Prop where
  e : Txt.split x (Str.ofString "\n") = l0 :: ls
  g0 : Good l0
  b0 : l0.length ≤ 20000
  g : ∀ l ∈ ls, Good l
  b : ∀ l ∈ ls, l.length ≤ 20000
  n : ls.length ≤ 20000
theorem lines_of {x : Str} (gx : Good x) (lx : x.length ≤ 20000) : ∃ l0 ls, Lines x l0 ls := by
  obtain ⟨l0, ls, e⟩ := split_some (x := x) nl_ne
  have g := good_split gx (y := Str.ofString "\n")
  have sl := split_len x (Str.ofString "\n")
  have ml := fun p => le_lenS (p := p) (ps := Txt.split x (Str.ofString "\n"))
  have e' : Txt.split x (Str.ofString "\n") = l0 :: ls := e
  rw [e', nl_len, List.length_cons] at sl
  rw [e'] at g ml
  exact ⟨l0, ls, e', g _ (by simp), by have := ml l0 (by simp); omega, fun l hl => g l (List.mem_cons_of_mem _ hl), fun l hl => by have := ml l (List.mem_cons_of_mem _ hl); omega, by omega⟩
theorem kp_of {h h0 : List Ob} {nd : Nat} {h1 : List Ob} (a : Kp0 h0 h) (k : Kp nd nd h h1) (b : h0.length ≤ nd) : Kp0 h0 h1 := fun j ob e => k j ob (by have := lt_of_at e; omega) (by have := lt_of_at e; omega) (a j ob e)
theorem kp_len {h h1 : List Ob} (k : Kp0 h h1) : h.length ≤ h1.length := by
  cases q : h.length with
  | zero => omega
  | succ m =>
    have lt : m < h.length := by omega
    have := lt_of_at (k m h[m] (by simp [lt]))
    omega
theorem read_ok {x : Str} (gx : Good x) (lx : x.length ≤ 20000) (h : List Ob) : ReadR h (F_read_run [.str x] h) (outS x) := by
  obtain ⟨l0, ls, L⟩ := lines_of gx lx
  have q1 : x.length + 2 ≤ 1000000 := by omega
  have e0 : ∀ ds : List D, atI (D.str l0 :: ds) 0 = some (.str l0) := fun ds => at0 _ _
  have isS : isaB "str" "str" = some true := by decide
  obtain ⟨d1, S1, e1, rfl, k1⟩ := (works_of_ok L.g0 L.b0 (h ++ [Ob.lst (D.str l0 :: ls.map D.str)])).ex
  have kh : Kp0 h S1.h := (Kp0.app _ _).trans k1
  have o : outS x = match worksL l0 with
      | none => .text 0
      | some ws => match runL 1 (ls.map deedL) [] with
        | .error k => .text k
        | .ok ds => .told ws ds := by
    unfold outS
    rw [show Txt.split x ("\n" : String) = l0 :: ls from L.e]
    all_goals rfl
  rw [o]
  have hl := k1 _ _ (at_new h _)
  cases q : worksL l0 with
  | none =>
    rw [q] at e1
    refine ⟨_, runB_exc (S := ⟨[some (.str x), some (.ref h.length), some .non, none, none, none, none], S1.h⟩) ?_, kh⟩
    simp [p_read_eq, isS, q1, nl_len, L.e, e0, e1, worksO, Den.isNon, badX]
  | some ws =>
    rw [q] at e1
    dsimp only
    have lt := lt_of_at hl
    have lp := loopR (v := some (.str x)) (r1 := some (.ref h.length)) (r2 := some (worksO (some ws))) (nd := S1.h.length) (n := S1.h.length + 1) (by omega) (all := ls) L.b (S1.h ++ [Ob.lst [], Ob.lst (ls.map D.str)]) ls 0 100000 [] (S1.h ++ [Ob.lst [], Ob.lst (ls.map D.str)]) none none none rfl (by have := L.n; omega) (by have := L.n; simp; omega) (by simp) (by simp) (Kp.refl _ _ _)
    have sF : sFor (dEnumS (dCons (dSl (dVar 1) (dPS (dC (.int 1))) dPN) dNil) (dCons (dC (.int 1)) dNil)) (gTup 2 (gCons (gN 4) (gCons (gN 5) gNil))) bodyR ⟨[some (.str x), some (.ref h.length), some (worksO (some ws)), some (.ref S1.h.length), none, none, none], S1.h ++ [Ob.lst []]⟩ = _ :=
      sFor_dyn (enumS_tail (by decide) rfl (x := .str l0) (xs := ls.map D.str) (at_old hl))
    have sF2 : sFor (dEnumS (dCons (dSl (dVar 1) (dPS (dC (.int 1))) dPN) dNil) (dCons (dC (.int 1)) dNil)) (gTup 2 (gCons (gN 4) (gCons (gN 5) gNil))) bodyR ⟨[some (.str x), some (.ref h.length), some (worksO (some ws)), some (.ref S1.h.length), none, none, none], S1.h ++ [Ob.lst []]⟩ = forO (numIt 1 (lstIt (S1.h.length + 1))) (gTup 2 (gCons (gN 4) (gCons (gN 5) gNil))) bodyR 100000 0 ⟨[some (.str x), some (.ref h.length), some (worksO (some ws)), some (.ref S1.h.length), none, none, none], S1.h ++ [Ob.lst [], Ob.lst (ls.map D.str)]⟩ := by
      rw [sF]
      simp
    rw [Nat.add_zero] at lp
    have kk : ∀ {h1 : List Ob}, Kp S1.h.length S1.h.length (S1.h ++ [Ob.lst [], Ob.lst (ls.map D.str)]) h1 → Kp0 h h1 := fun k => kp_of (kh.trans (Kp0.app _ _)) k (kp_len kh)
    cases qr : runL 1 (ls.map deedL) [] with
    | error k =>
      rw [qr] at lp
      obtain ⟨S', e2, k2⟩ := lp
      rw [e2] at sF2
      refine ⟨_, runB_exc (S := S') ?_, kk k2⟩
      simp [p_read_eq, isS, q1, nl_len, L.e, e0, e1, sF2, show Den.isNon (worksO (some ws)) = false from rfl]
    | ok ds =>
      rw [qr] at lp
      obtain ⟨S', e2, hd, k2, a4, a5, a6, l⟩ := lp
      rw [e2] at sF2
      refine ⟨_, runB_ret (S := S') ?_, kk k2⟩
      simp [p_read_eq, isS, q1, nl_len, L.e, e0, e1, sF2, show Den.isNon (worksO (some ws)) = false from rfl, l, hd]
      simp [worksO, toldD]
theorem read_not {d : D} {t : String} {h : List Ob} (e : ∀ loc, tyName ⟨loc, h⟩ d = some t) (f : isaB t "str" = some false) : F_read_run [d] h = .exc (badX 0) ⟨[], h⟩ := by
  refine runB_exc (S := ⟨[some d, none, none, none, none, none, none], h⟩) ?_
  simp [p_read_eq, e, f, badX]
def outD (o : Out) : List D := match o with
  | .text k => [.str "text", .int k, .bl true]
  | .told ws ds => [.str "told", toldD ws ds]
theorem heard_told {d w : D} {b : Bool} {h : List Ob} {S : DS} (e : F_read_run [d] h = .ok w S) : F_law_heard [d, .bl b] h = .ok (.ref S.h.length) ⟨[], S.h ++ [.lst [.str "told", w]]⟩ := by
  refine runB_ret (S := ⟨[some d, some (.bl b), none], S.h ++ [.lst [.str "told", w]]⟩) ?_
  unfold p_law_heard sTry1
  have pk : pick [0] [d] = [d] := rfl
  cases b <;> simp [e, pk]
theorem heard_text {d : D} {b : Bool} {k : Nat} {h : List Ob} {S : DS} (e : F_read_run [d] h = .exc (badX k) S) : F_law_heard [d, .bl b] h = .ok (.ref S.h.length) ⟨[], S.h ++ [.lst [.str "text", .int k, .bl true]]⟩ := by
  refine runB_ret (S := ⟨[some d, some (.bl b), none], S.h ++ [.lst [.str "text", .int k, .bl true]]⟩) ?_
  unfold p_law_heard sTry1
  have pk : pick [0] [d] = [d] := rfl
  cases b <;> simp [e, pk, badX, sub_BadText, sRetX, xLst, xCons, xC, xFld, xIsi, xNil, List.lookup]
theorem heard_ok {d : D} {b : Bool} {h : List Ob} {o : Out} (r : ReadR h (F_read_run [d] h) o) : ∃ k h', F_law_heard [d, .bl b] h = .ok (.ref k) ⟨[], h'⟩ ∧ Kp0 h h' ∧ h'[k]? = some (.lst (outD o)) := by
  cases o with
  | text k =>
    obtain ⟨S, e, kp⟩ := r
    exact ⟨_, _, heard_text e, kp.trans (Kp0.app _ _), at_new _ _⟩
  | told ws ds =>
    obtain ⟨S, e, kp⟩ := r
    exact ⟨_, _, heard_told e, kp.trans (Kp0.app _ _), at_new _ _⟩
end K10

namespace K10
open PySem L2 PySem.Spec PyProof.Rows Den
/-! ### K. what is due -/
def deedP (p : Dd) : PyData := .tuple (.str p.1 :: p.2.map PyData.int)
theorem toPy_deed (h : List Ob) (n : Nat) (p : Dd) : toPy h (n + 1) (deedD p) = some (deedP p) := by
  show ((D.str p.1 :: p.2.map D.int).mapM (toPy h n)).map PyData.tuple = _
  rw [List.mapM_cons, toPy_ints]
  cases n <;> rfl
theorem toPy_deeds (h : List Ob) (n : Nat) : ∀ ds : List Dd, (ds.map deedD).mapM (toPy h (n + 1)) = some (ds.map deedP)
  | [] => rfl
  | d :: ds => by
    rw [List.map_cons, List.mapM_cons, toPy_deed, toPy_deeds h n ds]; rfl
theorem okD_good {p : Dd} (o : okD p) : Good p.1 := by
  rcases o.1 with e | e | e | e <;> rw [e] <;> exact good_of (by decide +kernel)
theorem shaped_own {p : Dd} (o : okD p) : SeqAt.shaped (.list [deedP p]) = true := by
  unfold SeqAt.shaped deedP
  show ((((PyData.canLay0 (.str p.1) && PyData.canLayAll0 (p.2.map PyData.int))) && true) && decide (max (max 0 (PyData.depthAll (p.2.map PyData.int)) + 1) 0 + 1 ≤ 64)) = true
  rw [SeqAt.canLay_of_shaped (okD_good o).shaped, canLay_ints, depth_ints]; rfl
theorem eq_own {S : DS} {j m : Nat} {o : Option Dd} (ok : ∀ p, o = some p → okD p) (hj : S.h[j]? = some (.lst (deedOL o))) (hm : S.h[m]? = some (.lst [])) : oEq (.ref j) (.ref m) S = .ok (.bl o.isNone) S := by
  unfold oEq
  rw [pyD_lst hj, pyD_lst hm]
  cases o with
  | none => rfl
  | some p =>
    show (match ([deedD p].mapM (toPy S.h 19)).map PyData.list, some (PyData.list []) with
      | some p, some q => if SeqAt.shaped p && SeqAt.shaped q then Res.ok (D.bl (PyData.eqv p q)) S else .stuck
      | _, _ => .stuck) = _
    rw [List.mapM_cons, toPy_deed]
    show (if SeqAt.shaped (.list [deedP p]) && SeqAt.shaped (.list []) then Res.ok (D.bl (PyData.eqv (.list [deedP p]) (.list []))) S else .stuck) = _
    rw [shaped_own (ok p rfl), if_pos (by rfl)]
    rfl
def bodyD : DSt := (sSeq (sAsg (dCall F_law_deed_in (dCons (dVar 5) dNil)) (gN 6))
  (sSeq (sIf (tOrD (tV (dBin oEq (dVar 6) (dLst dNil))) (tV (dBin oEq (dVar 4) (dC (.int 400))))) (sRet (dLst (dCons (dC (.str "text")) (dCons (dBin oAdd (dVar 4) (dC (.int 1))) (dCons (dC (.bl true)) dNil))))) sNop)
  (sExpr (dMtL mExtend (dVar 3) (dCons (dVar 6) dNil)))))
theorem turnD {v r1 r2 a6 a7 : Option D} {nd k : Nat} {l : Str} {h : List Ob} {acc : List Dd} (gl : Good l) (ll : l.length ≤ 20000) (hd : h[nd]? = some (.lst (acc.map deedD))) (la : acc.length < 900000) (hk : k ≤ 401) (hk1 : 1 ≤ k) :
    match (if 400 < k then none else deedL l) with
    | none => ∃ S' j, bodyD ⟨[v, r1, r2, some (.ref nd), some (.int ((k : Int) - 1)), some (.str l), a6, a7], h⟩ = .ok (.ret (.ref j)) S' ∧ S'.h[j]? = some (.lst (outD (.text k))) ∧ Kp0 h S'.h
    | some p => ∃ h' d6, bodyD ⟨[v, r1, r2, some (.ref nd), some (.int ((k : Int) - 1)), some (.str l), a6, a7], h⟩ = .ok .next ⟨[v, r1, r2, some (.ref nd), some (.int ((k : Int) - 1)), some (.str l), some d6, a7], h'⟩ ∧ h'[nd]? = some (.lst ((acc ++ [p]).map deedD)) ∧ Kp nd nd h h' := by
  obtain ⟨d, S, e, j, rfl, hj, kp, _⟩ := (deed_in_ok gl ll h).ex
  have hd1 := kp _ _ hd
  have eq : ∀ loc, oEq (.ref j) (.ref S.h.length) ⟨loc, S.h ++ [Ob.lst []]⟩ = .ok (.bl (deedL l).isNone) ⟨loc, S.h ++ [Ob.lst []]⟩ := fun loc => eq_own (fun p q => deedL_ok q) (at_old hj) (at_new _ _)
  have en : (k : Int) - 1 + 1 = (k : Int) := by omega
  have kk : Kp0 h (S.h ++ [Ob.lst [], Ob.lst (outD (.text k))]) := kp.trans (Kp0.app _ _)
  have fin : ∀ b : Bool, (b || ((k : Int) - 1 == 400)) = true → (deedL l).isNone = b → ∃ S' j, bodyD ⟨[v, r1, r2, some (.ref nd), some (.int ((k : Int) - 1)), some (.str l), a6, a7], h⟩ = .ok (.ret (.ref j)) S' ∧ S'.h[j]? = some (.lst (outD (.text k))) ∧ Kp0 h S'.h := fun b hb hq => by
    refine ⟨⟨[v, r1, r2, some (.ref nd), some (.int ((k : Int) - 1)), some (.str l), some (.ref j), a7], S.h ++ [Ob.lst [], Ob.lst (outD (.text k))]⟩, S.h.length + 1, ?_, by simp, kk⟩
    rw [hq] at eq
    cases b with
    | true => simp [bodyD, e, eq, en, outD]
    | false =>
      have : (k : Int) - 1 = 400 := by simpa using hb
      simp [bodyD, e, eq, en, outD, this]
      omega
  by_cases c : 400 < k
  · rw [if_pos c]
    refine fin _ ?_ rfl
    have : (k : Int) - 1 = 400 := by omega
    rw [this]; simp
  · rw [if_neg c]
    have c' : ¬ (k : Int) - 1 = 400 := by omega
    cases q : deedL l with
    | none => exact fin true rfl (by rw [q]; rfl)
    | some p =>
      rw [q] at eq hj
      have h1 : (S.h ++ [Ob.lst []])[nd]? = some (.lst (acc.map deedD)) := at_old hd1
      have h2 : (S.h ++ [Ob.lst []])[j]? = some (.lst [deedD p]) := at_old hj
      have la' : acc.length + 1 ≤ 1000000 := by omega
      refine ⟨(S.h ++ [Ob.lst []]).set nd (.lst ((acc ++ [p]).map deedD)), .ref j, ?_, ?_, ?_⟩
      · simp [bodyD, e, eq, c', h1, h2, la']
      · rw [List.getElem?_set_self (lt_of_at h1)]
      · intro i ob i1 _ hi
        rw [List.getElem?_set_ne (Ne.symm i1)]
        exact at_old (kp _ _ hi)
def LoopF (v r1 r2 a7 : Option D) (nd : Nat) (h : List Ob) (r : Res Fl) (o : Except Nat (List Dd)) : Prop := match o with
  | .error k => ∃ S' j, r = .ok (.ret (.ref j)) S' ∧ S'.h[j]? = some (.lst (outD (.text k))) ∧ Kp nd nd h S'.h
  | .ok ds => ∃ S', r = .ok .next S' ∧ S'.h[nd]? = some (.lst (ds.map deedD)) ∧ Kp nd nd h S'.h ∧ ∃ a4 a5 a6, S'.loc = [v, r1, r2, some (.ref nd), a4, a5, a6, a7]
theorem loopD {v r1 r2 a7 : Option D} {nd n : Nat} (nn : n ≠ nd) {all : List Str} (gg : ∀ l ∈ all, Good l) (gl : ∀ l ∈ all, l.length ≤ 20000) (h0 : List Ob) : ∀ (ls : List Str) (i fuel : Nat) (acc : List Dd) (h : List Ob) (a4 a5 a6 : Option D), all.drop i = ls → ls.length < fuel → acc.length + ls.length < 900000 → i ≤ 400 →
    h[n]? = some (.lst (all.map D.str)) → h[nd]? = some (.lst (acc.map deedD)) → Kp nd nd h0 h →
    LoopF v r1 r2 a7 nd h0 (forO (numIt 0 (lstIt n)) (gTup 2 (gCons (gN 4) (gCons (gN 5) gNil))) bodyD fuel i ⟨[v, r1, r2, some (.ref nd), a4, a5, a6, a7], h⟩) (runL (1 + i) (ls.map deedL) acc)
  | [], i, fuel, acc, h, a4, a5, a6, hd, hf, hl, hi4, hn, hnd, hk => by
    obtain ⟨f, rfl⟩ : ∃ f, fuel = f + 1 := ⟨fuel - 1, by simp at hf; omega⟩
    have e : (all.map D.str)[i]? = none := by
      rw [List.getElem?_eq_none_iff, List.length_map]
      exact List.drop_eq_nil_iff.mp hd
    rw [forO_end (by rw [numIt_of hn, e]; rfl)]
    exact ⟨_, rfl, hnd, hk, _, _, _, rfl⟩
  | l :: ls, i, fuel, acc, h, a4, a5, a6, hd, hf, hl, hi4, hn, hnd, hk => by
    obtain ⟨f, rfl⟩ : ∃ f, fuel = f + 1 := ⟨fuel - 1, by simp at hf; omega⟩
    have hi : i < all.length := by
      have := congrArg List.length hd
      simp at this; omega
    have hl0 : all[i] = l ∧ all.drop (i + 1) = ls := by
      rw [List.drop_eq_getElem_cons hi] at hd
      injection hd with h1 h2
      exact ⟨h1, h2⟩
    have e : numIt 0 (lstIt n) h i = some (some (.tup [.int (((1 + i : Nat) : Int) - 1), .str l])) := by
      rw [numIt_of hn, List.getElem?_map, List.getElem?_eq_getElem hi, hl0.1]
      simp
      omega
    simp only [List.length_cons] at hf hl
    have hm : l ∈ all := by rw [← hl0.1]; exact List.getElem_mem hi
    have t := turnD (v := v) (r1 := r1) (r2 := r2) (a6 := a6) (a7 := a7) (nd := nd) (k := 1 + i) (gg l hm) (gl l hm) hnd (by omega) (by omega) (by omega)
    rw [List.map_cons]
    unfold runL
    split at t
    · rename_i q
      rw [q]
      obtain ⟨S', j, e2, hj, kp⟩ := t
      rw [forO_ret e (g_two 4 5 _ _ _) e2]
      exact ⟨S', j, rfl, hj, hk.trans (kp.kp nd nd)⟩
    · rename_i p q
      rw [q]
      obtain ⟨h', d6, e2, hd', kp⟩ := t
      have : i + 1 ≤ 400 := by
        by_cases c : 400 < 1 + i
        · rw [if_pos c] at q; cases q
        · omega
      rw [forO_next e (g_two 4 5 _ _ _) e2]
      exact loopD nn gg gl h0 ls (i + 1) f (acc ++ [p]) h' _ _ _ hl0.2 (by omega) (by simp; omega) this (kp _ _ nn nn hn) hd' (hk.trans kp)
theorem p_due_eq : p_law_due = (sSeq (sIf (tNotD (tTr (dCB cIsi (dCons (dVar 0) (dCons (dC (.ty "str")) dNil))))) (sRet (dLst (dCons (dC (.str "text")) (dCons (dC (.int 0)) (dCons (dC (.bl true)) dNil))))) sNop)
  (sSeq (sAsg (dMtS mSplit (dVar 0) (dC (.str "\n"))) (gN 1))
  (sSeq (sAsg (dSl (dBin oIx (dVar 1) (dC (.int 0))) (dPS (dC (.int 6))) dPN) (gN 2))
  (sSeq (sIf (tOrD (tV (dBin oNe (dSl (dBin oIx (dVar 1) (dC (.int 0))) dPN (dPS (dC (.int 6)))) (dC (.str "start ")))) (tOrD (tNotD (tV (dChain oLe oLe (dC (.int 2)) (dCB cLen (dCons (dVar 2) dNil)) (dC (.int 6))))) (tV (dBin oNe (dComp [7] (dIter (dVar 2)) (gN 7) (tV (dBin oNotIn (dVar 7) (dC (.str "wr")))) (dVar 7)) (dLst dNil))))) (sRet (dLst (dCons (dC (.str "text")) (dCons (dC (.int 0)) (dCons (dC (.bl true)) dNil))))) sNop)
  (sSeq (sAsg (dLst dNil) (gN 3))
  (sSeq (sFor (dEnum (dCons (dSl (dVar 1) (dPS (dC (.int 1))) dPN) dNil)) (gTup 2 (gCons (gN 4) (gCons (gN 5) gNil))) bodyD)
  (sRet (dLst (dCons (dC (.str "told")) (dCons (dTup (dCons (dCB cTuple (dCons (dComp [7] (dIter (dVar 2)) (gN 7) tTrue (dBin oEq (dVar 7) (dC (.str "w")))) dNil)) (dCons (dCB cTuple (dCons (dVar 3) dNil)) dNil))) dNil)))))))))) := rfl
theorem badN_good {l : Str} (g : Good l) : ∀ u ∈ badN (sg l), Good u := fun u hu => by
  obtain ⟨c, hc, rfl⟩ := List.mem_map.mp hu
  exact one_good g (List.mem_filter.mp hc).1
def DueR (h : List Ob) (r : Res D) (o : Out) : Prop := ∃ S j, r = .ok (.ref j) S ∧ S.h[j]? = some (.lst (outD o)) ∧ Kp0 h S.h
theorem due_not {d : D} {t : String} {h : List Ob} (e : ∀ loc, tyName ⟨loc, h⟩ d = some t) (f : isaB t "str" = some false) : DueR h (F_law_due [d] h) (.text 0) := by
  refine ⟨_, _, runB_ret (S := ⟨[some d, none, none, none, none, none, none, none], h ++ [Ob.lst (outD (.text 0))]⟩) (d := .ref h.length) ?_, at_new _ _, Kp0.app _ _⟩
  simp [p_due_eq, e, f, outD]
theorem due_ok {x : Str} (gx : Good x) (lx : x.length ≤ 20000) (h : List Ob) : DueR h (F_law_due [.str x] h) (outS x) := by
  obtain ⟨l0, ls, L⟩ := lines_of gx lx
  have q1 : x.length + 2 ≤ 1000000 := by omega
  have q2 : l0.length ≤ 1000000 := by have := L.b0; omega
  have e0 : ∀ ds : List D, atI (D.str l0 :: ds) 0 = some (.str l0) := fun ds => at0 _ _
  have isS : isaB "str" "str" = some true := by decide
  have o : outS x = match worksL l0 with
      | none => .text 0
      | some ws => match runL 1 (ls.map deedL) [] with
        | .error k => .text k
        | .ok ds => .told ws ds := by
    unfold outS
    rw [show Txt.split x ("\n" : String) = l0 :: ls from L.e]
    all_goals rfl
  rw [o]
  have l2 := len_cut l0 (some 6) none
  have l3 : (sg l0).length ≤ 20000 := by rw [← sg_len]; exact Nat.le_trans l2 L.b0
  have l4 : (sg l0).length ≤ 1000000 := by omega
  have cs : cutS l0 (some 6) none = sgS l0 := rfl
  have it : ∀ (a0 a1 a3 a4 a5 a6 a7 : Option D) (h : List Ob), dIter (dVar 2) ⟨[a0, a1, some (.str (sgS l0)), a3, a4, a5, a6, a7], h⟩ = .ok (.vals ((sg l0).map oneD)) ⟨[a0, a1, some (.str (sgS l0)), a3, a4, a5, a6, a7], h⟩ := fun a0 a1 a3 a4 a5 a6 a7 h => iter_str rfl
  have c1 : dComp [7] (dIter (dVar 2)) (gN 7) (tV (dBin oNotIn (dVar 7) (dC (.str "wr")))) (dVar 7) ⟨[some (.str x), some (.ref h.length), some (.str (sgS l0)), none, none, none, none, none], h ++ [Ob.lst (D.str l0 :: ls.map D.str)]⟩ = _ :=
    comp_pure badC (it _ _ _ _ _ _ _ _) rfl (by rw [List.length_map]; omega) fun d hd => by
      obtain ⟨c, hc, rfl⟩ := List.mem_map.mp hd
      refine ⟨_, rfl, ?_⟩
      cases q : wr c with
      | true => simp [oneD, badC, wr_one, q, notIn_wr]
      | false => simp [oneD, badC, wr_one, q, notIn_wr]
  rw [badC_all] at c1
  have ne0 : ∀ S, oNe (.str (cutS l0 none (some 6))) (.str (Str.ofString "start ")) S = .ok (.bl (!(cutS l0 none (some 6) == Str.ofString "start "))) S := fun S => ne_str (L.g0.cut _ _).shaped (good_of (by decide +kernel)).shaped
  have ne1 : ∀ loc, oNe (.ref (h.length + 1)) (.ref (h.length + 2)) ⟨loc, h ++ [Ob.lst (D.str l0 :: ls.map D.str), Ob.lst ((badN (sg l0)).map D.str), Ob.lst []]⟩ = .ok (.bl (!(badN (sg l0)).isEmpty)) ⟨loc, h ++ [Ob.lst (D.str l0 :: ls.map D.str), Ob.lst ((badN (sg l0)).map D.str), Ob.lst []]⟩ := fun loc => ne_strs (badN_good L.g0) (by simp) (by simp)
  -- a start that is none
  have bad : worksL l0 = none → DueR h (F_law_due [.str x] h) (.text 0) := fun q => by
    by_cases z1 : cutS l0 none (some 6) = Str.ofString "start "
    · have z1' : (cutS l0 none (some 6) == Str.ofString "start ") = true := by rw [z1]; exact beq_self_eq_true _
      by_cases z2 : 2 ≤ (sg l0).length ∧ (sg l0).length ≤ 6
      · have z3 : (sg l0).all wr = false := by
          cases z3 : (sg l0).all wr with
          | true => exfalso; unfold worksL at q; rw [z1', z3] at q; simp [z2] at q
          | false => rfl
        have zz : ¬ (((sg l0).length : Int) < 2 ∨ 6 < ((sg l0).length : Int)) := by omega
        have zA : ((2 : Int) ≤ ((sg l0).length : Int)) := by omega
        have zB : (((sg l0).length : Int) ≤ 6) := by omega
        refine ⟨_, _, runB_ret (S := ⟨[some (.str x), some (.ref h.length), some (.str (sgS l0)), none, none, none, none, none], h ++ [Ob.lst (D.str l0 :: ls.map D.str), Ob.lst ((badN (sg l0)).map D.str), Ob.lst [], Ob.lst (outD (.text 0))]⟩) (d := .ref (h.length + 3)) ?_, by simp, Kp0.app _ _⟩
        simp [p_due_eq, isS, q1, q2, nl_len, L.e, e0, cs, ne0, z1', sg_len, l4, zA, zB, c1, ne1, badN_emp, z3, outD, -List.all_eq_false]
      · have zz : ((sg l0).length : Int) < 2 ∨ 6 < ((sg l0).length : Int) := by omega
        refine ⟨_, _, runB_ret (S := ⟨[some (.str x), some (.ref h.length), some (.str (sgS l0)), none, none, none, none, none], h ++ [Ob.lst (D.str l0 :: ls.map D.str), Ob.lst (outD (.text 0))]⟩) (d := .ref (h.length + 1)) ?_, by simp, Kp0.app _ _⟩
        by_cases zA : (2 : Int) ≤ ((sg l0).length : Int)
        · have zB : ¬ (((sg l0).length : Int) ≤ 6) := by omega
          simp [p_due_eq, isS, q1, q2, nl_len, L.e, e0, cs, ne0, z1', sg_len, l4, zA, zB, outD]
        · simp [p_due_eq, isS, q1, q2, nl_len, L.e, e0, cs, ne0, z1', sg_len, l4, zA, outD]
    · have z1' : (cutS l0 none (some 6) == Str.ofString "start ") = false := beq_false_of_ne z1
      refine ⟨_, _, runB_ret (S := ⟨[some (.str x), some (.ref h.length), some (.str (sgS l0)), none, none, none, none, none], h ++ [Ob.lst (D.str l0 :: ls.map D.str), Ob.lst (outD (.text 0))]⟩) (d := .ref (h.length + 1)) ?_, by simp, Kp0.app _ _⟩
      simp [p_due_eq, isS, q1, q2, nl_len, L.e, e0, cs, ne0, z1', outD]
  cases q : worksL l0 with
  | none => exact bad q
  | some ws =>
    dsimp only
    have good : (cutS l0 none (some 6) == Str.ofString "start ") = true ∧ (2 ≤ (sg l0).length ∧ (sg l0).length ≤ 6) ∧ (sg l0).all wr = true ∧ ws = (sg l0).map fun c => c == 119 := by
      unfold worksL at q
      split at q
      · rename_i hz
        simp only [Bool.and_eq_true, decide_eq_true_eq] at hz
        exact ⟨hz.1.1, hz.1.2, hz.2, (Option.some.inj q).symm⟩
      · cases q
    obtain ⟨z1', z2, z3, zw⟩ := good
    have zA : ((2 : Int) ≤ ((sg l0).length : Int)) := by omega
    have zB : (((sg l0).length : Int) ≤ 6) := by omega
    have h1 := h ++ [Ob.lst (D.str l0 :: ls.map D.str), Ob.lst ((badN (sg l0)).map D.str), Ob.lst [], Ob.lst []]
    have lp := loopD (v := some (.str x)) (r1 := some (.ref h.length)) (r2 := some (.str (sgS l0))) (a7 := none) (nd := h.length + 3) (n := h.length + 4) (by omega) (all := ls) L.g L.b (h ++ [Ob.lst (D.str l0 :: ls.map D.str), Ob.lst ((badN (sg l0)).map D.str), Ob.lst [], Ob.lst [], Ob.lst (ls.map D.str)]) ls 0 100000 [] (h ++ [Ob.lst (D.str l0 :: ls.map D.str), Ob.lst ((badN (sg l0)).map D.str), Ob.lst [], Ob.lst [], Ob.lst (ls.map D.str)]) none none none rfl (by have := L.n; omega) (by have := L.n; simp; omega) (by omega) (by simp) (by simp) (Kp.refl _ _ _)
    have sF : sFor (dEnum (dCons (dSl (dVar 1) (dPS (dC (.int 1))) dPN) dNil)) (gTup 2 (gCons (gN 4) (gCons (gN 5) gNil))) bodyD ⟨[some (.str x), some (.ref h.length), some (.str (sgS l0)), some (.ref (h.length + 3)), none, none, none, none], h ++ [Ob.lst (D.str l0 :: ls.map D.str), Ob.lst ((badN (sg l0)).map D.str), Ob.lst [], Ob.lst []]⟩ = forO (numIt 0 (lstIt (h.length + 4))) (gTup 2 (gCons (gN 4) (gCons (gN 5) gNil))) bodyD 100000 0 ⟨[some (.str x), some (.ref h.length), some (.str (sgS l0)), some (.ref (h.length + 3)), none, none, none, none], h ++ [Ob.lst (D.str l0 :: ls.map D.str), Ob.lst ((badN (sg l0)).map D.str), Ob.lst [], Ob.lst [], Ob.lst (ls.map D.str)]⟩ := by
      rw [sFor_dyn (enum_tail rfl (x := .str l0) (xs := ls.map D.str) (by simp))]
      simp
    rw [Nat.add_zero] at lp
    have kk : ∀ {h1 : List Ob}, Kp (h.length + 3) (h.length + 3) (h ++ [Ob.lst (D.str l0 :: ls.map D.str), Ob.lst ((badN (sg l0)).map D.str), Ob.lst [], Ob.lst [], Ob.lst (ls.map D.str)]) h1 → Kp0 h h1 := fun k => kp_of (Kp0.app _ _) k (by omega)
    cases qr : runL 1 (ls.map deedL) [] with
    | error k =>
      rw [qr] at lp
      obtain ⟨S', j, e2, hj, k2⟩ := lp
      rw [e2] at sF
      refine ⟨_, _, runB_ret (S := S') (d := .ref j) ?_, hj, kk k2⟩
      simp [p_due_eq, isS, q1, q2, nl_len, L.e, e0, cs, ne0, z1', sg_len, l4, zA, zB, c1, ne1, badN_emp, z3, sF, -List.all_eq_true]
    | ok ds =>
      rw [qr] at lp
      obtain ⟨S', e2, hd, k2, a4, a5, a6, l⟩ := lp
      rw [e2] at sF
      obtain ⟨loc, h2⟩ := S'
      dsimp only at l hd k2
      subst l
      have c2 : dComp [7] (dIter (dVar 2)) (gN 7) tTrue (dBin oEq (dVar 7) (dC (.str "w"))) ⟨[some (.str x), some (.ref h.length), some (.str (sgS l0)), some (.ref (h.length + 3)), a4, a5, a6, none], h2⟩ = _ :=
        comp_pure eqW (it _ _ _ _ _ _ _ _) rfl (by rw [List.length_map]; omega) fun d hd => by
          obtain ⟨c, hc, rfl⟩ := List.mem_map.mp hd
          refine ⟨_, rfl, ?_⟩
          simp [oneD, eqW, eq_str (one_good L.g0 hc).shaped (good_of (show goodB (Str.ofString "w") = true by decide +kernel)).shaped]
      rw [eqW_all] at c2
      have hd2 : ∀ t, (h2 ++ t)[h.length + 3]? = some (.lst (ds.map deedD)) := fun t => at_old hd
      refine ⟨_, _, runB_ret (S := ⟨[some (.str x), some (.ref h.length), some (.str (sgS l0)), some (.ref (h.length + 3)), a4, a5, a6, none], h2 ++ [Ob.lst (((sg l0).map fun c => c == 119).map D.bl), Ob.lst (outD (.told ws ds))]⟩) (d := .ref (h2.length + 1)) ?_, by simp, (kk k2).trans (Kp0.app _ _)⟩
      simp [p_due_eq, isS, q1, q2, nl_len, L.e, e0, cs, ne0, z1', sg_len, l4, zA, zB, c1, ne1, badN_emp, z3, sF, c2, hd2, outD, toldD, zw, -List.all_eq_true, -List.map_map]
end K10

namespace K10
open PySem L2 PySem.Spec PyProof.Rows Den
/-! ### L. what the law draws -/
def w6 : List D := [.str "send", .str "get", .str "rest", .str "visit", .str "send", .str "visit"]
theorem deck_new {h : List Ob} {n m : Nat} (dk : Deck h n m) : h.length ≠ m ∧ h.length ≠ n := by
  obtain ⟨_, _, _, hn, hm, _⟩ := dk
  have := lt_of_at hm
  have := lt_of_at hn
  omega
/-- one of a list just made -/
theorem picked {h : List Ob} {n m : Nat} (dk : Deck h n m) {xs : List D} (h1 : 1 ≤ xs.length) (h2 : xs.length < 1000000) : Ok (F_law_pick [.ref n, .ref h.length] (h ++ [.lst xs])) fun d S => d ∈ xs ∧ Deck S.h n m ∧ Kp n m h S.h := by
  obtain ⟨d, S, e, hd, D1, k1⟩ := (pick_ok (dk.keep (Kp0.app _ _)) (at_new h (.lst xs)) (deck_new dk).1 h1 h2).ex
  rw [e]
  exact ⟨hd, D1, ((Kp0.app _ _).kp n m).trans k1⟩
theorem ldeed_ok {h : List Ob} {n m : Nat} (dk : Deck h n m) : Ok (F_law_deed [.ref n, .int 6] h) fun d S => ∃ p, d = deedD p ∧ okD p ∧ Deck S.h n m ∧ Kp n m h S.h := by
  apply ok_runB
  obtain ⟨d1, S1, e1, a, rfl, a0, a1, D1, k1⟩ := (draw_ok dk (many := 6) (by omega) (by omega)).ex
  obtain ⟨d2, S2, e2, hd, D2, k2⟩ := (picked D1 (xs := w6) (by decide) (by decide)).ex
  unfold w6 at e2 hd
  have hw : ∃ w : Str, d2 = .str w ∧ Good w ∧ ((w = "rest" ∨ w = "visit") ∨ (w = "get" ∨ w = "send")) := by
    simp only [List.mem_cons, List.not_mem_nil, or_false] at hd
    rcases hd with rfl | rfl | rfl | rfl | rfl | rfl
    · exact ⟨_, rfl, good_of (by decide +kernel), .inr (.inr rfl)⟩
    · exact ⟨_, rfl, good_of (by decide +kernel), .inr (.inl rfl)⟩
    · exact ⟨_, rfl, good_of (by decide +kernel), .inl (.inl rfl)⟩
    · exact ⟨_, rfl, good_of (by decide +kernel), .inl (.inr rfl)⟩
    · exact ⟨_, rfl, good_of (by decide +kernel), .inr (.inr rfl)⟩
    · exact ⟨_, rfl, good_of (by decide +kernel), .inl (.inr rfl)⟩
  obtain ⟨w, rfl, gw, hw⟩ := hw
  have i1 : ∀ S, oIn (.str w) (.tup [.str "rest", .str "visit"]) S = .ok (.bl (sizeI w == some 2)) S := fun S => by
    rw [size2]; exact in_two gw (good_of (by decide +kernel)) (good_of (by decide +kernel))
  rcases hw with hw | hw
  · have s2 : sizeI w = some 2 := by rcases hw with rfl | rfl <;> decide +kernel
    simp [p_law_deed, e1, e2, i1, s2]
    refine ⟨w, [a], rfl, ⟨?_, .inl rfl, ?_⟩, D2, k1.trans k2⟩
    · rcases hw with rfl | rfl
      · exact .inr (.inl rfl)
      · exact .inr (.inr (.inr rfl))
    · intro i hi
      have : i = a := by simpa using hi
      subst this; exact ⟨a0, a1⟩
  · have s2 : sizeI w = some 3 := by rcases hw with rfl | rfl <;> decide +kernel
    obtain ⟨d3, S3, e3, b, rfl, b0, b1, D3, k3⟩ := (draw_ok D2 (many := 5) (by omega) (by omega)).ex
    simp [p_law_deed, e1, e2, i1, s2, e3]
    have m0 : 0 ≤ (a + 1 + b) % 6 := Int.emod_nonneg _ (by decide)
    have m1 : (a + 1 + b) % 6 < 6 := Int.emod_lt_of_pos _ (by decide)
    refine ⟨w, [a, (a + 1 + b) % 6], rfl, ⟨?_, .inr rfl, ?_⟩, D3, (k1.trans k2).trans k3⟩
    · rcases hw with rfl | rfl
      · exact .inl rfl
      · exact .inr (.inr (.inl rfl))
    · intro i hi
      have : i = a ∨ i = (a + 1 + b) % 6 := by simpa using hi
      rcases this with rfl | rfl
      · exact ⟨a0, a1⟩
      · exact ⟨m0, m1⟩
def toS (d : D) : Option D := match d with
  | .int i => some (.str (toString i))
  | .str s => some (.str s)
  | _ => none
theorem dig {i : Int} (h0 : 0 ≤ i) (h1 : i < 6) : Good (toString i) ∧ ((toString i : String) : Str).length = 1 ∧ i.natAbs.log2 < 1920 := by
  have : i = 0 ∨ i = 1 ∨ i = 2 ∨ i = 3 ∨ i = 4 ∨ i = 5 := by omega
  rcases this with rfl | rfl | rfl | rfl | rfl | rfl <;> exact ⟨good_of (by decide +kernel), by decide +kernel, by decide +kernel⟩
def lineS (p : Dd) : List Str := p.1 :: p.2.map fun i => (toString i : String)
theorem toS_all (p : Dd) : (D.str p.1 :: p.2.map D.int).filterMap toS = (lineS p).map D.str := by
  rw [List.filterMap_cons]
  show D.str p.1 :: (p.2.map D.int).filterMap toS = D.str p.1 :: (p.2.map fun i => ((toString i : String) : Str)).map D.str
  congr 1
  induction p.2 with
  | nil => rfl
  | cons i is ih => rw [List.map_cons, List.filterMap_cons, List.map_cons, List.map_cons, ih]; rfl
theorem word_len {p : Dd} (o : okD p) : p.1.length ≤ 5 := by
  rcases o.1 with e | e | e | e <;> rw [e] <;> decide +kernel
theorem line_ok {p : Dd} (o : okD p) (h : List Ob) : Ok (F_law_line [deedD p] h) fun d S => ∃ s, d = .str s ∧ Good s ∧ s.length ≤ 10 ∧ Kp0 h S.h := by
  apply ok_runB
  have c : dComp [1] (dIter (dVar 0)) (gN 1) tTrue (dCB cStr (dCons (dVar 1) dNil)) ⟨[some (deedD p), none], h⟩ = _ :=
    comp_pure toS (iter_tup (xs := .str p.1 :: p.2.map D.int) rfl) rfl (by have := o.2.1; simp; omega) fun d hd => by
      refine ⟨_, rfl, ?_⟩
      rcases List.mem_cons.mp hd with rfl | hd
      · simp [toS]
      · obtain ⟨i, hi, rfl⟩ := List.mem_map.mp hd
        obtain ⟨h0, h1⟩ := o.2.2 i hi
        simp [toS, (dig h0 h1).2.2]
  rw [toS_all] at c
  have gs : ∀ s ∈ lineS p, Good s ∧ s.length ≤ 5 := by
    intro s hs
    unfold lineS at hs
    rcases List.mem_cons.mp hs with rfl | hs
    · exact ⟨okD_good o, word_len o⟩
    · obtain ⟨i, hi, rfl⟩ := List.mem_map.mp hs
      obtain ⟨h0, h1⟩ := o.2.2 i hi
      exact ⟨(dig h0 h1).1, by rw [(dig h0 h1).2.1]; omega⟩
  have ll : lenS (lineS p) ≤ 7 ∧ (lineS p).length ≤ 3 := by
    unfold lineS
    have w5 := word_len o
    obtain ⟨w, is⟩ := p
    obtain ⟨_, l12, r⟩ := o
    match is, l12 with
    | [a], _ =>
      obtain ⟨h0, h1⟩ := r a (by simp)
      have := (dig h0 h1).2.1
      refine ⟨?_, by simp⟩
      show w.length + (((toString a : String) : Str).length + 0) ≤ 7
      dsimp only at w5
      omega
    | [a, b], _ =>
      obtain ⟨h0, h1⟩ := r a (by simp)
      obtain ⟨h2, h3⟩ := r b (by simp)
      have := (dig h0 h1).2.1
      have := (dig h2 h3).2.1
      refine ⟨?_, by simp⟩
      show w.length + (((toString a : String) : Str).length + (((toString b : String) : Str).length + 0)) ≤ 7
      dsimp only at w5
      omega
  have jl := join_len (Str.ofString " ") (lineS p)
  rw [sp_len] at jl
  have jo : joinOk (Str.ofString " ") (lineS p) = true := joinOk_of (by rw [sp_len]; omega)
  have js : strsOf ((lineS p).map D.str) = some (lineS p) := strsOf_map _
  simp [p_law_line, c, js, jo, tjoin]
  refine ⟨good_join (good_of (by decide +kernel)) fun s hs => (gs s hs).1, by omega, Kp0.app _ _⟩
theorem lworks_ok {h : List Ob} {n m : Nat} (dk : Deck h n m) : Ok (F_law_works [.ref n] h) fun d S => ∃ bs : List Bool, d = .tup (bs.map .bl) ∧ bs.length ≤ 6 ∧ Deck S.h n m ∧ Kp n m h S.h := by
  apply ok_runB
  obtain ⟨d1, S1, e1, a, rfl, a0, a1, D1, k1⟩ := (draw_ok dk (many := 5) (by omega) (by omega)).ex
  have it : dRng (dCons (dBin oAdd (dC (.int 2)) (dCall F_law_draw (dCons (dVar 0) (dCons (dC (.int 5)) dNil)))) dNil) ⟨[some (.ref n), none], h⟩ = .ok (.vals (rgD 0 (2 + a).toNat)) ⟨[some (.ref n), none], S1.h⟩ := rng_of (by simp [e1]) (by omega)
  obtain ⟨acc, h2, c, ⟨bs, rfl, D2, k2⟩, l⟩ := comp_J (vs := [1]) (g := gN 1) (t := tTrue) (e := dBin oEq (dCall F_law_draw (dCons (dVar 0) (dCons (dC (.int 2)) dNil))) (dC (.int 0))) (fun acc h' => ∃ bs : List Bool, acc = bs.map D.bl ∧ Deck h' n m ∧ Kp n m h h') it (fun _ _ _ => rfl) (by rw [rgD_len]; omega) ⟨[], rfl, D1, k1⟩ (by
    rintro d hd acc h' ⟨bs, rfl, D2, k2⟩
    obtain ⟨d3, S3, e3, b, rfl, b0, b1, D3, k3⟩ := (draw_ok D2 (many := 2) (by omega) (by omega)).ex
    refine ⟨_, rfl, ?_⟩
    simp [e3]
    exact ⟨⟨bs ++ [b == 0], by simp⟩, D3, k2.trans k3⟩)
  rw [List.length_map, rgD_len] at l
  simp [p_law_works, c]
  exact ⟨bs, rfl, by omega, D2.keep (Kp0.app _ _), k2.trans ((Kp0.app _ _).kp n m)⟩
def wrS (d : D) : Option D := match d with
  | .bl b => some (.str (if b then "w" else "r"))
  | _ => none
theorem wrS_all : ∀ bs : List Bool, (bs.map D.bl).filterMap wrS = (bs.map fun b => Str.ofString (if b then "w" else "r")).map D.str
  | [] => rfl
  | b :: bs => by
    rw [List.map_cons, List.filterMap_cons, wrS_all bs]; cases b <;> rfl
theorem text_ok {bs : List Bool} {ds : List Dd} (lb : bs.length ≤ 6) (ld : ds.length ≤ 9) (od : ∀ p ∈ ds, okD p) (h : List Ob) : Ok (F_law_text [.tup (bs.map .bl), .tup (ds.map deedD)] h) fun d S => ∃ s, d = .str s ∧ Good s ∧ s.length ≤ 150 ∧ Kp0 h S.h := by
  apply ok_runB
  have c : dComp [3] (dIter (dVar 0)) (gN 3) tTrue (dIf (tTr (dVar 3)) (dC (.str "w")) (dC (.str "r"))) ⟨[some (.tup (bs.map .bl)), some (.tup (ds.map deedD)), none, none, none], h⟩ = _ :=
    comp_pure wrS (iter_tup (xs := bs.map .bl) rfl) rfl (by rw [List.length_map]; omega) fun d hd => by
      obtain ⟨b, hb, rfl⟩ := List.mem_map.mp hd
      refine ⟨_, rfl, ?_⟩
      cases b <;> simp [wrS]
  rw [wrS_all] at c
  generalize hu : (bs.map fun b => Str.ofString (if b then "w" else "r")) = us at c
  have gu : ∀ u ∈ us, Good u ∧ u.length ≤ 1 := by
    intro u h
    rw [← hu] at h
    obtain ⟨b, _, rfl⟩ := List.mem_map.mp h
    cases b <;> exact ⟨good_of (by decide +kernel), by decide +kernel⟩
  have lu : us.length ≤ 6 := by rw [← hu, List.length_map]; exact lb
  have l1 := lenS_le (n := 1) fun u hu => (gu u hu).2
  have j1 := join_len (Str.ofString "") us
  have e0 : (Str.ofString "").length = 0 := by decide +kernel
  rw [e0] at j1
  have jo : joinOk (Str.ofString "") us = true := joinOk_of (by rw [e0]; omega)
  have js : strsOf (us.map D.str) = some us := strsOf_map _
  have g1 : Good (Str.join (Str.ofString "") us) := good_join (good_of (by decide +kernel)) fun u hu => (gu u hu).1
  have q1 : (Str.ofString "start ").length + (Str.join (Str.ofString "") us).length ≤ 1000000 := by rw [st_len]; omega
  have gb : Good (Str.ofString "start " ++ Str.join (Str.ofString "") us) := (good_of (by decide +kernel)).app g1
  have lb' : (Str.ofString "start " ++ Str.join (Str.ofString "") us).length ≤ 12 := by rw [len_app, st_len]; omega
  generalize hbeg : Str.ofString "start " ++ Str.join (Str.ofString "") us = beg at gb lb'
  have it : dIter (dVar 1) ⟨[some (.tup (bs.map .bl)), some (.tup (ds.map deedD)), some (.str beg), none, none], h ++ [Ob.lst (us.map D.str), Ob.lst [.str beg]]⟩ = .ok (.vals (ds.map deedD)) _ := iter_tup rfl
  obtain ⟨acc, h2, c2, ⟨ss, rfl, gs, k2⟩, l⟩ := comp_J (vs := [4]) (g := gN 4) (t := tTrue) (e := dCall F_law_line (dCons (dVar 4) dNil)) (fun acc h' => ∃ ss : List Str, acc = ss.map D.str ∧ (∀ s ∈ ss, Good s ∧ s.length ≤ 10) ∧ Kp0 (h ++ [Ob.lst (us.map D.str), Ob.lst [.str beg]]) h') it (fun _ _ _ => rfl) (by rw [List.length_map]; omega) ⟨[], rfl, (fun _ h => nomatch h), Kp0.refl _⟩ (by
    rintro d hd acc h' ⟨ss, rfl, gs, k2⟩
    obtain ⟨p, hp, rfl⟩ := List.mem_map.mp hd
    obtain ⟨d3, S3, e3, s, rfl, g3, l3, k3⟩ := (line_ok (od p hp) h').ex
    refine ⟨_, rfl, ?_⟩
    simp [e3]
    refine ⟨ss ++ [s], by simp, fun z hz => ?_, k2.trans k3⟩
    rcases List.mem_append.mp hz with hz | hz
    · exact gs z hz
    · rw [List.mem_singleton.mp hz]; exact ⟨g3, l3⟩)
  rw [List.length_map, List.length_map] at l
  have hb := k2 _ _ (show (h ++ [Ob.lst (us.map D.str), Ob.lst [.str beg]])[h.length + 1]? = some (.lst [.str beg]) by simp)
  have hb2 : (h2 ++ [Ob.lst (ss.map D.str)])[h.length + 1]? = some (.lst [.str beg]) := at_old hb
  have q2 : 1 + ss.length ≤ 1000000 := by omega
  have l2 := lenS_le (n := 10) fun s hs => (gs s hs).2
  have j2 := join_len (Str.ofString "\n") (beg :: ss)
  have l3 : lenS (beg :: ss) = beg.length + lenS ss := rfl
  rw [nl_len, List.length_cons] at j2
  have jo2 : joinOk (Str.ofString "\n") (beg :: ss) = true := joinOk_of (by rw [nl_len, List.length_cons]; omega)
  have js2 : strsOf (D.str beg :: ss.map D.str) = some (beg :: ss) := strsOf_map (beg :: ss)
  simp [p_law_text, c, js, jo, tjoin, q1, hbeg, c2, hb2, q2, js2, jo2]
  refine ⟨good_join (good_of (by decide +kernel)) fun s hs => ?_, by omega, ((Kp0.app _ _).trans k2).trans (Kp0.app _ _)⟩
  rcases List.mem_cons.mp hs with rfl | hs
  · exact gb
  · exact (gs s hs).1
end K10

namespace K10
open PySem L2 PySem.Spec PyProof.Rows Den
def sgn : List Str := [" ", "0", "5", "6", "9", "-", "w", "r", "x", "\n", "\nrest 0", " 1", "start", "send ", "+", "01"]
def odd1 : List Str := ["send 0 0", "get 5 5", "rest 6", "visit", "rest 0 1", "send 1", "get 0 1 2", "", "Visit 0", "rest 00"]
def odd2 : List Str := ["start ", "start w", "start wwwwwww", "start wx", "Start wr", "startwr", "start  wr", "start wr "]
def shortB (xs : List Str) : Bool := xs.all fun x => goodB x && decide (x.length ≤ 14)
theorem short_of {xs : List Str} (h : shortB xs = true) {d : D} (hd : d ∈ xs.map D.str) : ∃ s, d = .str s ∧ Good s ∧ s.length ≤ 14 := by
  obtain ⟨s, hs, rfl⟩ := List.mem_map.mp hd
  have := List.all_eq_true.mp h s hs
  rw [Bool.and_eq_true] at this
  exact ⟨s, rfl, good_of this.1, of_decide_eq_true this.2⟩
theorem b1 : shortB sgn = true := by decide +kernel
theorem b2 : shortB odd1 = true := by decide +kernel
theorem b3 : shortB odd2 = true := by decide +kernel
theorem spoilt_ok {h : List Ob} {n m : Nat} (dk : Deck h n m) {x : Str} (gx : Good x) (lx : x.length ≤ 2000) : Ok (F_law_spoilt [.ref n, .str x] h) fun d S => ∃ z, d = .str z ∧ Good z ∧ z.length ≤ 8 * x.length + 60 ∧ Deck S.h n m ∧ Kp n m h S.h := by
  apply ok_runB
  obtain ⟨d1, S1, e1, a, rfl, a0, a1, D1, k1⟩ := (draw_ok dk (many := x.length + 1) (by omega) (by omega)).ex
  obtain ⟨d2, S2, e2, w, rfl, w0, w1, D2, k2⟩ := (draw_ok D1 (many := 7) (by omega) (by omega)).ex
  have sl := split_len x (Str.ofString "\n")
  obtain ⟨l0, ls0, hs⟩ := split_some (x := x) nl_ne
  have hs' : Txt.split x (Str.ofString "\n") = l0 :: ls0 := hs
  have gls := good_split gx (y := Str.ofString "\n")
  have c1 : 1 ≤ (Txt.split x (Str.ofString "\n")).length := by rw [hs']; simp
  generalize hL : Txt.split x (Str.ofString "\n") = L at sl gls c1
  rw [nl_len] at sl
  have dn2 := deck_new D2
  have D2' : Deck (S2.h ++ [Ob.lst (L.map D.str)]) n m := D2.keep (Kp0.app _ _)
  obtain ⟨d3, S3, e3, sp, rfl, sp0, sp1, D3, k3⟩ := (draw_ok D2' (many := L.length) (by omega) (by omega)).ex
  have hl3 := k3 _ _ dn2.2 dn2.1 (at_new S2.h (.lst (L.map D.str)))
  have kk3 : Kp n m h S3.h := ((k1.trans k2).trans ((Kp0.app _ _).kp n m)).trans k3
  have lx2 : x.length ≤ 1000000 := by omega
  have q1 : x.length + 2 ≤ 1000000 := by omega
  have cA := len_cut x none (some a)
  have cB := len_cut x (some (a + 1)) none
  have cC := len_cut x (some a) none
  have cD := len_cut x (some a) (some (a + 2))
  have cE := len_cut x (some (a + 2)) none
  have cF := len_cut x (some 8) none
  have dn3 := deck_new D3
  have hl4 : ∀ t, (S3.h ++ t)[S2.h.length]? = some (.lst (L.map D.str)) := fun t => at_old hl3
  have pre : ∀ (f : Fl → DS → Prop), Ok (p_law_spoilt ⟨[some (.ref n), some (.str x), none, none, none, none, none, none], h⟩) f = Ok (p_law_spoilt ⟨[some (.ref n), some (.str x), none, none, none, none, none, none], h⟩) f := fun _ => rfl
  simp [p_law_spoilt, e1, e2, lx2, q1, nl_len, hL, e3]
  by_cases w00 : w = 0
  · have q : (cutS x none (some a)).length + (cutS x (some (a + 1)) none).length ≤ 1000000 := by omega
    simp [w00, q, lx2]
    exact ⟨(gx.cut _ _).app (gx.cut _ _), by rw [len_app]; omega, D3.keep (Kp0.app _ _), kk3.trans ((Kp0.app _ _).kp n m)⟩
  by_cases w01 : w = 1
  · obtain ⟨d4, S4, e4, hd4, D4, k4⟩ := (picked D3 (xs := sgn.map D.str) (by decide) (by decide)).ex
    obtain ⟨s, rfl, gs, lsn⟩ := short_of b1 hd4
    have e4' := e4
    simp [sgn] at e4'
    have q : (cutS x none (some a)).length + s.length ≤ 1000000 := by omega
    have q2 : (cutS x none (some a) ++ s).length + (cutS x (some a) none).length ≤ 1000000 := by rw [len_app]; omega
    simp [w01, q, q2, lx2, e4']
    exact ⟨((gx.cut _ _).app gs).app (gx.cut _ _), by rw [len_app, len_app]; omega, D4, kk3.trans k4⟩
  by_cases w02 : w = 2
  · obtain ⟨d4, S4, e4, hd4, D4, k4⟩ := (picked D3 (xs := sgn.map D.str) (by decide) (by decide)).ex
    obtain ⟨s, rfl, gs, lsn⟩ := short_of b1 hd4
    have e4' := e4
    simp [sgn] at e4'
    have q : (cutS x none (some a)).length + s.length ≤ 1000000 := by omega
    have q2 : (cutS x none (some a) ++ s).length + (cutS x (some (a + 1)) none).length ≤ 1000000 := by rw [len_app]; omega
    simp [w02, q, q2, lx2, e4']
    exact ⟨((gx.cut _ _).app gs).app (gx.cut _ _), by rw [len_app, len_app]; omega, D4, kk3.trans k4⟩
  by_cases w03 : w = 3
  · have q : (cutS x none (some a)).length + (revS (cutS x (some a) (some (a + 2)))).length ≤ 1000000 := by rw [revS_size]; omega
    have q0 : (cutS x (some a) (some (a + 2))).length ≤ 1000000 := by omega
    have q2 : (cutS x none (some a) ++ revS (cutS x (some a) (some (a + 2)))).length + (cutS x (some (a + 2)) none).length ≤ 1000000 := by rw [len_app, revS_size]; omega
    simp [w03, q, q2, lx2, q0]
    exact ⟨((gx.cut _ _).app (gx.cut _ _).rev).app (gx.cut _ _), by rw [len_app, len_app, revS_size]; omega, D3.keep (Kp0.app _ _), kk3.trans ((Kp0.app _ _).kp n m)⟩
  by_cases w04 : w = 4
  · obtain ⟨cl1, cs1⟩ := cutL_len L none (some sp)
    obtain ⟨cl2, cs2⟩ := cutL_len L (some sp) (some (sp + 1))
    obtain ⟨cl3, cs3⟩ := cutL_len L (some (sp + 1)) none
    have D4 : Deck (S3.h ++ [Ob.lst (sgn.map D.str), Ob.lst ((cutL L none (some sp)).map D.str), Ob.lst ((cutL L (some sp) (some (sp + 1))).map D.str)]) n m := D3.keep (Kp0.app _ _)
    obtain ⟨d5, S5, e5, r, rfl, r0, r1, D5, k5⟩ := (draw_ok D4 (many := 3) (by omega) (by omega)).ex
    have e5' := e5
    simp [sgn] at e5'
    have hA := k5 (S3.h.length + 1) (Ob.lst ((cutL L none (some sp)).map D.str)) (by have := lt_of_at D3.ex.choose_spec.choose_spec.1; omega) (by have := lt_of_at D3.ex.choose_spec.choose_spec.2.1; omega) (by simp)
    have hB := k5 (S3.h.length + 2) (Ob.lst ((cutL L (some sp) (some (sp + 1))).map D.str)) (by have := lt_of_at D3.ex.choose_spec.choose_spec.1; omega) (by have := lt_of_at D3.ex.choose_spec.choose_spec.2.1; omega) (by simp)
    have hC := k5 S2.h.length (Ob.lst (L.map D.str)) dn2.2 dn2.1 (hl4 _)
    have hA' : ∀ t, (S5.h ++ t)[S3.h.length + 1]? = some (Ob.lst ((cutL L none (some sp)).map D.str)) := fun t => at_old hA
    have hC' : ∀ t, (S5.h ++ t)[S2.h.length]? = some (Ob.lst (L.map D.str)) := fun t => at_old hC
    obtain ⟨rp1, rp2⟩ := lenS_rep (cutL L (some sp) (some (sp + 1))) r.toNat
    have rt : r.toNat ≤ 2 := by omega
    have m1 : r.toNat * lenS (cutL L (some sp) (some (sp + 1))) ≤ 2 * lenS (cutL L (some sp) (some (sp + 1))) := Nat.mul_le_mul_right _ rt
    have m2 : r.toNat * (cutL L (some sp) (some (sp + 1))).length ≤ 2 * (cutL L (some sp) (some (sp + 1))).length := Nat.mul_le_mul_right _ rt
    have r3 : -1000000 ≤ r ∧ r ≤ 1000000 := by omega
    have q3 : (cutL L (some sp) (some (sp + 1))).length * r.toNat ≤ 1000000 := by rw [Nat.mul_comm]; omega
    have q4 : (cutL L none (some sp)).length + (List.replicate r.toNat (cutL L (some sp) (some (sp + 1)))).flatten.length ≤ 1000000 := by omega
    generalize hR : (List.replicate r.toNat (cutL L (some sp) (some (sp + 1)))).flatten = R at rp1 rp2 q4
    have gR : ∀ p ∈ R, p ∈ L := fun p hp => by rw [← hR] at hp; exact cutL_mem (rep_mem hp)
    have q5 : (cutL L none (some sp)).length + R.length + (cutL L (some (sp + 1)) none).length ≤ 1000000 := by omega
    have js : strsOf ((cutL L none (some sp)).map D.str ++ (R.map D.str ++ (cutL L (some (sp + 1)) none).map D.str)) = some (cutL L none (some sp) ++ (R ++ cutL L (some (sp + 1)) none)) := by
      rw [← List.map_append, ← List.map_append]; exact strsOf_map _
    have ll : lenS (cutL L none (some sp) ++ (R ++ cutL L (some (sp + 1)) none)) + (cutL L none (some sp) ++ (R ++ cutL L (some (sp + 1)) none)).length * 1 ≤ 8 * x.length + 60 := by
      rw [lenS_app, lenS_app, List.length_append, List.length_append]; omega
    have jo : joinOk (Str.ofString "\n") (cutL L none (some sp) ++ (R ++ cutL L (some (sp + 1)) none)) = true := joinOk_of (by rw [nl_len]; omega)
    have jl := join_len (Str.ofString "\n") (cutL L none (some sp) ++ (R ++ cutL L (some (sp + 1)) none))
    rw [nl_len] at jl
    simp [w04, z_slL, hl4, cut_strs, e5', hA, hB, hA', hC', r3, q3, q4, rep_strs, hR, q5, js, jo, tjoin, -List.map_flatten, -List.map_replicate]
    refine ⟨good_join (good_of (by decide +kernel)) fun p hp => ?_, by omega, D5.keep (Kp0.app _ _), (kk3.trans ((Kp0.app _ _).kp n m)).trans (k5.trans ((Kp0.app _ _).kp n m))⟩
    rcases List.mem_append.mp hp with hp | hp
    · exact gls p (cutL_mem hp)
    rcases List.mem_append.mp hp with hp | hp
    · exact gls p (gR p hp)
    · exact gls p (cutL_mem hp)
  have out3 : ∀ j, S3.h.length + j ≠ n ∧ S3.h.length + j ≠ m := fun j => by
    obtain ⟨_, _, _, hn, hm, _⟩ := D3
    have := lt_of_at hn
    have := lt_of_at hm
    omega
  by_cases w05 : w = 5
  · obtain ⟨cl1, cs1⟩ := cutL_len L none (some (sp + 1))
    obtain ⟨cl3, cs3⟩ := cutL_len L (some (sp + 1)) none
    have D4 : Deck (S3.h ++ [Ob.lst (sgn.map D.str), Ob.lst (odd1.map D.str), Ob.lst ((cutL L none (some (sp + 1))).map D.str)]) n m := D3.keep (Kp0.app _ _)
    obtain ⟨d5, S5, e5, hd5, D5, k5⟩ := (pick_ok D4 (k := S3.h.length + 1) (xs := odd1.map D.str) (by simp) (out3 1).2 (by decide) (by decide)).ex
    obtain ⟨s, rfl, gs, lsn⟩ := short_of b2 hd5
    have e5' := e5
    simp [sgn, odd1] at e5'
    have hA := k5 (S3.h.length + 2) (Ob.lst ((cutL L none (some (sp + 1))).map D.str)) (out3 2).1 (out3 2).2 (by simp)
    have hC := k5 S2.h.length (Ob.lst (L.map D.str)) dn2.2 dn2.1 (hl4 _)
    have hA' : ∀ t, (S5.h ++ t)[S3.h.length + 2]? = some (Ob.lst ((cutL L none (some (sp + 1))).map D.str)) := fun t => at_old hA
    have hC' : ∀ t, (S5.h ++ t)[S2.h.length]? = some (Ob.lst (L.map D.str)) := fun t => at_old hC
    have q4 : (cutL L none (some (sp + 1))).length + 1 ≤ 1000000 := by omega
    have q5 : (cutL L none (some (sp + 1))).length + 1 + (cutL L (some (sp + 1)) none).length ≤ 1000000 := by omega
    have js : strsOf ((cutL L none (some (sp + 1))).map D.str ++ D.str s :: (cutL L (some (sp + 1)) none).map D.str) = some (cutL L none (some (sp + 1)) ++ s :: cutL L (some (sp + 1)) none) := by
      rw [← List.map_cons, ← List.map_append]; exact strsOf_map _
    have l1 : lenS (s :: cutL L (some (sp + 1)) none) = s.length + lenS (cutL L (some (sp + 1)) none) := rfl
    have ll : lenS (cutL L none (some (sp + 1)) ++ s :: cutL L (some (sp + 1)) none) + (cutL L none (some (sp + 1)) ++ s :: cutL L (some (sp + 1)) none).length * 1 ≤ 8 * x.length + 60 := by
      rw [lenS_app, l1, List.length_append, List.length_cons]; omega
    have jo : joinOk (Str.ofString "\n") (cutL L none (some (sp + 1)) ++ s :: cutL L (some (sp + 1)) none) = true := joinOk_of (by rw [nl_len]; omega)
    have jl := join_len (Str.ofString "\n") (cutL L none (some (sp + 1)) ++ s :: cutL L (some (sp + 1)) none)
    rw [nl_len] at jl
    simp [w05, z_slL, hl4, cut_strs, e5', hA, hA', hC', q4, q5, js, jo, tjoin]
    refine ⟨good_join (good_of (by decide +kernel)) fun p hp => ?_, by omega, D5.keep (Kp0.app _ _), (kk3.trans ((Kp0.app _ _).kp n m)).trans (k5.trans ((Kp0.app _ _).kp n m))⟩
    rcases List.mem_append.mp hp with hp | hp
    · exact gls p (cutL_mem hp)
    rcases List.mem_cons.mp hp with rfl | hp
    · exact gs
    · exact gls p (cutL_mem hp)
  · have D4 : Deck (S3.h ++ [Ob.lst (sgn.map D.str), Ob.lst (odd2.map D.str)]) n m := D3.keep (Kp0.app _ _)
    obtain ⟨d5, S5, e5, hd5, D5, k5⟩ := (pick_ok D4 (k := S3.h.length + 1) (xs := odd2.map D.str) (by simp) (out3 1).2 (by decide) (by decide)).ex
    obtain ⟨s, rfl, gs, lsn⟩ := short_of b3 hd5
    have e5' := e5
    simp [sgn, odd2] at e5'
    have q : s.length + (cutS x (some 8) none).length ≤ 1000000 := by omega
    simp [w00, w01, w02, w03, w04, w05, e5', lx2, q]
    exact ⟨gs.app (gx.cut _ _), by rw [len_app]; omega, D5, (kk3.trans ((Kp0.app _ _).kp n m)).trans k5⟩
end K10

namespace K10
open PySem L2 PySem.Spec PyProof.Rows Den
/-! ### M. outcomes and their repr -/
def okOut (o : Out) : Prop := match o with
  | .text k => k ≤ 401
  | .told ws ds => ws.length ≤ 6 ∧ ds.length ≤ 400 ∧ ∀ p ∈ ds, okD p
theorem runL_ok : ∀ (os : List (Option Dd)) (k : Nat) (acc : List Dd), k ≤ 401 → acc.length + 1 = k → (∀ o ∈ os, ∀ p, o = some p → okD p) → (∀ p ∈ acc, okD p) → match runL k os acc with
    | .error j => j ≤ 401
    | .ok ds => ds.length ≤ 400 ∧ ∀ p ∈ ds, okD p
  | [], k, acc, hk, hl, ho, ha => by
    unfold runL
    exact ⟨by omega, ha⟩
  | o :: os, k, acc, hk, hl, ho, ha => by
    unfold runL
    by_cases c : 400 < k
    · rw [if_pos c]; exact hk
    · rw [if_neg c]
      cases o with
      | none => exact hk
      | some p =>
        refine runL_ok os (k + 1) (acc ++ [p]) (by omega) (by simp; omega) (fun o ho2 => ho o (List.mem_cons_of_mem _ ho2)) fun q hq => ?_
        rcases List.mem_append.mp hq with hq | hq
        · exact ha q hq
        · rw [List.mem_singleton.mp hq]; exact ho (some p) (by simp) p rfl
theorem works_len {l : Str} {ws : List Bool} (h : worksL l = some ws) : ws.length ≤ 6 := by
  unfold worksL at h
  split at h
  · rename_i hz
    simp only [Bool.and_eq_true, decide_eq_true_eq] at hz
    cases h
    rw [List.length_map]
    exact hz.1.2.2
  · cases h
theorem outS_ok (x : Str) : okOut (outS x) := by
  unfold outS
  split
  · exact Nat.zero_le _
  · rename_i l0 ls _
    cases q : worksL l0 with
    | none => exact Nat.zero_le _
    | some ws =>
      dsimp only
      have r := runL_ok (ls.map deedL) 1 [] (by decide) rfl (fun o ho p e => by
        obtain ⟨l, _, rfl⟩ := List.mem_map.mp ho
        exact deedL_ok e) (fun _ h => nomatch h)
      split
      · rename_i k e
        rw [e] at r; exact r
      · rename_i ds e
        rw [e] at r; exact ⟨works_len q, r⟩
def toldP (ws : List Bool) (ds : List Dd) : PyData := .tuple [.tuple (ws.map .bool), .tuple (ds.map deedP)]
def outP (o : Out) : PyData := match o with
  | .text k => .list [.str "text", .int k, .bool true]
  | .told ws ds => .list [.str "told", toldP ws ds]
theorem toPy_bls (h : List Ob) (n : Nat) : ∀ bs : List Bool, (bs.map D.bl).mapM (toPy h n) = some (bs.map PyData.bool)
  | [] => rfl
  | b :: bs => by
    rw [List.map_cons, List.mapM_cons, toPy_bls h n bs]
    cases n <;> rfl
theorem toPy_told (h : List Ob) (ws : List Bool) (ds : List Dd) : toPy h 19 (toldD ws ds) = some (toldP ws ds) := by
  have e1 : toPy h 18 (.tup (ws.map .bl)) = some (.tuple (ws.map .bool)) := by
    show ((ws.map D.bl).mapM (toPy h 17)).map PyData.tuple = _
    rw [toPy_bls]; rfl
  have e2 : toPy h 18 (.tup (ds.map deedD)) = some (.tuple (ds.map deedP)) := by
    show ((ds.map deedD).mapM (toPy h 17)).map PyData.tuple = _
    rw [toPy_deeds h 16]; rfl
  show ([D.tup (ws.map .bl), D.tup (ds.map deedD)].mapM (toPy h 18)).map PyData.tuple = _
  rw [List.mapM_cons, e1, List.mapM_cons, e2]; rfl
theorem py_out {S : DS} {j : Nat} {o : Out} (h : S.h[j]? = some (.lst (outD o))) : pyD S (.ref j) = some (outP o) := by
  rw [pyD_lst h]
  cases o with
  | text k => rfl
  | told ws ds =>
    show ([D.str "told", toldD ws ds].mapM (toPy S.h 19)).map PyData.list = _
    rw [List.mapM_cons, List.mapM_cons, toPy_told]; rfl
theorem sm_int6 {i : Int} (h0 : 0 ≤ i) (h1 : i < 6) : Sm (.int i) 7 0 := by
  have : i = 0 ∨ i = 1 ∨ i = 2 ∨ i = 3 ∨ i = 4 ∨ i = 5 := by omega
  rcases this with rfl | rfl | rfl | rfl | rfl | rfl <;> exact sm_of (by decide +kernel)
theorem sm_401 : ((List.range 402).all fun k => smB (.int (k : Int)) 7 0) = true := by decide +kernel
theorem sm_int {k : Nat} (h : k ≤ 401) : Sm (.int (k : Int)) 7 0 := sm_of (List.all_eq_true.mp sm_401 k (List.mem_range.mpr (by omega)))
theorem sm_deed {p : Dd} (o : okD p) : Sm (deedP p) 30 1 := by
  have l := o.2.1
  refine (sm_tup (n := 7) (d := 0) (ps := .str p.1 :: p.2.map PyData.int) fun q hq => ?_).le (by rw [List.length_cons, List.length_map]; omega) (by omega)
  rcases List.mem_cons.mp hq with rfl | hq
  · rcases o.1 with e | e | e | e <;> rw [e] <;> exact sm_of (by decide +kernel)
  · obtain ⟨i, hi, rfl⟩ := List.mem_map.mp hq
    obtain ⟨h0, h1⟩ := o.2.2 i hi
    exact sm_int6 h0 h1
theorem sm_out {o : Out} (ok : okOut o) : Sm (outP o) 60000 5 := by
  cases o with
  | text k =>
    refine (sm_list (n := 10) (d := 0) (ps := [.str "text", .int k, .bool true]) fun q hq => ?_).le (by show 3 * (10 + 2) + 2 ≤ 60000; omega) (by omega)
    simp only [List.mem_cons, List.not_mem_nil, or_false] at hq
    rcases hq with rfl | rfl | rfl
    · exact sm_of (by decide +kernel)
    · exact (sm_int ok).le (by omega) (by omega)
    · exact sm_of (by decide +kernel)
  | told ws ds =>
    obtain ⟨lw, ld, od⟩ := ok
    have s1 : Sm (.tuple (ws.map .bool)) 12803 2 := (sm_tup (n := 5) (d := 0) fun q hq => by
      obtain ⟨b, _, rfl⟩ := List.mem_map.mp hq
      exact sm_bool b).le (by rw [List.length_map]; omega) (by omega)
    have s2 : Sm (.tuple (ds.map deedP)) 12803 2 := (sm_tup (n := 30) (d := 1) fun q hq => by
      obtain ⟨p, hp, rfl⟩ := List.mem_map.mp hq
      exact sm_deed (od p hp)).le (by rw [List.length_map]; omega) (by omega)
    have s3 : Sm (toldP ws ds) 25613 3 := (sm_tup (n := 12803) (d := 2) (ps := [.tuple (ws.map .bool), .tuple (ds.map deedP)]) fun q hq => by
      simp only [List.mem_cons, List.not_mem_nil, or_false] at hq
      rcases hq with rfl | rfl
      · exact s1
      · exact s2).le (by show 2 * (12803 + 2) + 3 ≤ 25613; omega) (by omega)
    refine (sm_list (n := 25613) (d := 3) (ps := [.str "told", toldP ws ds]) fun q hq => ?_).le (by show 2 * (25613 + 2) + 2 ≤ 60000; omega) (by omega)
    simp only [List.mem_cons, List.not_mem_nil, or_false] at hq
    rcases hq with rfl | rfl
    · exact (sm_of (n := 10) (d := 0) (by decide +kernel)).le (by omega) (by omega)
    · exact s3
theorem repr_out {S : DS} {j : Nat} {o : Out} (ok : okOut o) (h : S.h[j]? = some (.lst (outD o))) : cRepr [.ref j] S = .ok (.str (outP o).shown) S := (sm_out ok).repr (by omega) (by omega) (py_out h)
theorem ne_out {S : DS} {o : Out} (ok : okOut o) : oNe (.str (outP o).shown) (.str (outP o).shown) S = .ok (.bl false) S := (sm_out ok).ne
theorem eq_out {S : DS} {o : Out} (ok : okOut o) : oEq (.str (outP o).shown) (.str (outP o).shown) S = .ok (.bl true) S := (sm_out ok).eq
/-! ### N. a value that is asked of -/
structure Vl (n m : Nat) (h : List Ob) (d : D) (o : Out) : Prop where
  ok : okOut o
  due : ∀ h', Kp n m h h' → DueR h' (F_law_due [d] h') o
  read : ∀ h', Kp n m h h' → ReadR h' (F_read_run [d] h') o
theorem Vl.mono {n m : Nat} {h h1 : List Ob} {d : D} {o : Out} (v : Vl n m h d o) (k : Kp n m h h1) : Vl n m h1 d o := ⟨v.ok, fun h' k' => v.due h' (k.trans k'), fun h' k' => v.read h' (k.trans k')⟩
theorem vl_str {n m : Nat} {h : List Ob} {x : Str} (g : Good x) (l : x.length ≤ 20000) : Vl n m h (.str x) (outS x) := ⟨outS_ok x, fun h' _ => due_ok g l h', fun h' _ => read_ok g l h'⟩
theorem vl_ty {n m : Nat} {h : List Ob} {d : D} {t : String} (f : isaB t "str" = some false) (e : ∀ h', Kp n m h h' → ∀ loc, tyName ⟨loc, h'⟩ d = some t) : Vl n m h d (.text 0) :=
  ⟨Nat.zero_le _, fun h' k => due_not (e h' k) f, fun h' k => by
    refine ⟨_, read_not (e h' k) f, Kp0.refl _⟩⟩
theorem vl_ref {n m k : Nat} {h : List Ob} {ob : Ob} (kn : k ≠ n) (km : k ≠ m) (e : h[k]? = some ob) : ∃ o, Vl n m h (.ref k) o := by
  cases ob with
  | lst xs => exact ⟨_, vl_ty (t := "list") (by decide) fun h' kk loc => by rw [z_tyR]; dsimp only; rw [kk _ _ kn km e]⟩
  | dct xs => exact ⟨_, vl_ty (t := "dict") (by decide) fun h' kk loc => by rw [z_tyR]; dsimp only; rw [kk _ _ kn km e]⟩
  | fdct xs => exact ⟨_, vl_ty (t := "dict") (by decide) fun h' kk loc => by rw [z_tyR]; dsimp only; rw [kk _ _ kn km e]⟩
def bodyI : DSt := (sSeq (sAsg (dCB cRepr (dCons (dCall F_law_due (dCons (dVar 10) dNil)) dNil)) (gN 11))
  (sIf (tOrD (tV (dBin oNe (dCB cRepr (dCons (dCall F_law_heard (dCons (dVar 10) (dCons (dBin oEq (dVar 5) (dBin oMod (dVar 2) (dC (.int 6)))) dNil))) dNil)) (dVar 11))) (tAndD (tV (dBin oLt (dVar 5) (dC (.int 2)))) (tV (dBin oNe (dCB cRepr (dCons (dCall F_law_heard (dCons (dVar 10) (dCons (dC (.bl false)) dNil))) dNil)) (dVar 11))))) (sRet (dC (.bl false))) sNop))
theorem turnI {n m : Nat} {h : List Ob} {d : D} {o : Out} (v : Vl n m h d o) {a0 a1 a3 a4 a6 a7 a8 a9 a11 : Option D} {t s : Int} :
    Ok (bodyI ⟨[a0, a1, some (.int t), a3, a4, some (.int s), a6, a7, a8, a9, some d, a11], h⟩) fun f S => f = .next ∧ S.loc = [a0, a1, some (.int t), a3, a4, some (.int s), a6, a7, a8, a9, some d, some (.str (outP o).shown)] ∧ Kp0 h S.h := by
  obtain ⟨S1, j, e1, hj, k1⟩ := v.due h (Kp.refl _ _ _)
  obtain ⟨j2, h2, e2, k2, hj2⟩ := heard_ok (b := s == t % 6) (v.read S1.h (k1.kp _ _))
  obtain ⟨j3, h3, e3, k3, hj3⟩ := heard_ok (b := false) (v.read h2 ((k1.trans k2).kp _ _))
  have r1 : ∀ loc, cRepr [.ref j] ⟨loc, S1.h⟩ = .ok (.str (outP o).shown) ⟨loc, S1.h⟩ := fun loc => repr_out v.ok hj
  have r2 : ∀ loc, cRepr [.ref j2] ⟨loc, h2⟩ = .ok (.str (outP o).shown) ⟨loc, h2⟩ := fun loc => repr_out v.ok hj2
  have r3 : ∀ loc, cRepr [.ref j3] ⟨loc, h3⟩ = .ok (.str (outP o).shown) ⟨loc, h3⟩ := fun loc => repr_out v.ok hj3
  by_cases c : s < 2
  · simp [bodyI, e1, r1, e2, r2, ne_out v.ok, c, e3, r3]
    exact (k1.trans k2).trans k3
  · simp [bodyI, e1, r1, e2, r2, ne_out v.ok, c]
    exact k1.trans k2
end K10

namespace K10
open PySem L2 PySem.Spec PyProof.Rows Den
/-! ### O. the law -/
theorem ok_seq {a b : DSt} {S : DS} {Q : Fl → DS → Prop} (h : Ok (a S) fun f S1 => f = .next ∧ Ok (b S1) Q) : Ok (sSeq a b S) Q := by
  obtain ⟨f, S1, e, rfl, q⟩ := h.ex
  rw [z_seq, e]
  exact q
theorem okmp {α : Type} {r : Res α} {Q Q' : α → DS → Prop} (h : Ok r Q) (k : ∀ a S, Q a S → Q' a S) : Ok r Q' := by
  obtain ⟨a, S, e, q⟩ := h.ex
  rw [e]; exact k a S q
def s1 : DSt := (sAsg (dCB cTuple (dCons (dComp [5] (dRng (dCons (dCall F_law_draw (dCons (dVar 1) (dCons (dC (.int 9)) dNil))) dNil)) (gN 5) tTrue (dCall F_law_deed (dCons (dVar 1) (dCons (dC (.int 6)) dNil)))) dNil)) (gN 6))
def s2 : DSt := (sAsg (dCall F_law_text (dCons (dCall F_law_works (dCons (dVar 1) dNil)) (dCons (dVar 6) dNil))) (gN 7))
def s3 : DSt := (sAsg (dLst (dCons (dVar 7) (dCons (dCall F_law_spoilt (dCons (dVar 1) (dCons (dVar 7) dNil))) (dCons (dCall F_law_spoilt (dCons (dVar 1) (dCons (dVar 7) dNil))) dNil)))) (gN 8))
def s4 : DSt := (sExpr (dMtL mAppend (dVar 8) (dCons (dCall F_law_spoilt (dCons (dVar 1) (dCons (dBin oIx (dVar 8) (dNeg (dC (.int 1)))) dNil))) dNil)))
def s5 : DSt := (sAsg (dLst (dCons (dC .non) (dCons (dC (.int 0)) (dCons (dC (.bl true)) (dCons (dLst dNil) (dCons dNew0 (dCons (dTup (dCons (dVar 7) dNil)) (dCons (dC (.str "")) (dCons (dC (.str "start")) (dCons (dC (.str "\n")) (dCons (dC (.str "rest 0")) (dCons (dC (.str "start wr\n\n")) (dCons (dBin oAdd (dC (.str "start ")) (dBin oMulA (dC (.str "w")) (dC (.int 3000)))) dNil))))))))))))) (gN 9))
def s6 : DSt := (sExpr (dMtL mAppend (dVar 8) (dCons (dCall F_law_pick (dCons (dVar 1) (dCons (dBin oAdd (dVar 9) (dLst (dCons (dBin oAdd (dC (.str "start rr\nvisit ")) (dBin oMulA (dC (.str "0")) (dC (.int 4000)))) (dCons (dTup (dCons (dTup (dCons (dC (.bl true)) (dCons (dC (.bl false)) dNil))) (dCons (dTup dNil) dNil))) dNil)))) dNil))) dNil)))
def s7 : DSt := (sFor (dEnum (dCons (dVar 8) dNil)) (gTup 2 (gCons (gN 5) (gCons (gN 10) gNil))) bodyI)
def bodyO : DSt := sSeq s1 (sSeq s2 (sSeq s3 (sSeq s4 (sSeq s5 (sSeq s6 s7)))))
variable {a0 a3 a4 a5 a6 a7 a8 a9 a10 a11 : Option D} {t : Int} {n m : Nat} {h : List Ob}
theorem s1_ok (dk : Deck h n m) : Ok (s1 ⟨[a0, some (.ref n), some (.int t), a3, a4, a5, a6, a7, a8, a9, a10, a11], h⟩) fun f S => f = .next ∧ ∃ ds : List Dd, ds.length ≤ 9 ∧ (∀ p ∈ ds, okD p) ∧ S.loc = [a0, some (.ref n), some (.int t), a3, a4, a5, some (.tup (ds.map deedD)), a7, a8, a9, a10, a11] ∧ Deck S.h n m := by
  obtain ⟨d1, S1, e1, a, rfl, r0, r1, D1, k1⟩ := (draw_ok dk (many := 9) (by omega) (by omega)).ex
  have it : dRng (dCons (dCall F_law_draw (dCons (dVar 1) (dCons (dC (.int 9)) dNil))) dNil) ⟨[a0, some (.ref n), some (.int t), a3, a4, a5, a6, a7, a8, a9, a10, a11], h⟩ = .ok (.vals (rgD 0 a.toNat)) ⟨[a0, some (.ref n), some (.int t), a3, a4, a5, a6, a7, a8, a9, a10, a11], S1.h⟩ := rng_of (by simp [e1]) (by omega)
  obtain ⟨acc, h2, c, ⟨ds, rfl, od, D2⟩, l⟩ := comp_J (vs := [5]) (g := gN 5) (t := tTrue) (e := dCall F_law_deed (dCons (dVar 1) (dCons (dC (.int 6)) dNil))) (fun acc h' => ∃ ds : List Dd, acc = ds.map deedD ∧ (∀ p ∈ ds, okD p) ∧ Deck h' n m) it (fun _ _ _ => rfl) (by rw [rgD_len]; omega) ⟨[], rfl, (fun _ h => nomatch h), D1⟩ (by
    rintro d hd acc h' ⟨ds, rfl, od, D2⟩
    obtain ⟨d3, S3, e3, p, rfl, op, D3, k3⟩ := (ldeed_ok D2).ex
    refine ⟨_, rfl, ?_⟩
    simp [e3]
    exact ⟨ds ++ [p], by simp, fun w is hq => by
      rcases List.mem_append.mp hq with hq | hq
      · exact od (w, is) hq
      · rw [List.mem_singleton.mp hq]; exact op, D3⟩)
  rw [List.length_map, rgD_len] at l
  simp [s1, c]
  exact ⟨ds, by omega, fun w is hq => od (w, is) hq, rfl, D2.keep (Kp0.app _ _)⟩
theorem s2_ok (dk : Deck h n m) {ds : List Dd} (ld : ds.length ≤ 9) (od : ∀ p ∈ ds, okD p) : Ok (s2 ⟨[a0, some (.ref n), some (.int t), a3, a4, a5, some (.tup (ds.map deedD)), a7, a8, a9, a10, a11], h⟩) fun f S => f = .next ∧ ∃ x : Str, Good x ∧ x.length ≤ 150 ∧ S.loc = [a0, some (.ref n), some (.int t), a3, a4, a5, some (.tup (ds.map deedD)), some (.str x), a8, a9, a10, a11] ∧ Deck S.h n m := by
  obtain ⟨d1, S1, e1, bs, rfl, lb, D1, k1⟩ := (lworks_ok dk).ex
  obtain ⟨d2, S2, e2, x, rfl, gx, lx, k2⟩ := (text_ok lb ld od S1.h).ex
  simp [s2, e1, e2]
  exact ⟨x, gx, lx, rfl, D1.keep k2⟩
structure Some (n m : Nat) (h : List Ob) (ns : Nat) (ss : List Str) : Prop where
  n1 : ns ≠ n
  n2 : ns ≠ m
  e : h[ns]? = some (.lst (ss.map D.str))
  g : ∀ s ∈ ss, Good s ∧ s.length ≤ 20000
theorem s3_ok (dk : Deck h n m) {x : Str} (gx : Good x) (lx : x.length ≤ 150) : Ok (s3 ⟨[a0, some (.ref n), some (.int t), a3, a4, a5, a6, some (.str x), a8, a9, a10, a11], h⟩) fun f S => f = .next ∧ ∃ (ns : Nat) (y z : Str), Some n m S.h ns [x, y, z] ∧ z.length ≤ 2000 ∧ S.loc = [a0, some (.ref n), some (.int t), a3, a4, a5, a6, some (.str x), some (.ref ns), a9, a10, a11] ∧ Deck S.h n m := by
  obtain ⟨d1, S1, e1, y, rfl, gy, ly, D1, k1⟩ := (spoilt_ok dk gx (by omega)).ex
  obtain ⟨d2, S2, e2, z, rfl, gz, lz, D2, k2⟩ := (spoilt_ok D1 gx (by omega)).ex
  simp [s3, e1, e2]
  obtain ⟨q1, q2⟩ := deck_new D2
  refine ⟨_, y, z, ⟨q2, q1, at_new _ _, fun s hs => ?_⟩, by omega, rfl, D2.keep (Kp0.app _ _)⟩
  simp only [List.mem_cons, List.not_mem_nil, or_false] at hs
  rcases hs with rfl | rfl | rfl
  · exact ⟨gx, by omega⟩
  · exact ⟨gy, by omega⟩
  · exact ⟨gz, by omega⟩
theorem s4_ok (dk : Deck h n m) {x y z : Str} {ns : Nat} (so : Some n m h ns [x, y, z]) (lz : z.length ≤ 2000) : Ok (s4 ⟨[a0, some (.ref n), some (.int t), a3, a4, a5, a6, some (.str x), some (.ref ns), a9, a10, a11], h⟩) fun f S => f = .next ∧ ∃ w : Str, Some n m S.h ns [x, y, z, w] ∧ S.loc = [a0, some (.ref n), some (.int t), a3, a4, a5, a6, some (.str x), some (.ref ns), a9, a10, a11] ∧ Deck S.h n m := by
  obtain ⟨d1, S1, e1, w, rfl, gw, lw, D1, k1⟩ := (spoilt_ok dk (so.g z (by simp)).1 lz).ex
  have e2 := k1 _ _ so.n1 so.n2 so.e
  have e3 := so.e
  simp at e2 e3
  have i3 : atI [D.str x, D.str y, D.str z] (-1) = some (.str z) := rfl
  simp [s4, e3, i3, e1, e2]
  refine ⟨⟨w, ⟨so.n1, so.n2, by rw [List.getElem?_set_self (lt_of_at e2)]; rfl, fun s hs => ?_⟩⟩, ?_⟩
  · simp only [List.mem_cons, List.not_mem_nil, or_false] at hs
    rcases hs with rfl | rfl | rfl | rfl
    · exact so.g _ (by simp)
    · exact so.g _ (by simp)
    · exact so.g _ (by simp)
    · exact ⟨gw, by omega⟩
  · obtain ⟨ne, s, xs, hn, hm, r⟩ := D1
    exact ⟨ne, s, xs, by rw [List.getElem?_set_ne so.n1]; exact hn, by rw [List.getElem?_set_ne so.n2]; exact hm, r⟩
def w3 : Str := Str.ofString "start " ++ repS (Str.ofString "w") 3000
def z4 : Str := Str.ofString "start rr\nvisit " ++ repS (Str.ofString "0") 4000
theorem w_one : (Str.ofString "w").length = 1 := by decide +kernel
theorem z_one : (Str.ofString "0").length = 1 := by decide +kernel
theorem zz_len : (Str.ofString "start rr\nvisit ").length = 15 := by decide +kernel
theorem w_rep : (repS (Str.ofString "w") 3000).length = 3000 := repS_len (by decide) w_one
theorem z_rep : (repS (Str.ofString "0") 4000).length = 4000 := repS_len (by decide) z_one
theorem w3_ok : Good w3 ∧ w3.length ≤ 5000 := ⟨(good_of (by decide +kernel)).app (repS_good (by decide) w_one (good_of (by decide +kernel))), by unfold w3; rw [len_app, w_rep, st_len]; omega⟩
theorem z4_ok : Good z4 ∧ z4.length ≤ 5000 := ⟨(good_of (by decide +kernel)).app (repS_good (by decide) z_one (good_of (by decide +kernel))), by unfold z4; rw [len_app, z_rep, zz_len]; omega⟩
def oddL (x : Str) (k : Nat) : List D := [.non, .int 0, .bl true, .ref k, .ref (k + 1), .tup [.str x], .str "", .str "start", .str "\n", .str "rest 0", .str "start wr\n\n", .str w3]
theorem s5_ok {x : Str} {ns : Nat} : Ok (s5 ⟨[a0, some (.ref n), some (.int t), a3, a4, a5, a6, some (.str x), some (.ref ns), a9, a10, a11], h⟩) fun f S => f = .next ∧ S.loc = [a0, some (.ref n), some (.int t), a3, a4, a5, a6, some (.str x), some (.ref ns), some (.ref (h.length + 2)), a10, a11] ∧ S.h = h ++ [Ob.lst [], Ob.dct [], Ob.lst (oddL x h.length)] := by
  simp [s5, w_one, w_rep, st_len, oddL, w3]
end K10

namespace K10
open PySem L2 PySem.Spec PyProof.Rows Den
variable {a0 a3 a4 a5 a6 a7 a8 a9 a10 a11 : Option D} {t : Int} {n m : Nat} {h : List Ob}
theorem deck_set {h : List Ob} {n m k : Nat} {ob : Ob} (dk : Deck h n m) (kn : k ≠ n) (km : k ≠ m) : Deck (h.set k ob) n m := by
  obtain ⟨ne, s, xs, hn, hm, r⟩ := dk
  exact ⟨ne, s, xs, by rw [List.getElem?_set_ne kn]; exact hn, by rw [List.getElem?_set_ne km]; exact hm, r⟩
def more : List D := [.str z4, .tup [.tup [.bl true, .bl false], .tup []]]
theorem s6_ok (dk : Deck h n m) {x : Str} (gx : Good x) (lx : x.length ≤ 20000) {ss : List Str} {ns : Nat} (so : Some n m h ns ss) (ls : ss.length ≤ 10) : Ok (s6 ⟨[a0, some (.ref n), some (.int t), a3, a4, a5, a6, some (.str x), some (.ref ns), some (.ref (h.length + 2)), a10, a11], h ++ [Ob.lst [], Ob.dct [], Ob.lst (oddL x h.length)]⟩) fun f S => f = .next ∧ ∃ d, (∃ o, Vl n m S.h d o) ∧ S.h[ns]? = some (.lst (ss.map D.str ++ [d])) ∧ S.loc = [a0, some (.ref n), some (.int t), a3, a4, a5, a6, some (.str x), some (.ref ns), some (.ref (h.length + 2)), a10, a11] ∧ Deck S.h n m := by
  have D1 : Deck (h ++ [Ob.lst [], Ob.dct [], Ob.lst (oddL x h.length), Ob.lst more, Ob.lst (oddL x h.length ++ more)]) n m := dk.keep (Kp0.app _ _)
  have out : ∀ j, h.length + j ≠ n ∧ h.length + j ≠ m := fun j => by
    obtain ⟨_, _, _, hn, hm, _⟩ := dk
    have := lt_of_at hn
    have := lt_of_at hm
    omega
  obtain ⟨d, S, e, hd, D2, k2⟩ := (pick_ok D1 (k := h.length + 4) (xs := oddL x h.length ++ more) (by simp) (out 4).2 (by simp [oddL]) (by simp [oddL, more])).ex
  have hs := k2 _ _ so.n1 so.n2 (at_old so.e)
  have lns := lt_of_at so.e
  have v : ∃ o, Vl n m (S.h.set ns (.lst (ss.map D.str ++ [d]))) d o := by
    have g0 : (S.h.set ns (.lst (ss.map D.str ++ [d])))[h.length]? = some (Ob.lst []) := by
      rw [List.getElem?_set_ne (by omega)]
      exact k2 h.length (Ob.lst []) (out 0).1 (out 0).2 (by simp)
    have g1 : (S.h.set ns (.lst (ss.map D.str ++ [d])))[h.length + 1]? = some (Ob.dct []) := by
      rw [List.getElem?_set_ne (by omega)]
      exact k2 (h.length + 1) (Ob.dct []) (out 1).1 (out 1).2 (by simp)
    generalize S.h.set ns (.lst (ss.map D.str ++ [d])) = H at g0 g1
    simp only [oddL, more, List.cons_append, List.nil_append, List.mem_cons, List.not_mem_nil, or_false] at hd
    rcases hd with rfl | rfl | rfl | rfl | rfl | rfl | rfl | rfl | rfl | rfl | rfl | rfl | rfl | rfl
    · exact ⟨_, vl_ty (t := "NoneType") (by decide) fun _ _ _ => rfl⟩
    · exact ⟨_, vl_ty (t := "int") (by decide) fun _ _ _ => rfl⟩
    · exact ⟨_, vl_ty (t := "bool") (by decide) fun _ _ _ => rfl⟩
    · exact vl_ref (out 0).1 (out 0).2 g0
    · exact vl_ref (out 1).1 (out 1).2 g1
    · exact ⟨_, vl_ty (t := "tuple") (by decide) fun _ _ _ => rfl⟩
    · exact ⟨_, vl_str (good_of (by decide +kernel)) (by decide +kernel)⟩
    · exact ⟨_, vl_str (good_of (by decide +kernel)) (by decide +kernel)⟩
    · exact ⟨_, vl_str (good_of (by decide +kernel)) (by decide +kernel)⟩
    · exact ⟨_, vl_str (good_of (by decide +kernel)) (by decide +kernel)⟩
    · exact ⟨_, vl_str (good_of (by decide +kernel)) (by decide +kernel)⟩
    · exact ⟨_, vl_str w3_ok.1 (by have := w3_ok.2; omega)⟩
    · exact ⟨_, vl_str z4_ok.1 (by have := z4_ok.2; omega)⟩
    · exact ⟨_, vl_ty (t := "tuple") (by decide) fun _ _ _ => rfl⟩
  obtain ⟨o, v⟩ := v
  have e' := e
  simp only [more] at e'
  have hs0 : ∀ tl, (h ++ tl)[ns]? = some (.lst (ss.map D.str)) := fun tl => at_old so.e
  have ls' : ss.length < 1000000 := by omega
  have lo : (oddL x h.length).length + 2 ≤ 1000000 := by simp [oddL]
  simp [s6, hs0, z_one, z_rep, zz_len, show Str.ofString "start rr\nvisit " ++ repS (Str.ofString "0") 4000 = z4 from rfl, lo, e', hs, ls']
  refine ⟨d, ⟨o, v⟩, ?_, deck_set D2 so.n1 so.n2⟩
  rw [List.getElem?_set_self (lt_of_at hs)]
theorem Deck.kp0 {h h' : List Ob} {n m : Nat} (dk : Deck h n m) (k : Kp0 h h') : Deck h' n m := dk.keep k
theorem s7_ok (dk : Deck h n m) {vs : List D} {ns : Nat} (hs : h[ns]? = some (.lst vs)) (lv : vs.length < 100000) (va : ∀ d ∈ vs, ∃ o, Vl n m h d o) : Ok (s7 ⟨[a0, some (.ref n), some (.int t), a3, a4, a5, a6, a7, some (.ref ns), a9, a10, a11], h⟩) fun f S => f = .next ∧ (∃ b5 b10 b11, S.loc = [a0, some (.ref n), some (.int t), a3, a4, b5, a6, a7, some (.ref ns), a9, b10, b11]) ∧ Deck S.h n m := by
  unfold s7
  rw [sFor_dyn (enum_var (i := 8) (n := ns) (xs := vs) rfl hs)]
  have o := ok_dyn (g := gTup 2 (gCons (gN 5) (gCons (gN 10) gNil))) (b := bodyI) (K := fun f S => .ok f S) (Q := fun f S => f = .next ∧ (∃ b5 b10 b11, S.loc = [a0, some (.ref n), some (.int t), a3, a4, b5, a6, a7, some (.ref ns), a9, b10, b11]) ∧ Deck S.h n m) (it := numIt 0 (lstIt ns)) (S := ⟨[a0, some (.ref n), some (.int t), a3, a4, a5, a6, a7, some (.ref ns), a9, a10, a11], h⟩)
    (fun i S => (∃ b5 b10 b11, S.loc = [a0, some (.ref n), some (.int t), a3, a4, b5, a6, a7, some (.ref ns), a9, b10, b11]) ∧ Kp0 h S.h) ((List.range vs.length).map fun i => D.tup [.int (i : Nat), vs.getD i .non]) (by simpa using lv) ⟨⟨_, _, _, rfl⟩, Kp0.refl _⟩ (by
      rintro i S ⟨_, k⟩
      rw [numIt_of (k _ _ hs), List.getElem?_map]
      by_cases hi : i < vs.length
      · rw [List.getElem?_eq_getElem hi, List.getElem?_range hi]
        simp [hi]
      · rw [List.getElem?_eq_none (by omega), List.getElem?_eq_none (by simp; omega)]; rfl) (by
      rintro i d ⟨loc, h1⟩ hd ⟨⟨b5, b10, b11, rfl⟩, k⟩
      rw [List.getElem?_map] at hd
      by_cases hi : i < vs.length
      · rw [List.getElem?_range hi] at hd
        cases hd
        refine ⟨_, g_two 5 10 _ _ _, ?_⟩
        obtain ⟨o, v⟩ := va (vs.getD i .non) (by simp [hi])
        obtain ⟨f, S2, e, rfl, l, k2⟩ := (turnI (v.mono (k.kp n m)) (a0 := a0) (a1 := some (.ref n)) (a3 := a3) (a4 := a4) (a6 := a6) (a7 := a7) (a8 := some (.ref ns)) (a9 := a9) (a11 := b11) (t := t) (s := (i : Nat))).ex
        have e' := e
        dsimp only [List.set] at e' ⊢
        rw [e']
        exact ⟨.inl rfl, ⟨_, _, _, l⟩, k.trans k2⟩
      · rw [List.getElem?_eq_none (by simp; omega)] at hd; cases hd) (by
      rintro S ⟨l, k⟩
      exact ⟨rfl, l, dk.keep k⟩)
  obtain ⟨f, S, e, q⟩ := o.ex
  generalize hr : forO (numIt 0 (lstIt ns)) (gTup 2 (gCons (gN 5) (gCons (gN 10) gNil))) bodyI 100000 0 ⟨[a0, some (.ref n), some (.int t), a3, a4, a5, a6, a7, some (.ref ns), a9, a10, a11], h⟩ = r at e
  cases r with
  | ok f2 S2 =>
    rw [Res.bind_ok] at e
    cases e
    exact q
  | exc u S2 => cases e
  | stuck => cases e
theorem bodyO_ok (dk : Deck h n m) : Ok (bodyO ⟨[a0, some (.ref n), some (.int t), a3, a4, a5, a6, a7, a8, a9, a10, a11], h⟩) fun f S => f = .next ∧ (∃ b3 b4 b5 b6 b7 b8 b9 b10 b11, S.loc = [a0, some (.ref n), some (.int t), b3, b4, b5, b6, b7, b8, b9, b10, b11]) ∧ Deck S.h n m := by
  unfold bodyO
  refine ok_seq (okmp (s1_ok dk) ?_)
  rintro f ⟨loc, h1⟩ ⟨rfl, ds, ld, od, rfl, D1⟩
  refine ⟨rfl, ok_seq (okmp (s2_ok D1 ld od) ?_)⟩
  rintro f ⟨loc, h2⟩ ⟨rfl, x, gx, lx, rfl, D2⟩
  refine ⟨rfl, ok_seq (okmp (s3_ok D2 gx lx) ?_)⟩
  rintro f ⟨loc, h3⟩ ⟨rfl, ns, y, z, so, lz, rfl, D3⟩
  refine ⟨rfl, ok_seq (okmp (s4_ok D3 so lz) ?_)⟩
  rintro f ⟨loc, h4⟩ ⟨rfl, w, so4, rfl, D4⟩
  refine ⟨rfl, ok_seq (okmp s5_ok ?_)⟩
  rintro f ⟨loc, h5⟩ ⟨rfl, rfl, rfl⟩
  refine ⟨rfl, ok_seq (okmp (s6_ok D4 gx (by omega) so4 (by simp)) ?_)⟩
  rintro f ⟨loc, h6⟩ ⟨rfl, d, vd, hs, rfl, D6⟩
  refine ⟨rfl, okmp (s7_ok D6 hs (by simp) fun d' hd => ?_) ?_⟩
  · rcases List.mem_append.mp hd with hd | hd
    · obtain ⟨s, hs, rfl⟩ := List.mem_map.mp hd
      obtain ⟨g, l⟩ := so4.g s hs
      exact ⟨_, vl_str g l⟩
    · rw [List.mem_singleton.mp hd]; exact vd
  · rintro f S ⟨rfl, ⟨b5, b10, b11, l⟩, D7⟩
    exact ⟨rfl, ⟨_, _, _, _, _, _, _, _, _, l⟩, D7⟩
end K10

namespace K10
open PySem L2 PySem.Spec PyProof.Rows Den
variable {a0 a2 a3 a4 a5 a6 a7 a8 a9 a10 a11 : Option D} {t : Int} {n m : Nat} {h : List Ob}
def t1 : DSt := (sAsg (dBin oMulA (dComp [5] (dRng (dCons (dC (.int 4)) dNil)) (gN 5) tTrue (dCall F_law_line (dCons (dCall F_law_deed (dCons (dVar 1) (dCons (dC (.int 6)) dNil))) dNil))) (dC (.int 100))) (gN 3))
def t2 : DSt := (sAsg (dMtS mJoin (dC (.str "\n")) (dBin oAdd (dBin oAdd (dLst (dCons (dC (.str "start wr")) dNil)) (dVar 3)) (dCall F_law_pick (dCons (dVar 1) (dCons (dLst (dCons (dLst dNil) (dCons (dLst (dCons (dC (.str "rest 0")) dNil)) (dCons (dLst (dCons (dC (.str "x")) dNil)) (dCons (dLst (dCons (dC (.str "")) dNil)) (dCons (dLst (dCons (dC (.str "rest 0")) (dCons (dC (.str "x")) dNil))) dNil)))))) dNil))))) (gN 4))
def t3 : DSt := (sAsg (dCall F_law_draw (dCons (dVar 1) (dCons (dC (.int 2)) dNil))) (gN 5))
def t4 : DSt := (sRet (dBin oEq (dCB cRepr (dCons (dCall F_law_heard (dCons (dVar 4) (dCons (dBin oEq (dVar 5) (dC (.int 0))) dNil))) dNil)) (dCB cRepr (dCons (dCall F_law_due (dCons (dVar 4) dNil)) dNil))))
theorem p_law_eq : p_law = sSeq (sAsg (dCall F_law_deck (dCons (dVar 0) dNil)) (gN 1)) (sSeq (sFor (dRng (dCons (dC (.int 8)) dNil)) (gN 2) bodyO) (sSeq t1 (sSeq t2 (sSeq t3 t4)))) := rfl
theorem t1_ok (dk : Deck h n m) : Ok (t1 ⟨[a0, some (.ref n), a2, a3, a4, a5, a6, a7, a8, a9, a10, a11], h⟩) fun f S => f = .next ∧ ∃ (nl : Nat) (rs : List Str), S.loc = [a0, some (.ref n), a2, some (.ref nl), a4, a5, a6, a7, a8, a9, a10, a11] ∧ S.h[nl]? = some (.lst (rs.map D.str)) ∧ rs.length ≤ 400 ∧ (∀ s ∈ rs, Good s ∧ s.length ≤ 10) ∧ Deck S.h n m := by
  obtain ⟨acc, h2, c, ⟨ss, rfl, gs, D2⟩, l⟩ := comp_J (vs := [5]) (g := gN 5) (t := tTrue) (e := dCall F_law_line (dCons (dCall F_law_deed (dCons (dVar 1) (dCons (dC (.int 6)) dNil))) dNil)) (S := ⟨[a0, some (.ref n), a2, a3, a4, a5, a6, a7, a8, a9, a10, a11], h⟩) (fun acc h' => ∃ ss : List Str, acc = ss.map D.str ∧ (∀ s ∈ ss, Good s ∧ s.length ≤ 10) ∧ Deck h' n m) (rng_one 4 (by decide) _) (fun _ _ _ => rfl) (by rw [rgD_len]; decide) ⟨[], rfl, (fun _ h => nomatch h), dk⟩ (by
    rintro d hd acc h' ⟨ss, rfl, gs, D2⟩
    obtain ⟨d3, S3, e3, p, rfl, op, D3, k3⟩ := (ldeed_ok D2).ex
    obtain ⟨d4, S4, e4, s, rfl, g4, l4, k4⟩ := (line_ok op S3.h).ex
    refine ⟨_, rfl, ?_⟩
    simp [e3, e4]
    refine ⟨ss ++ [s], by simp, fun z hz => ?_, D3.keep k4⟩
    rcases List.mem_append.mp hz with hz | hz
    · exact gs z hz
    · rw [List.mem_singleton.mp hz]; exact ⟨g4, l4⟩)
  rw [List.length_map, rgD_len] at l
  have l4 : ss.length ≤ 4 := l
  have q : ss.length * 100 ≤ 1000000 := by omega
  have rl := (lenS_rep ss 100).2
  have rm : ∀ s ∈ (List.replicate 100 ss).flatten, s ∈ ss := fun s hs => rep_mem hs
  have mu : ∀ loc, oMulA (.ref h2.length) (.int 100) ⟨loc, h2 ++ [.lst (ss.map D.str)]⟩ = .ok (.ref (h2.length + 1)) ⟨loc, h2 ++ [.lst (ss.map D.str), .lst (((List.replicate 100 ss).flatten).map D.str)]⟩ := fun loc => by
    rw [z_mulL]
    dsimp only
    rw [at_new]
    dsimp only
    rw [if_pos (by rw [List.length_map, mxL_eq]; exact ⟨by decide, by decide, q⟩), show (100 : Int).toNat = 100 from rfl, rep_strs, z_newO, List.length_append, List.append_assoc]
    rfl
  generalize (List.replicate 100 ss).flatten = R at rl rm mu
  simp [t1, c, mu, -z_mulL]
  exact ⟨R, rfl, by omega, fun s hs => gs s (rm s hs), D2.keep (Kp0.app _ _)⟩
def inn : List (List Str) := [[], ["rest 0"], ["x"], [""], ["rest 0", "x"]]
theorem inn_ok : (inn.all fun l => shortB l && decide (lenS l ≤ 7) && decide (l.length ≤ 2)) = true := by decide +kernel
theorem sw_ok : goodB (Str.ofString "start wr") = true ∧ (Str.ofString "start wr").length = 8 := by constructor <;> decide +kernel
theorem t2_ok (dk : Deck h n m) {nl : Nat} {rs : List Str} (hl : h[nl]? = some (.lst (rs.map D.str))) (lr : rs.length ≤ 400) (gr : ∀ s ∈ rs, Good s ∧ s.length ≤ 10) : Ok (t2 ⟨[a0, some (.ref n), a2, some (.ref nl), a4, a5, a6, a7, a8, a9, a10, a11], h⟩) fun f S => f = .next ∧ ∃ x : Str, Good x ∧ x.length ≤ 20000 ∧ S.loc = [a0, some (.ref n), a2, some (.ref nl), some (.str x), a5, a6, a7, a8, a9, a10, a11] ∧ Deck S.h n m := by
  have out : ∀ j, h.length + j ≠ n ∧ h.length + j ≠ m := fun j => by
    obtain ⟨_, _, _, hn, hm, _⟩ := dk
    have := lt_of_at hn
    have := lt_of_at hm
    omega
  let hh : List Ob := [Ob.lst [D.str "start wr"], Ob.lst (D.str "start wr" :: rs.map D.str), Ob.lst [], Ob.lst [D.str "rest 0"], Ob.lst [D.str "x"], Ob.lst [D.str ""], Ob.lst [D.str "rest 0", D.str "x"], Ob.lst [.ref (h.length + 2), .ref (h.length + 3), .ref (h.length + 4), .ref (h.length + 5), .ref (h.length + 6)]]
  have D1 : Deck (h ++ hh) n m := dk.keep (Kp0.app _ _)
  obtain ⟨d, S, e, hd, D2, k2⟩ := (pick_ok D1 (k := h.length + 7) (xs := [.ref (h.length + 2), .ref (h.length + 3), .ref (h.length + 4), .ref (h.length + 5), .ref (h.length + 6)]) (by simp [hh]) (out 7).2 (by simp) (by simp)).ex
  have hd' : ∃ (k : Nat) (us : List Str), d = .ref k ∧ S.h[k]? = some (.lst (us.map D.str)) ∧ us ∈ inn := by
    have g : ∀ j ob, (h ++ hh)[h.length + j]? = some ob → S.h[h.length + j]? = some ob := fun j ob e => k2 _ _ (out j).1 (out j).2 e
    simp only [List.mem_cons, List.not_mem_nil, or_false] at hd
    rcases hd with rfl | rfl | rfl | rfl | rfl
    · exact ⟨_, [], rfl, g 2 _ (by simp [hh]), by simp [inn]⟩
    · exact ⟨_, ["rest 0"], rfl, g 3 _ (by simp [hh]), by simp [inn]⟩
    · exact ⟨_, ["x"], rfl, g 4 _ (by simp [hh]), by simp [inn]⟩
    · exact ⟨_, [""], rfl, g 5 _ (by simp [hh]), by simp [inn]⟩
    · exact ⟨_, ["rest 0", "x"], rfl, g 6 _ (by simp [hh]), by simp [inn]⟩
  obtain ⟨k, us, rfl, hk, hu⟩ := hd'
  have hu2 := List.all_eq_true.mp inn_ok us hu
  simp only [Bool.and_eq_true, decide_eq_true_eq] at hu2
  obtain ⟨⟨su, lu⟩, cu⟩ := hu2
  have gu : ∀ s ∈ us, Good s := fun s hs => by
    obtain ⟨s', e', g', _⟩ := short_of su (List.mem_map.mpr ⟨s, hs, rfl⟩)
    cases e'; exact g'
  have h1 : S.h[h.length + 1]? = some (Ob.lst (D.str "start wr" :: rs.map D.str)) := k2 _ _ (out 1).1 (out 1).2 (by simp [hh])
  have hl0 : ∀ tl, (h ++ tl)[nl]? = some (.lst (rs.map D.str)) := fun tl => at_old hl
  have e' := e
  simp only [hh] at e'
  have q1 : 1 + rs.length ≤ 1000000 := by omega
  have q2 : rs.length + 1 + us.length ≤ 1000000 := by omega
  have js : strsOf (D.str "start wr" :: (rs.map D.str ++ us.map D.str)) = some (Str.ofString "start wr" :: (rs ++ us)) := by
    rw [← List.map_append]; exact strsOf_map (Str.ofString "start wr" :: (rs ++ us))
  have lr2 := lenS_le (n := 10) fun s hs => (gr s hs).2
  have l1 : lenS (Str.ofString "start wr" :: (rs ++ us)) = 8 + (lenS rs + lenS us) := by
    show (Str.ofString "start wr").length + lenS (rs ++ us) = _
    rw [sw_ok.2, lenS_app]
  have jl := join_len (Str.ofString "\n") (Str.ofString "start wr" :: (rs ++ us))
  rw [l1, nl_len, List.length_cons, List.length_append] at jl
  have jo : joinOk (Str.ofString "\n") (Str.ofString "start wr" :: (rs ++ us)) = true := joinOk_of (by rw [l1, nl_len, List.length_cons, List.length_append]; omega)
  simp [t2, hl0, q1, e', h1, hk, q2, js, jo, tjoin]
  refine ⟨_, good_join (good_of (by decide +kernel)) fun s hs => ?_, ?_, rfl, D2.keep (Kp0.app _ _)⟩
  · rcases List.mem_cons.mp hs with rfl | hs
    · exact good_of sw_ok.1
    rcases List.mem_append.mp hs with hs | hs
    · exact (gr s hs).1
    · exact gu s hs
  · omega
theorem t34_ok (dk : Deck h n m) {x : Str} (gx : Good x) (lx : x.length ≤ 20000) : Ok (sSeq t3 t4 ⟨[a0, some (.ref n), a2, a3, some (.str x), a5, a6, a7, a8, a9, a10, a11], h⟩) fun f S => f = .ret (.bl true) := by
  obtain ⟨d1, S1, e1, r, rfl, r0, r1, D1, k1⟩ := (draw_ok dk (many := 2) (by omega) (by omega)).ex
  have v : Vl n m S1.h (.str x) (outS x) := vl_str gx lx
  obtain ⟨j2, h2, e2, k2, hj2⟩ := heard_ok (b := r == 0) (v.read S1.h (Kp.refl _ _ _))
  obtain ⟨S3, j3, e3, hj3, k3⟩ := v.due h2 (k2.kp _ _)
  have q1 : ∀ loc, cRepr [.ref j2] ⟨loc, h2⟩ = .ok (.str (outP (outS x)).shown) ⟨loc, h2⟩ := fun loc => repr_out v.ok hj2
  have q2 : ∀ loc, cRepr [.ref j3] ⟨loc, S3.h⟩ = .ok (.str (outP (outS x)).shown) ⟨loc, S3.h⟩ := fun loc => repr_out v.ok hj3
  simp [t3, t4, e1, e2, q1, e3, q2, eq_out v.ok]
theorem holds : ∀ ns : List Int, ns.length ≤ 63 → ∃ S', F_law [.ro (ns.map D.int)] [] = .ok (.bl true) S' := by
  intro ns hl
  have go : Ok (F_law [.ro (ns.map D.int)] []) fun d _ => d = .bl true := by
    apply ok_runB
    obtain ⟨d1, S1, e1, n, m, rfl, D1, k1⟩ := (deck_ok hl []).ex
    rw [p_law_eq]
    refine ok_seq ?_
    simp [e1]
    refine okmp (Q := fun f S => f = .ret (.bl true)) ?_ (by rintro f S rfl; rfl)
    refine ok_seq ?_
    have loop := ok_sForV (g := gN 2) (b := bodyO) (K := fun f S => .ok f S) (S := ⟨[some (.ro (ns.map D.int)), some (.ref n), none, none, none, none, none, none, none, none, none, none], S1.h⟩) (Q := fun f S => f = .next ∧ (∃ b2 b3 b4 b5 b6 b7 b8 b9 b10 b11, S.loc = [some (.ro (ns.map D.int)), some (.ref n), b2, b3, b4, b5, b6, b7, b8, b9, b10, b11]) ∧ Deck S.h n m) (rng_one 8 (by decide) _)
      (fun S => (∃ b2 b3 b4 b5 b6 b7 b8 b9 b10 b11, S.loc = [some (.ro (ns.map D.int)), some (.ref n), b2, b3, b4, b5, b6, b7, b8, b9, b10, b11]) ∧ Deck S.h n m) ⟨⟨_, _, _, _, _, _, _, _, _, _, rfl⟩, D1⟩ (by
        rintro d hd ⟨loc, h⟩ ⟨⟨b2, b3, b4, b5, b6, b7, b8, b9, b10, b11, rfl⟩, D2⟩
        obtain ⟨i, rfl, _, _⟩ := mem_rgD hd
        refine ⟨_, rfl, ?_⟩
        obtain ⟨f, S2, e, rfl, ⟨c3, c4, c5, c6, c7, c8, c9, c10, c11, l⟩, D3⟩ := (bodyO_ok (t := i) (a0 := some (.ro (ns.map D.int))) (a3 := b3) (a4 := b4) (a5 := b5) (a6 := b6) (a7 := b7) (a8 := b8) (a9 := b9) (a10 := b10) (a11 := b11) D2).ex
        dsimp only [gN, List.set]
        rw [e]
        exact ⟨.inl rfl, ⟨_, _, _, _, _, _, _, _, _, _, l⟩, D3⟩) (by
        rintro S ⟨l, D⟩
        exact ⟨rfl, l, D⟩)
    obtain ⟨f, S, e, rfl, ⟨b2, b3, b4, b5, b6, b7, b8, b9, b10, b11, l⟩, D2⟩ := loop.ex
    have e2 : sFor (dRng (dCons (dC (.int 8)) dNil)) (gN 2) bodyO ⟨[some (.ro (ns.map D.int)), some (.ref n), none, none, none, none, none, none, none, none, none, none], S1.h⟩ = .ok .next S := by
      generalize sFor (dRng (dCons (dC (.int 8)) dNil)) (gN 2) bodyO ⟨[some (.ro (ns.map D.int)), some (.ref n), none, none, none, none, none, none, none, none, none, none], S1.h⟩ = r at e
      cases r with
      | ok f2 S2 => rw [Res.bind_ok] at e; exact e
      | exc u S2 => cases e
      | stuck => cases e
    rw [e2]
    obtain ⟨loc, h2⟩ := S
    dsimp only at l D2
    subst l
    refine ⟨rfl, ok_seq (okmp (t1_ok D2) ?_)⟩
    rintro f ⟨loc, h3⟩ ⟨rfl, nl, rs, rfl, hl3, lr, gr, D3⟩
    refine ⟨rfl, ok_seq (okmp (t2_ok D3 hl3 lr gr) ?_)⟩
    rintro f ⟨loc, h4⟩ ⟨rfl, x, gx, lx, rfl, D4⟩
    exact ⟨rfl, t34_ok D4 gx lx⟩
  obtain ⟨d, S, e, rfl⟩ := go.ex
  exact ⟨S, e⟩
end K10

namespace K10
open PySem L2 PySem.Spec PyProof.Rows Den
/-! ### C. the text by places -/
def top (i : Nat) : Stmt := PySem.Challenge.pw_stillrounds_k10_whole_spoilt_texts_of_ru.main.body.getD i (.Pass ⟨0, 0, 0, 0⟩)
abbrev s_is_integer : Stmt := top 3
abbrev s_is_machine : Stmt := top 4
abbrev s_is_many : Stmt := top 5
abbrev s_has_form : Stmt := top 8
abbrev s_has_machines : Stmt := top 9
abbrev s_works_of : Stmt := top 16
abbrev s_deed_of : Stmt := top 17
abbrev s_read_run : Stmt := top 18
abbrev s_law_deck : Stmt := top 20
abbrev s_law_draw : Stmt := top 21
abbrev s_law_pick : Stmt := top 22
abbrev s_law_deed : Stmt := top 23
abbrev s_law_line : Stmt := top 24
abbrev s_law_text : Stmt := top 25
abbrev s_law_works : Stmt := top 26
abbrev s_law_deed_in : Stmt := top 27
abbrev s_law_due : Stmt := top 28
abbrev s_law_heard : Stmt := top 29
abbrev s_law_spoilt : Stmt := top 30
abbrev s_law : Stmt := top 31
abbrev s_init_BadText : Stmt := inClass (top 12) 0
/-! ### D. what is known of the module -/
structure Txt (w : World) (K : PySem.W.Frag) (mg : Str → Option Value) (cm : Str → Value) where
  a_is_integer : Addr
  fd_is_integer : FuncData
  F_is_integer : Fun K "is_integer" "is_integer" s_is_integer a_is_integer fd_is_integer
  m_is_integer : mg "is_integer" = some (.ref a_is_integer)
  a_is_machine : Addr
  fd_is_machine : FuncData
  F_is_machine : Fun K "is_machine" "is_machine" s_is_machine a_is_machine fd_is_machine
  m_is_machine : mg "is_machine" = some (.ref a_is_machine)
  a_is_many : Addr
  fd_is_many : FuncData
  F_is_many : Fun K "is_many" "is_many" s_is_many a_is_many fd_is_many
  m_is_many : mg "is_many" = some (.ref a_is_many)
  a_has_form : Addr
  fd_has_form : FuncData
  F_has_form : Fun K "has_form" "has_form" s_has_form a_has_form fd_has_form
  m_has_form : mg "has_form" = some (.ref a_has_form)
  a_has_machines : Addr
  fd_has_machines : FuncData
  F_has_machines : Fun K "has_machines" "has_machines" s_has_machines a_has_machines fd_has_machines
  m_has_machines : mg "has_machines" = some (.ref a_has_machines)
  a_works_of : Addr
  fd_works_of : FuncData
  F_works_of : Fun K "works_of" "works_of" s_works_of a_works_of fd_works_of
  m_works_of : mg "works_of" = some (.ref a_works_of)
  a_deed_of : Addr
  fd_deed_of : FuncData
  F_deed_of : Fun K "deed_of" "deed_of" s_deed_of a_deed_of fd_deed_of
  m_deed_of : mg "deed_of" = some (.ref a_deed_of)
  a_read_run : Addr
  fd_read_run : FuncData
  F_read_run : Fun K "read_run" "read_run" s_read_run a_read_run fd_read_run
  m_read_run : mg "read_run" = some (.ref a_read_run)
  a_law_deck : Addr
  fd_law_deck : FuncData
  F_law_deck : Fun K "_law_deck" "_law_deck" s_law_deck a_law_deck fd_law_deck
  m_law_deck : mg "_law_deck" = some (.ref a_law_deck)
  a_law_draw : Addr
  fd_law_draw : FuncData
  F_law_draw : Fun K "_law_draw" "_law_draw" s_law_draw a_law_draw fd_law_draw
  m_law_draw : mg "_law_draw" = some (.ref a_law_draw)
  a_law_pick : Addr
  fd_law_pick : FuncData
  F_law_pick : Fun K "_law_pick" "_law_pick" s_law_pick a_law_pick fd_law_pick
  m_law_pick : mg "_law_pick" = some (.ref a_law_pick)
  a_law_deed : Addr
  fd_law_deed : FuncData
  F_law_deed : Fun K "_law_deed" "_law_deed" s_law_deed a_law_deed fd_law_deed
  m_law_deed : mg "_law_deed" = some (.ref a_law_deed)
  a_law_line : Addr
  fd_law_line : FuncData
  F_law_line : Fun K "_law_line" "_law_line" s_law_line a_law_line fd_law_line
  m_law_line : mg "_law_line" = some (.ref a_law_line)
  a_law_text : Addr
  fd_law_text : FuncData
  F_law_text : Fun K "_law_text" "_law_text" s_law_text a_law_text fd_law_text
  m_law_text : mg "_law_text" = some (.ref a_law_text)
  a_law_works : Addr
  fd_law_works : FuncData
  F_law_works : Fun K "_law_works" "_law_works" s_law_works a_law_works fd_law_works
  m_law_works : mg "_law_works" = some (.ref a_law_works)
  a_law_deed_in : Addr
  fd_law_deed_in : FuncData
  F_law_deed_in : Fun K "_law_deed_in" "_law_deed_in" s_law_deed_in a_law_deed_in fd_law_deed_in
  m_law_deed_in : mg "_law_deed_in" = some (.ref a_law_deed_in)
  a_law_due : Addr
  fd_law_due : FuncData
  F_law_due : Fun K "_law_due" "_law_due" s_law_due a_law_due fd_law_due
  m_law_due : mg "_law_due" = some (.ref a_law_due)
  a_law_heard : Addr
  fd_law_heard : FuncData
  F_law_heard : Fun K "_law_heard" "_law_heard" s_law_heard a_law_heard fd_law_heard
  m_law_heard : mg "_law_heard" = some (.ref a_law_heard)
  a_law_spoilt : Addr
  fd_law_spoilt : FuncData
  F_law_spoilt : Fun K "_law_spoilt" "_law_spoilt" s_law_spoilt a_law_spoilt fd_law_spoilt
  m_law_spoilt : mg "_law_spoilt" = some (.ref a_law_spoilt)
  a_law : Addr
  fd_law : FuncData
  F_law : Fun K "law" "law" s_law a_law fd_law
  m_law : mg "law" = some (.ref a_law)
  z_abs : mg "abs" = none
  z_all : mg "all" = none
  z_bool : mg "bool" = none
  z_enumerate : mg "enumerate" = none
  z_int : mg "int" = none
  z_isinstance : mg "isinstance" = none
  z_len : mg "len" = none
  z_range : mg "range" = none
  z_repr : mg "repr" = none
  z_str : mg "str" = none
  z_tuple : mg "tuple" = none
  u_MAX_DEEDS : Value
  v_MAX_DEEDS : V
  rv_MAX_DEEDS : RelV v_MAX_DEEDS u_MAX_DEEDS
  m_MAX_DEEDS : mg "MAX_DEEDS" = some u_MAX_DEEDS
  r_MAX_DEEDS : ∀ L H, Rep K cm L H g_MAX_DEEDS v_MAX_DEEDS
  u_MAX_MACHINES : Value
  v_MAX_MACHINES : V
  rv_MAX_MACHINES : RelV v_MAX_MACHINES u_MAX_MACHINES
  m_MAX_MACHINES : mg "MAX_MACHINES" = some u_MAX_MACHINES
  r_MAX_MACHINES : ∀ L H, Rep K cm L H g_MAX_MACHINES v_MAX_MACHINES
  u_START_HEAD : Value
  v_START_HEAD : V
  rv_START_HEAD : RelV v_START_HEAD u_START_HEAD
  m_START_HEAD : mg "START_HEAD" = some u_START_HEAD
  r_START_HEAD : ∀ L H, Rep K cm L H g_START_HEAD v_START_HEAD
  a_DEED_SIZES : Addr
  m_DEED_SIZES : mg "DEED_SIZES" = some (.ref a_DEED_SIZES)
  t_DEED_SIZES : KTab K w cm a_DEED_SIZES tb_DEED_SIZES
  a_MACHINES : Addr
  m_MACHINES : mg "MACHINES" = some (.ref a_MACHINES)
  t_MACHINES : KTab K w cm a_MACHINES tb_MACHINES
  a_BadText : Addr
  m_BadText : mg "BadText" = some (.ref a_BadText)
  a_StillError : Addr
  m_StillError : mg "StillError" = some (.ref a_StillError)
  cm_BadText : cm "BadText" = .ref a_BadText
  su_BadText : ∀ m r, sub_BadText m = some r → PySem.W.exmOne K (cm m) (.ref a_BadText) = some r
  ic_BadText : IsC K a_BadText
  fI_BadText : Addr
  fdI_BadText : FuncData
  FI_BadText : Fun K "__init__" "BadText.__init__" s_init_BadText fI_BadText fdI_BadText
  ox_BadText : OexC K a_BadText
  no_BadText : PySem.W.findIn K (.ref a_BadText) "line" = some none
  in_BadText : PySem.W.findIn K (.ref a_BadText) "__init__" = some (some (.ref fI_BadText))
  it_BadText : PySem.W.typeIn K (.ref fI_BadText) = some (.type "function")
  xf_BadText : XfC K a_BadText
  kit_BadText_StillError : PySem.W.kitOne K (.ref a_BadText) (.ref a_StillError) = some true
section
variable {P : Program} {w : World} {K : PySem.W.Frag} {mg : Str → Option Value} {base : Heap} {cm : Str → Value}
theorem pick_len_1_0 (l : List D) (h : l.length = 1) : (pick [0] l).length = 1 := match l, h with | [a], _ => rfl
theorem sc_init_BadText : FnScope ["self", "line"] ["self", "line"] (defScope s_init_BadText) := ⟨rfl, rfl, rfl, by decide +kernel, rfl, by decide +kernel, by decide +kernel⟩
theorem bd_init_BadText (T : Txt w K mg cm) : Binds K T.fdI_BadText ["self", "line"] [] := T.FI_BadText.binds fun _ _ _ _ _ _ us hl => match us, hl with | [_, _], _ => rfl
theorem ok_init_BadText (T : Txt w K mg cm) : FnOk P w K mg base (L2.CX P w) 1 T.fI_BadText T.fdI_BadText ["self", "line"] (spI K T.a_BadText "line") := T.FI_BadText.okX sc_init_BadText spI_len fun cdv A outer s H vs Q E hr h => by
  obtain ⟨a, v, rfl, T1, hno, ea, q⟩ := h
  exact ⟨_, pss_one (ps_ost (pv 0) (pv 1)), v, rfl, .ref a, rfl, a, _, rfl, T1, hno, .inl ⟨ea, q⟩⟩
theorem sc_is_integer : FnScope ["value"] ["value"] (defScope s_is_integer) := ⟨rfl, rfl, rfl, by decide +kernel, rfl, by decide +kernel, by decide +kernel⟩
theorem bd_is_integer (T : Txt w K mg cm) : Binds K T.fd_is_integer ["value"] [] := T.F_is_integer.binds fun _ _ _ _ _ _ us hl => match us, hl with | [_], _ => rfl
theorem ok_is_integer (T : Txt w K mg cm) : FnG P w K mg base 1 T.a_is_integer T.fd_is_integer ["value"] (spD K cm 1 F_is_integer) := FnG.of T.F_is_integer sc_is_integer fun cdv A fr s H E hr hg =>
  (ss_one (s_ret (e_and (e_cb call_isi co_isi (by rfl) T.z_isinstance rfl (a_cons (e_var 0) (a_cons (e_ty (by rfl) T.z_int rfl) a_nil))) (e_and1 (e_not (e_cb call_isi co_isi (by rfl) T.z_isinstance rfl (a_cons (e_var 0) (a_cons (e_ty (by rfl) T.z_bool rfl) a_nil))))))))
theorem sc_is_machine : FnScope ["value", "many"] ["value", "many"] (defScope s_is_machine) := ⟨rfl, rfl, rfl, by decide +kernel, rfl, by decide +kernel, by decide +kernel⟩
theorem bd_is_machine (T : Txt w K mg cm) : Binds K T.fd_is_machine ["value", "many"] [] := T.F_is_machine.binds fun _ _ _ _ _ _ us hl => match us, hl with | [_, _], _ => rfl
theorem ok_is_machine (T : Txt w K mg cm) : FnG P w K mg base 2 T.a_is_machine T.fd_is_machine ["value", "many"] (spD K cm 2 F_is_machine) := FnG.of T.F_is_machine sc_is_machine fun cdv A fr s H E hr hg =>
  (ss_one (s_ret (e_and (e_call (ok_is_integer T) (hr.mono (by decide)) hg (takes_of rfl rfl rfl rfl) (by rfl) T.m_is_integer T.F_is_integer.kp (bd_is_integer T) (a_cons (e_var 0) a_nil) (cnt_cons cnt_nil)) (e_and1 (e_chain op_le op_lt ro_le ro_lt e_int (e_var 0) (e_var 1))))))
theorem sc_is_many : FnScope ["value"] ["value"] (defScope s_is_many) := ⟨rfl, rfl, rfl, by decide +kernel, rfl, by decide +kernel, by decide +kernel⟩
theorem bd_is_many (T : Txt w K mg cm) : Binds K T.fd_is_many ["value"] [] := T.F_is_many.binds fun _ _ _ _ _ _ us hl => match us, hl with | [_], _ => rfl
theorem ok_is_many (T : Txt w K mg cm) : FnG P w K mg base 2 T.a_is_many T.fd_is_many ["value"] (spD K cm 1 F_is_many) := FnG.of T.F_is_many sc_is_many fun cdv A fr s H E hr hg =>
  (ss_one (s_ret (e_and (e_call (ok_is_integer T) (hr.mono (by decide)) hg (takes_of rfl rfl rfl rfl) (by rfl) T.m_is_integer T.F_is_integer.kp (bd_is_integer T) (a_cons (e_var 0) a_nil) (cnt_cons cnt_nil)) (e_and1 (e_chain op_le op_le ro_le ro_le e_int (e_var 0) (e_glob (v := T.v_MAX_MACHINES) (by rfl) T.m_MAX_MACHINES T.rv_MAX_MACHINES T.r_MAX_MACHINES))))))
theorem sc_has_form : FnScope ["value"] ["value"] (defScope s_has_form) := ⟨rfl, rfl, rfl, by decide +kernel, rfl, by decide +kernel, by decide +kernel⟩
theorem bd_has_form (T : Txt w K mg cm) : Binds K T.fd_has_form ["value"] [] := T.F_has_form.binds fun _ _ _ _ _ _ us hl => match us, hl with | [_], _ => rfl
theorem ok_has_form (T : Txt w K mg cm) : FnG P w K mg base 1 T.a_has_form T.fd_has_form ["value"] (spD K cm 1 F_has_form) := FnG.of T.F_has_form sc_has_form fun cdv A fr s H E hr hg =>
  (ss_cons (s_if ((w_or (t_not (t_tr (e_cb call_isi co_isi (by rfl) T.z_isinstance rfl (a_cons (e_var 0) (a_cons (e_ty (by rfl) T.z_tuple rfl) a_nil))))) (w_or (t_not (t_tr (e_var 0))) (w_or1 (t_not (t_tr (e_cb call_isi co_isi (by rfl) T.z_isinstance rfl (a_cons (e_ixR hr (e_var 0) e_int) (a_cons (e_ty (by rfl) T.z_str rfl) a_nil))))))))).pt (ss_one (s_ret e_bl)) ss_nil)
    (ss_one (s_ret (c_eq hr (e_kget T.t_DEED_SIZES (by rfl) T.m_DEED_SIZES (e_ixR hr (e_var 0) e_int)) (e_cb call_len_any co_len (by rfl) T.z_len rfl (a_cons (e_var 0) a_nil))))))
theorem sc_has_machines : FnScope ["deed", "many", "machines", "machine"] ["deed", "many"] (defScope s_has_machines) := ⟨rfl, rfl, rfl, by decide +kernel, rfl, by decide +kernel, by decide +kernel⟩
theorem bd_has_machines (T : Txt w K mg cm) : Binds K T.fd_has_machines ["deed", "many"] [] := T.F_has_machines.binds fun _ _ _ _ _ _ us hl => match us, hl with | [_, _], _ => rfl
theorem ok_has_machines (T : Txt w K mg cm) : FnG P w K mg base 3 T.a_has_machines T.fd_has_machines ["deed", "many"] (spD K cm 2 F_has_machines) := FnG.of T.F_has_machines sc_has_machines fun cdv A fr s H E hr hg =>
  (ss_cons (s_set (i := 2) sc_has_machines.nd rfl (by first | exact Or.inl rfl | exact Or.inr rfl) (e_slice (e_var 0) (p_some e_int) p_none))
    (ss_cons (s_if (t_not (t_tr (e_cb (cr_all rfl) co_all (by rfl) T.z_all rfl (a_cons (e_comp rfl sc_has_machines.nd (i_any (e_var 2)) (own := [("machine", 3)]) (blkOk_by (by kernel_rfl)) (tg_one 3) (fun _ _ _ _ _ => (pg_name (i := 3) sc_has_machines.nd rfl (by first | exact Or.inl rfl | exact Or.inr rfl))) (fun _ _ _ _ _ => ts_nil) (fun _ _ _ _ _ => (e_call (ok_is_machine T) (hr.mono (by decide)) hg takes0 (by rfl) T.m_is_machine T.F_is_machine.kp (bd_is_machine T) (a_cons (e_var 3) (a_cons (e_var 1) a_nil)) (cnt_cons (cnt_cons cnt_nil))))) a_nil)))) (ss_one (s_ret e_bl)) ss_nil)
    (ss_one (s_ret (e_or (c_eq hr (e_cb call_len_any co_len (by rfl) T.z_len rfl (a_cons (e_var 2) a_nil)) e_int) (e_and1 (c_ne hr (e_ixR hr (e_var 2) e_int) (e_ixR hr (e_var 2) e_int))))))))
theorem sc_works_of : FnScope ["line", "signs", "sign"] ["line"] (defScope s_works_of) := ⟨rfl, rfl, rfl, by decide +kernel, rfl, by decide +kernel, by decide +kernel⟩
theorem bd_works_of (T : Txt w K mg cm) : Binds K T.fd_works_of ["line"] [] := T.F_works_of.binds fun _ _ _ _ _ _ us hl => match us, hl with | [_], _ => rfl
theorem ok_works_of (T : Txt w K mg cm) : FnG P w K mg base 3 T.a_works_of T.fd_works_of ["line"] (spD K cm 1 F_works_of) := FnG.of T.F_works_of sc_works_of fun cdv A fr s H E hr hg =>
  (ss_cons (s_if (t_not (t_tr (e_mtS PySem.F.slot_str_startswith PySem.F.type_str_startswith mt_startswith mo_starts (e_var 0) (e_glob (v := T.v_START_HEAD) (by rfl) T.m_START_HEAD T.rv_START_HEAD T.r_START_HEAD)))) (ss_one (s_ret e_non)) ss_nil)
    (ss_cons (s_set (i := 1) sc_works_of.nd rfl (by first | exact Or.inl rfl | exact Or.inr rfl) (e_slice (e_var 0) (p_some (e_cb call_len_any co_len (by rfl) T.z_len rfl (a_cons (e_glob (v := T.v_START_HEAD) (by rfl) T.m_START_HEAD T.rv_START_HEAD T.r_START_HEAD) a_nil))) p_none))
    (ss_cons (s_if ((w_or (t_not (t_tr (e_call (ok_is_many T) (hr.mono (by decide)) hg (takes_of rfl rfl rfl rfl) (by rfl) T.m_is_many T.F_is_many.kp (bd_is_many T) (a_cons (e_cb call_len_any co_len (by rfl) T.z_len rfl (a_cons (e_var 1) a_nil)) a_nil) (cnt_cons cnt_nil)))) (w_or1 (t_not (t_tr (e_cb (cr_all rfl) co_all (by rfl) T.z_all rfl (a_cons (e_comp rfl sc_works_of.nd (i_any (e_var 1)) (own := [("sign", 2)]) (blkOk_by (by kernel_rfl)) (tg_one 2) (fun _ _ _ _ _ => (pg_name (i := 2) sc_works_of.nd rfl (by first | exact Or.inl rfl | exact Or.inr rfl))) (fun _ _ _ _ _ => ts_nil) (fun _ _ _ _ _ => (c_in hr (e_var 2) (e_tup (a_cons e_str (a_cons e_str a_nil)))))) a_nil))))))).pt (ss_one (s_ret e_non)) ss_nil)
    (ss_one (s_ret (e_ct call_tuple_of co_tuple (by rfl) T.z_tuple rfl (a_cons (e_comp rfl sc_works_of.nd (i_any (e_var 1)) (own := [("sign", 2)]) (blkOk_by (by kernel_rfl)) (tg_one 2) (fun _ _ _ _ _ => (pg_name (i := 2) sc_works_of.nd rfl (by first | exact Or.inl rfl | exact Or.inr rfl))) (fun _ _ _ _ _ => ts_nil) (fun _ _ _ _ _ => (c_eq hr (e_var 2) e_str))) a_nil)))))))
theorem sc_deed_of : FnScope ["line", "many", "words", "deed", "word"] ["line", "many"] (defScope s_deed_of) := ⟨rfl, rfl, rfl, by decide +kernel, rfl, by decide +kernel, by decide +kernel⟩
theorem bd_deed_of (T : Txt w K mg cm) : Binds K T.fd_deed_of ["line", "many"] [] := T.F_deed_of.binds fun _ _ _ _ _ _ us hl => match us, hl with | [_, _], _ => rfl
theorem ok_deed_of (T : Txt w K mg cm) : FnG P w K mg base 4 T.a_deed_of T.fd_deed_of ["line", "many"] (spD K cm 2 F_deed_of) := FnG.of T.F_deed_of sc_deed_of fun cdv A fr s H E hr hg =>
  (ss_cons (s_set (i := 2) sc_deed_of.nd rfl (by first | exact Or.inl rfl | exact Or.inr rfl) (e_mtS PySem.F.slot_str_split PySem.F.type_str_split mt_split mo_split (e_var 0) e_str))
    (ss_cons (s_set (i := 3) sc_deed_of.nd rfl (by first | exact Or.inl rfl | exact Or.inr rfl) (e_ct call_tuple_of co_tuple (by rfl) T.z_tuple rfl (a_cons (b_add (e_lst (a_cons (e_ixR hr (e_var 2) e_int) a_nil)) (e_comp rfl sc_deed_of.nd (i_any (e_slice (e_var 2) (p_some e_int) p_none)) (own := [("word", 4)]) (blkOk_by (by kernel_rfl)) (tg_one 4) (fun _ _ _ _ _ => (pg_name (i := 4) sc_deed_of.nd rfl (by first | exact Or.inl rfl | exact Or.inr rfl))) (fun _ _ _ _ _ => ts_nil) (fun _ _ _ _ _ => (e_kget T.t_MACHINES (by rfl) T.m_MACHINES (e_var 4))))) a_nil)))
    (ss_one (s_ret (e_if ((w_and (t_tr (e_call (ok_has_form T) (hr.mono (by decide)) hg (takes_of rfl rfl rfl rfl) (by rfl) T.m_has_form T.F_has_form.kp (bd_has_form T) (a_cons (e_var 3) a_nil) (cnt_cons cnt_nil))) (w_and1 (t_tr (e_call (ok_has_machines T) (hr.mono (by decide)) hg (takes_of rfl rfl rfl rfl) (by rfl) T.m_has_machines T.F_has_machines.kp (bd_has_machines T) (a_cons (e_var 3) (a_cons (e_var 1) a_nil)) (cnt_cons (cnt_cons cnt_nil))))))).pt (e_var 3) e_non)))))
theorem sc_read_run : FnScope ["value", "lines", "works", "deeds", "number", "line", "deed"] ["value"] (defScope s_read_run) := ⟨rfl, rfl, rfl, by decide +kernel, rfl, by decide +kernel, by decide +kernel⟩
theorem bd_read_run (T : Txt w K mg cm) : Binds K T.fd_read_run ["value"] [] := T.F_read_run.binds fun _ _ _ _ _ _ us hl => match us, hl with | [_], _ => rfl
theorem kb_read_run_0_value (T : Txt w K mg cm) : KB T.fd_read_run ["value"] 0 ["value"] [0] := kb_of T.F_read_run fun _ _ _ _ _ _ us ws h1 h2 => match us, ws, h1, h2 with | [], [_], _, _ => rfl
theorem ok_read_run (T : Txt w K mg cm) : FnG P w K mg base 5 T.a_read_run T.fd_read_run ["value"] (spD K cm 1 F_read_run) := FnG.of T.F_read_run sc_read_run fun cdv A fr s H E hr hg =>
  (ss_cons (s_if (t_not (t_tr (e_cb call_isi co_isi (by rfl) T.z_isinstance rfl (a_cons (e_var 0) (a_cons (e_ty (by rfl) T.z_str rfl) a_nil))))) (ss_one (s_raise1 rfl (takes_of rfl rfl rfl rfl) T.ox_BadText T.no_BadText T.cm_BadText T.in_BadText T.it_BadText (ok_init_BadText T) (hr.mono (by decide)) (bd_init_BadText T) (by rfl) T.m_BadText (a_cons e_int a_nil))) ss_nil)
    (ss_cons (s_set (i := 1) sc_read_run.nd rfl (by first | exact Or.inl rfl | exact Or.inr rfl) (e_mtS PySem.F.slot_str_split PySem.F.type_str_split mt_split mo_split (e_var 0) e_str))
    (ss_cons (s_set (i := 2) sc_read_run.nd rfl (by first | exact Or.inl rfl | exact Or.inr rfl) (e_call (ok_works_of T) (hr.mono (by decide)) hg (takes_of rfl rfl rfl rfl) (by rfl) T.m_works_of T.F_works_of.kp (bd_works_of T) (a_cons (e_ixR hr (e_var 1) e_int) a_nil) (cnt_cons cnt_nil)))
    (ss_cons (s_if (t_is (e_var 2) e_non) (ss_one (s_raise1 rfl (takes_of rfl rfl rfl rfl) T.ox_BadText T.no_BadText T.cm_BadText T.in_BadText T.it_BadText (ok_init_BadText T) (hr.mono (by decide)) (bd_init_BadText T) (by rfl) T.m_BadText (a_cons e_int a_nil))) ss_nil)
    (ss_cons (s_set (i := 3) sc_read_run.nd rfl (by first | exact Or.inl rfl | exact Or.inr rfl) (e_lst a_nil))
    (ss_cons (s_for (passes_of rfl) rfl (i_enumS (by rfl) T.z_enumerate (a_cons (e_slice (e_var 1) (p_some e_int) p_none) a_nil) (k_cons e_int k_nil)) (g_tup rfl (gs_cons (g_name (i := 4) sc_read_run.nd rfl (by first | exact Or.inl rfl | exact Or.inr rfl)) (gs_cons (g_name (i := 5) sc_read_run.nd rfl (by first | exact Or.inl rfl | exact Or.inr rfl)) gs_nil))) (ss_cons (s_set (i := 6) sc_read_run.nd rfl (by first | exact Or.inl rfl | exact Or.inr rfl) (e_call (ok_deed_of T) (hr.mono (by decide)) hg (takes_of rfl rfl rfl rfl) (by rfl) T.m_deed_of T.F_deed_of.kp (bd_deed_of T) (a_cons (e_var 5) (a_cons (e_glob (v := T.v_MAX_MACHINES) (by rfl) T.m_MAX_MACHINES T.rv_MAX_MACHINES T.r_MAX_MACHINES) a_nil)) (cnt_cons (cnt_cons cnt_nil))))
    (ss_cons (s_if ((w_or (t_is (e_var 6) e_non) (w_or1 (t_gt (e_var 4) (e_glob (v := T.v_MAX_DEEDS) (by rfl) T.m_MAX_DEEDS T.rv_MAX_DEEDS T.r_MAX_DEEDS))))).pt (ss_one (s_raise1 rfl (takes_of rfl rfl rfl rfl) T.ox_BadText T.no_BadText T.cm_BadText T.in_BadText T.it_BadText (ok_init_BadText T) (hr.mono (by decide)) (bd_init_BadText T) (by rfl) T.m_BadText (a_cons (e_var 4) a_nil))) ss_nil)
    (ss_one (s_expr (e_mtL PySem.F.plainAttrs_list PySem.F.slot_list_append PySem.F.type_list_append mt_append mo_append (e_var 3) (a_cons (e_var 6) a_nil)))))))
    (ss_one (s_ret (e_tup (a_cons (e_var 2) (a_cons (e_ct call_tuple_of co_tuple (by rfl) T.z_tuple rfl (a_cons (e_var 3) a_nil)) a_nil)))))))))))
theorem sc_law_deck : FnScope ["script", "deck", "cell", "whole", "state"] ["script"] (defScope s_law_deck) := ⟨rfl, rfl, rfl, by decide +kernel, rfl, by decide +kernel, by decide +kernel⟩
theorem bd_law_deck (T : Txt w K mg cm) : Binds K T.fd_law_deck ["script"] [] := T.F_law_deck.binds fun _ _ _ _ _ _ us hl => match us, hl with | [_], _ => rfl
theorem ok_law_deck (T : Txt w K mg cm) : FnG P w K mg base 1 T.a_law_deck T.fd_law_deck ["script"] (spD K cm 1 F_law_deck) := FnG.of T.F_law_deck sc_law_deck fun cdv A fr s H E hr hg =>
  (ss_cons (s_set (i := 1) sc_law_deck.nd rfl (by first | exact Or.inl rfl | exact Or.inr rfl) (e_dict (pps_cons e_str (e_lst a_nil) (pps_cons e_str (b_add e_int (e_cb call_len_any co_len (by rfl) T.z_len rfl (a_cons (e_slice (e_var 0) p_none (p_some e_int)) a_nil))) pps_nil))))
    (ss_cons (s_for (passes_of rfl) rfl (i_any (e_slice (e_var 0) p_none (p_some e_int))) (g_name (i := 2) sc_law_deck.nd rfl (by first | exact Or.inl rfl | exact Or.inr rfl)) (ss_cons (s_set (i := 3) sc_law_deck.nd rfl (by first | exact Or.inl rfl | exact Or.inr rfl) (e_cb call_abs co_abs (by rfl) T.z_abs rfl (a_cons (e_var 2) a_nil)))
    (ss_cons (s_if (t_ge (e_var 3) (b_pow e_int e_int)) (ss_one (s_put (hu1 hr) (b_add (e_lst (a_cons (e_var 3) a_nil)) (e_ixR hr (e_var 1) e_str)) (e_var 1) e_str)) ss_nil)
    (ss_cons (s_set (i := 4) sc_law_deck.nd rfl (by first | exact Or.inl rfl | exact Or.inr rfl) (b_add (b_mul (b_add (b_add (b_add (e_ixR hr (e_var 1) e_str) (b_mul e_int (e_var 3))) (e_ct call_intA co_intA (by rfl) T.z_int rfl (a_cons (c_lt (e_var 2) e_int) a_nil))) e_int) e_int) e_int))
    (ss_one (s_put (hu1 hr) (b_mod (e_ct call_intA co_intA (by rfl) T.z_int rfl (a_cons (e_var 4) a_nil)) e_int) (e_var 1) e_str))))))
    (ss_one (s_ret (e_var 1)))))
theorem sc_law_draw : FnScope ["deck", "many", "one", "two", "whole"] ["deck", "many"] (defScope s_law_draw) := ⟨rfl, rfl, rfl, by decide +kernel, rfl, by decide +kernel, by decide +kernel⟩
theorem bd_law_draw (T : Txt w K mg cm) : Binds K T.fd_law_draw ["deck", "many"] [] := T.F_law_draw.binds fun _ _ _ _ _ _ us hl => match us, hl with | [_, _], _ => rfl
theorem ok_law_draw (T : Txt w K mg cm) : FnG P w K mg base 1 T.a_law_draw T.fd_law_draw ["deck", "many"] (spD K cm 2 F_law_draw) := FnG.of T.F_law_draw sc_law_draw fun cdv A fr s H E hr hg =>
  (ss_cons (s_if (t_lt (e_var 1) e_int) (ss_one (s_ret e_int)) ss_nil)
    (ss_cons (s_if (t_ne hr (e_ixR hr (e_var 0) e_str) (e_lst a_nil)) (ss_cons (s_set (i := 4) sc_law_draw.nd rfl (by first | exact Or.inl rfl | exact Or.inr rfl) (e_mtL0 PySem.F.plainAttrs_list PySem.F.slot_list_pop PySem.F.type_list_pop mt_pop mo_pop (e_ixR hr (e_var 0) e_str)))
    (ss_cons (s_if (t_ge (e_var 4) (e_var 1)) (ss_one (s_expr (e_mtL PySem.F.plainAttrs_list PySem.F.slot_list_append PySem.F.type_list_append mt_append mo_append (e_ixR hr (e_var 0) e_str) (a_cons (b_div (e_var 4) (e_var 1)) a_nil)))) ss_nil)
    (ss_one (s_ret (b_mod (e_ct call_intA co_intA (by rfl) T.z_int rfl (a_cons (e_var 4) a_nil)) (e_var 1)))))) ss_nil)
    (ss_cons (s_set (i := 2) sc_law_draw.nd rfl (by first | exact Or.inl rfl | exact Or.inr rfl) (b_mod (e_ct call_intA co_intA (by rfl) T.z_int rfl (a_cons (b_add (b_mul (e_ixR hr (e_var 0) e_str) e_int) e_int) a_nil)) e_int))
    (ss_cons (s_put (hu1 hr) (e_var 2) (e_var 0) e_str)
    (ss_cons (s_set (i := 3) sc_law_draw.nd rfl (by first | exact Or.inl rfl | exact Or.inr rfl) (b_mod (e_ct call_intA co_intA (by rfl) T.z_int rfl (a_cons (b_add (b_add (b_mul (e_var 2) (e_var 2)) (b_mul e_int (e_var 2))) e_int) a_nil)) e_int))
    (ss_one (s_ret (b_mod (e_ct call_intA co_intA (by rfl) T.z_int rfl (a_cons (b_div (e_var 3) e_int) a_nil)) (e_var 1)))))))))
theorem sc_law_pick : FnScope ["deck", "items"] ["deck", "items"] (defScope s_law_pick) := ⟨rfl, rfl, rfl, by decide +kernel, rfl, by decide +kernel, by decide +kernel⟩
theorem bd_law_pick (T : Txt w K mg cm) : Binds K T.fd_law_pick ["deck", "items"] [] := T.F_law_pick.binds fun _ _ _ _ _ _ us hl => match us, hl with | [_, _], _ => rfl
theorem ok_law_pick (T : Txt w K mg cm) : FnG P w K mg base 2 T.a_law_pick T.fd_law_pick ["deck", "items"] (spD K cm 2 F_law_pick) := FnG.of T.F_law_pick sc_law_pick fun cdv A fr s H E hr hg =>
  (ss_one (s_ret (e_ixR hr (e_var 1) (e_call (ok_law_draw T) (hr.mono (by decide)) hg (takes_of rfl rfl rfl rfl) (by rfl) T.m_law_draw T.F_law_draw.kp (bd_law_draw T) (a_cons (e_var 0) (a_cons (e_cb call_len_any co_len (by rfl) T.z_len rfl (a_cons (e_var 1) a_nil)) a_nil)) (cnt_cons (cnt_cons cnt_nil))))))
theorem sc_law_deed : FnScope ["deck", "many", "one", "word"] ["deck", "many"] (defScope s_law_deed) := ⟨rfl, rfl, rfl, by decide +kernel, rfl, by decide +kernel, by decide +kernel⟩
theorem bd_law_deed (T : Txt w K mg cm) : Binds K T.fd_law_deed ["deck", "many"] [] := T.F_law_deed.binds fun _ _ _ _ _ _ us hl => match us, hl with | [_, _], _ => rfl
theorem ok_law_deed (T : Txt w K mg cm) : FnG P w K mg base 3 T.a_law_deed T.fd_law_deed ["deck", "many"] (spD K cm 2 F_law_deed) := FnG.of T.F_law_deed sc_law_deed fun cdv A fr s H E hr hg =>
  (ss_cons (s_par rfl sc_law_deed.nd rfl rfl (by decide) rfl rfl (a_cons (e_call (ok_law_draw T) (hr.mono (by decide)) hg (takes_of rfl rfl rfl rfl) (by rfl) T.m_law_draw T.F_law_draw.kp (bd_law_draw T) (a_cons (e_var 0) (a_cons (e_var 1) a_nil)) (cnt_cons (cnt_cons cnt_nil))) (a_cons (e_call (ok_law_pick T) (hr.mono (by decide)) hg (takes_of rfl rfl rfl rfl) (by rfl) T.m_law_pick T.F_law_pick.kp (bd_law_pick T) (a_cons (e_var 0) (a_cons (e_lst (a_cons e_str (a_cons e_str (a_cons e_str (a_cons e_str (a_cons e_str (a_cons e_str a_nil))))))) a_nil)) (cnt_cons (cnt_cons cnt_nil))) a_nil)))
    (ss_cons (s_if (t_in hr (e_var 3) (e_tup (a_cons e_str (a_cons e_str a_nil)))) (ss_one (s_ret (e_tup (a_cons (e_var 3) (a_cons (e_var 2) a_nil))))) ss_nil)
    (ss_one (s_ret (e_tup (a_cons (e_var 3) (a_cons (e_var 2) (a_cons (b_mod (b_add (b_add (e_var 2) e_int) (e_call (ok_law_draw T) (hr.mono (by decide)) hg (takes_of rfl rfl rfl rfl) (by rfl) T.m_law_draw T.F_law_draw.kp (bd_law_draw T) (a_cons (e_var 0) (a_cons (b_sub (e_var 1) e_int) a_nil)) (cnt_cons (cnt_cons cnt_nil)))) (e_var 1)) a_nil))))))))
theorem sc_law_line : FnScope ["deed", "item"] ["deed"] (defScope s_law_line) := ⟨rfl, rfl, rfl, by decide +kernel, rfl, by decide +kernel, by decide +kernel⟩
theorem bd_law_line (T : Txt w K mg cm) : Binds K T.fd_law_line ["deed"] [] := T.F_law_line.binds fun _ _ _ _ _ _ us hl => match us, hl with | [_], _ => rfl
theorem ok_law_line (T : Txt w K mg cm) : FnG P w K mg base 1 T.a_law_line T.fd_law_line ["deed"] (spD K cm 1 F_law_line) := FnG.of T.F_law_line sc_law_line fun cdv A fr s H E hr hg =>
  (ss_one (s_ret (e_mtS PySem.F.slot_str_join PySem.F.type_str_join mt_join mo_join e_str (e_comp rfl sc_law_line.nd (i_any (e_var 0)) (own := [("item", 1)]) (blkOk_by (by kernel_rfl)) (tg_one 1) (fun _ _ _ _ _ => (pg_name (i := 1) sc_law_line.nd rfl (by first | exact Or.inl rfl | exact Or.inr rfl))) (fun _ _ _ _ _ => ts_nil) (fun _ _ _ _ _ => (e_ct call_strA co_str (by rfl) T.z_str rfl (a_cons (e_var 1) a_nil)))))))
theorem sc_law_text : FnScope ["works", "deeds", "begin", "own", "deed"] ["works", "deeds"] (defScope s_law_text) := ⟨rfl, rfl, rfl, by decide +kernel, rfl, by decide +kernel, by decide +kernel⟩
theorem bd_law_text (T : Txt w K mg cm) : Binds K T.fd_law_text ["works", "deeds"] [] := T.F_law_text.binds fun _ _ _ _ _ _ us hl => match us, hl with | [_, _], _ => rfl
theorem ok_law_text (T : Txt w K mg cm) : FnG P w K mg base 2 T.a_law_text T.fd_law_text ["works", "deeds"] (spD K cm 2 F_law_text) := FnG.of T.F_law_text sc_law_text fun cdv A fr s H E hr hg =>
  (ss_cons (s_set (i := 2) sc_law_text.nd rfl (by first | exact Or.inl rfl | exact Or.inr rfl) (b_add e_str (e_mtS PySem.F.slot_str_join PySem.F.type_str_join mt_join mo_join e_str (e_comp rfl sc_law_text.nd (i_any (e_var 0)) (own := [("own", 3)]) (blkOk_by (by kernel_rfl)) (tg_one 3) (fun _ _ _ _ _ => (pg_name (i := 3) sc_law_text.nd rfl (by first | exact Or.inl rfl | exact Or.inr rfl))) (fun _ _ _ _ _ => ts_nil) (fun _ _ _ _ _ => (e_if (t_tr (e_var 3)) e_str e_str))))))
    (ss_one (s_ret (e_mtS PySem.F.slot_str_join PySem.F.type_str_join mt_join mo_join e_str (b_add (e_lst (a_cons (e_var 2) a_nil)) (e_comp rfl sc_law_text.nd (i_any (e_var 1)) (own := [("deed", 4)]) (blkOk_by (by kernel_rfl)) (tg_one 4) (fun _ _ _ _ _ => (pg_name (i := 4) sc_law_text.nd rfl (by first | exact Or.inl rfl | exact Or.inr rfl))) (fun _ _ _ _ _ => ts_nil) (fun _ _ _ _ _ => (e_call (ok_law_line T) (hr.mono (by decide)) hg takes0 (by rfl) T.m_law_line T.F_law_line.kp (bd_law_line T) (a_cons (e_var 4) a_nil) (cnt_cons cnt_nil)))))))))
theorem sc_law_works : FnScope ["deck", "machine"] ["deck"] (defScope s_law_works) := ⟨rfl, rfl, rfl, by decide +kernel, rfl, by decide +kernel, by decide +kernel⟩
theorem bd_law_works (T : Txt w K mg cm) : Binds K T.fd_law_works ["deck"] [] := T.F_law_works.binds fun _ _ _ _ _ _ us hl => match us, hl with | [_], _ => rfl
theorem ok_law_works (T : Txt w K mg cm) : FnG P w K mg base 2 T.a_law_works T.fd_law_works ["deck"] (spD K cm 1 F_law_works) := FnG.of T.F_law_works sc_law_works fun cdv A fr s H E hr hg =>
  (ss_one (s_ret (e_ct call_tuple_of co_tuple (by rfl) T.z_tuple rfl (a_cons (e_comp rfl sc_law_works.nd (i_rng1 (by rfl) T.z_range (a_cons (b_add e_int (e_call (ok_law_draw T) (hr.mono (by decide)) hg (takes_of rfl rfl rfl rfl) (by rfl) T.m_law_draw T.F_law_draw.kp (bd_law_draw T) (a_cons (e_var 0) (a_cons e_int a_nil)) (cnt_cons (cnt_cons cnt_nil)))) a_nil) (cnt_cons cnt_nil)) (own := [("machine", 1)]) (blkOk_by (by kernel_rfl)) (tg_one 1) (fun _ _ _ _ _ => (pg_name (i := 1) sc_law_works.nd rfl (by first | exact Or.inl rfl | exact Or.inr rfl))) (fun _ _ _ _ _ => ts_nil) (fun _ _ _ _ _ => (c_eq hr (e_call (ok_law_draw T) (hr.mono (by decide)) hg takes0 (by rfl) T.m_law_draw T.F_law_draw.kp (bd_law_draw T) (a_cons (e_var 0) (a_cons e_int a_nil)) (cnt_cons (cnt_cons cnt_nil))) e_int))) a_nil))))
theorem sc_law_deed_in : FnScope ["line", "items", "machines", "item"] ["line"] (defScope s_law_deed_in) := ⟨rfl, rfl, rfl, by decide +kernel, rfl, by decide +kernel, by decide +kernel⟩
theorem bd_law_deed_in (T : Txt w K mg cm) : Binds K T.fd_law_deed_in ["line"] [] := T.F_law_deed_in.binds fun _ _ _ _ _ _ us hl => match us, hl with | [_], _ => rfl
theorem ok_law_deed_in (T : Txt w K mg cm) : FnG P w K mg base 1 T.a_law_deed_in T.fd_law_deed_in ["line"] (spD K cm 1 F_law_deed_in) := FnG.of T.F_law_deed_in sc_law_deed_in fun cdv A fr s H E hr hg =>
  (ss_cons (s_set (i := 1) sc_law_deed_in.nd rfl (by first | exact Or.inl rfl | exact Or.inr rfl) (e_mtS PySem.F.slot_str_split PySem.F.type_str_split mt_split mo_split (e_var 0) e_str))
    (ss_cons (s_if (t_ne hr (e_comp rfl sc_law_deed_in.nd (i_any (e_slice (e_var 1) (p_some e_int) p_none)) (own := [("item", 3)]) (blkOk_by (by kernel_rfl)) (tg_one 3) (fun _ _ _ _ _ => (pg_name (i := 3) sc_law_deed_in.nd rfl (by first | exact Or.inl rfl | exact Or.inr rfl))) (fun _ _ _ _ _ => (ts_one (t_nin hr (e_var 3) (e_tup (a_cons e_str (a_cons e_str (a_cons e_str (a_cons e_str (a_cons e_str (a_cons e_str a_nil)))))))))) (fun _ _ _ _ _ => (e_var 3))) (e_lst a_nil)) (ss_one (s_ret (e_lst a_nil))) ss_nil)
    (ss_cons (s_setC (i := 2) rfl sc_law_deed_in.nd rfl rfl rfl (i_any (e_slice (e_var 1) (p_some e_int) p_none)) (own := [("item", 3)]) (blkOk_by (by kernel_rfl)) (tg_one 3) (fun _ _ _ _ _ => (pg_name (i := 3) sc_law_deed_in.nd rfl (by first | exact Or.inl rfl | exact Or.inr rfl))) (fun _ _ _ _ _ => ts_nil) (fun _ _ _ _ _ => (e_ct call_intA co_intA (by rfl) T.z_int rfl (a_cons (e_var 3) a_nil))))
    (ss_cons (s_if ((w_and (t_in hr (e_ixR hr (e_var 1) e_int) (e_tup (a_cons e_str (a_cons e_str a_nil)))) (w_and1 (t_eq hr (e_cb call_len_any co_len (by rfl) T.z_len rfl (a_cons (e_var 2) a_nil)) e_int)))).pt (ss_one (s_ret (e_lst (a_cons (e_tup (a_cons (e_ixR hr (e_var 1) e_int) (a_cons (e_ixR hr (e_var 2) e_int) a_nil))) a_nil)))) ss_nil)
    (ss_cons (s_if ((w_and (t_in hr (e_ixR hr (e_var 1) e_int) (e_tup (a_cons e_str (a_cons e_str a_nil)))) (w_and (t_eq hr (e_cb call_len_any co_len (by rfl) T.z_len rfl (a_cons (e_var 2) a_nil)) e_int) (w_and1 (t_ne hr (e_ixR hr (e_var 2) e_int) (e_ixR hr (e_var 2) e_int)))))).pt (ss_one (s_ret (e_lst (a_cons (e_tup (a_cons (e_ixR hr (e_var 1) e_int) (a_cons (e_ixR hr (e_var 2) e_int) (a_cons (e_ixR hr (e_var 2) e_int) a_nil)))) a_nil)))) ss_nil)
    (ss_one (s_ret (e_lst a_nil))))))))
theorem sc_law_due : FnScope ["value", "lines", "signs", "deeds", "number", "line", "own", "sign"] ["value"] (defScope s_law_due) := ⟨rfl, rfl, rfl, by decide +kernel, rfl, by decide +kernel, by decide +kernel⟩
theorem bd_law_due (T : Txt w K mg cm) : Binds K T.fd_law_due ["value"] [] := T.F_law_due.binds fun _ _ _ _ _ _ us hl => match us, hl with | [_], _ => rfl
theorem ok_law_due (T : Txt w K mg cm) : FnG P w K mg base 2 T.a_law_due T.fd_law_due ["value"] (spD K cm 1 F_law_due) := FnG.of T.F_law_due sc_law_due fun cdv A fr s H E hr hg =>
  (ss_cons (s_if (t_not (t_tr (e_cb call_isi co_isi (by rfl) T.z_isinstance rfl (a_cons (e_var 0) (a_cons (e_ty (by rfl) T.z_str rfl) a_nil))))) (ss_one (s_ret (e_lst (a_cons e_str (a_cons e_int (a_cons e_bl a_nil)))))) ss_nil)
    (ss_cons (s_set (i := 1) sc_law_due.nd rfl (by first | exact Or.inl rfl | exact Or.inr rfl) (e_mtS PySem.F.slot_str_split PySem.F.type_str_split mt_split mo_split (e_var 0) e_str))
    (ss_cons (s_set (i := 2) sc_law_due.nd rfl (by first | exact Or.inl rfl | exact Or.inr rfl) (e_slice (e_ixR hr (e_var 1) e_int) (p_some e_int) p_none))
    (ss_cons (s_if ((w_or (t_ne hr (e_slice (e_ixR hr (e_var 1) e_int) p_none (p_some e_int)) e_str) (w_or (t_not (t_chain op_le op_le ro_le ro_le e_int (e_cb call_len_any co_len (by rfl) T.z_len rfl (a_cons (e_var 2) a_nil)) e_int)) (w_or1 (t_ne hr (e_comp rfl sc_law_due.nd (i_any (e_var 2)) (own := [("sign", 7)]) (blkOk_by (by kernel_rfl)) (tg_one 7) (fun _ _ _ _ _ => (pg_name (i := 7) sc_law_due.nd rfl (by first | exact Or.inl rfl | exact Or.inr rfl))) (fun _ _ _ _ _ => (ts_one (t_nin hr (e_var 7) e_str))) (fun _ _ _ _ _ => (e_var 7))) (e_lst a_nil)))))).pt (ss_one (s_ret (e_lst (a_cons e_str (a_cons e_int (a_cons e_bl a_nil)))))) ss_nil)
    (ss_cons (s_set (i := 3) sc_law_due.nd rfl (by first | exact Or.inl rfl | exact Or.inr rfl) (e_lst a_nil))
    (ss_cons (s_for (passes_of rfl) rfl (i_enum (by rfl) T.z_enumerate (a_cons (e_slice (e_var 1) (p_some e_int) p_none) a_nil)) (g_tup rfl (gs_cons (g_name (i := 4) sc_law_due.nd rfl (by first | exact Or.inl rfl | exact Or.inr rfl)) (gs_cons (g_name (i := 5) sc_law_due.nd rfl (by first | exact Or.inl rfl | exact Or.inr rfl)) gs_nil))) (ss_cons (s_set (i := 6) sc_law_due.nd rfl (by first | exact Or.inl rfl | exact Or.inr rfl) (e_call (ok_law_deed_in T) (hr.mono (by decide)) hg (takes_of rfl rfl rfl rfl) (by rfl) T.m_law_deed_in T.F_law_deed_in.kp (bd_law_deed_in T) (a_cons (e_var 5) a_nil) (cnt_cons cnt_nil)))
    (ss_cons (s_if ((w_or (t_eq hr (e_var 6) (e_lst a_nil)) (w_or1 (t_eq hr (e_var 4) e_int)))).pt (ss_one (s_ret (e_lst (a_cons e_str (a_cons (b_add (e_var 4) e_int) (a_cons e_bl a_nil)))))) ss_nil)
    (ss_one (s_expr (e_mtL PySem.F.plainAttrs_list PySem.F.slot_list_extend PySem.F.type_list_extend mt_extend mo_extend (e_var 3) (a_cons (e_var 6) a_nil)))))))
    (ss_one (s_ret (e_lst (a_cons e_str (a_cons (e_tup (a_cons (e_ct call_tuple_of co_tuple (by rfl) T.z_tuple rfl (a_cons (e_comp rfl sc_law_due.nd (i_any (e_var 2)) (own := [("sign", 7)]) (blkOk_by (by kernel_rfl)) (tg_one 7) (fun _ _ _ _ _ => (pg_name (i := 7) sc_law_due.nd rfl (by first | exact Or.inl rfl | exact Or.inr rfl))) (fun _ _ _ _ _ => ts_nil) (fun _ _ _ _ _ => (c_eq hr (e_var 7) e_str))) a_nil)) (a_cons (e_ct call_tuple_of co_tuple (by rfl) T.z_tuple rfl (a_cons (e_var 3) a_nil)) a_nil))) a_nil)))))))))))
theorem sc_law_heard : FnScope ["value", "is_named", "slip"] ["value", "is_named"] (defScope s_law_heard) := ⟨rfl, rfl, rfl, by decide +kernel, rfl, by decide +kernel, by decide +kernel⟩
theorem bd_law_heard (T : Txt w K mg cm) : Binds K T.fd_law_heard ["value", "is_named"] [] := T.F_law_heard.binds fun _ _ _ _ _ _ us hl => match us, hl with | [_, _], _ => rfl
theorem ok_law_heard (T : Txt w K mg cm) : FnG P w K mg base 6 T.a_law_heard T.fd_law_heard ["value", "is_named"] (spD K cm 2 F_law_heard) := FnG.of T.F_law_heard sc_law_heard fun cdv A fr s H E hr hg =>
  (ss_one (s_try_as (i := 2) rfl rfl sc_law_heard.nd rfl rfl ⟨by rfl, by decide, Or.inl T.m_BadText⟩ (takes_of rfl rfl rfl rfl) T.su_BadText (fun W2 pn2 xe2 tk2 pp2 => (ss_one (s_ret (e_lst (a_cons e_str (a_cons (e_if (t_tr (e_var 1)) (e_callK0 (ok_read_run T) (hr.mono (by decide)) hg tk2 (by rfl) T.m_read_run T.F_read_run.kp (kb_read_run_0_value T) (k_cons (e_var 0) k_nil) (cnt_cons cnt_nil) (fun l h => pick_len_1_0 l h)) (e_call (ok_read_run T) (hr.mono (by decide)) hg tk2 (by rfl) T.m_read_run T.F_read_run.kp (bd_read_run T) (a_cons (e_var 0) a_nil) (cnt_cons cnt_nil))) a_nil)))))) (fun a2 oe2 cls2 d2 pn2 z2 f2 => (x_lst (xa_cons (x_of e_str) (xa_cons (x_fld T.xf_BadText T.cm_BadText T.no_BadText z2 f2) (xa_cons (x_isi T.ic_BadText T.kit_BadText_StillError T.cm_BadText z2 f2 (by rfl) T.z_isinstance (by rfl) T.m_StillError (v := .ref T.a_StillError) rfl (fun _ h => h) rfl) xa_nil)))))))
theorem sc_law_spoilt : FnScope ["deck", "text", "lines", "spot", "signs", "odd", "at", "way"] ["deck", "text"] (defScope s_law_spoilt) := ⟨rfl, rfl, rfl, by decide +kernel, rfl, by decide +kernel, by decide +kernel⟩
theorem bd_law_spoilt (T : Txt w K mg cm) : Binds K T.fd_law_spoilt ["deck", "text"] [] := T.F_law_spoilt.binds fun _ _ _ _ _ _ us hl => match us, hl with | [_, _], _ => rfl
theorem ok_law_spoilt (T : Txt w K mg cm) : FnG P w K mg base 3 T.a_law_spoilt T.fd_law_spoilt ["deck", "text"] (spD K cm 2 F_law_spoilt) := FnG.of T.F_law_spoilt sc_law_spoilt fun cdv A fr s H E hr hg =>
  (ss_cons (s_par rfl sc_law_spoilt.nd rfl rfl (by decide) rfl rfl (a_cons (e_call (ok_law_draw T) (hr.mono (by decide)) hg (takes_of rfl rfl rfl rfl) (by rfl) T.m_law_draw T.F_law_draw.kp (bd_law_draw T) (a_cons (e_var 0) (a_cons (b_add (e_cb call_len_any co_len (by rfl) T.z_len rfl (a_cons (e_var 1) a_nil)) e_int) a_nil)) (cnt_cons (cnt_cons cnt_nil))) (a_cons (e_call (ok_law_draw T) (hr.mono (by decide)) hg (takes_of rfl rfl rfl rfl) (by rfl) T.m_law_draw T.F_law_draw.kp (bd_law_draw T) (a_cons (e_var 0) (a_cons e_int a_nil)) (cnt_cons (cnt_cons cnt_nil))) a_nil)))
    (ss_cons (s_set (i := 2) sc_law_spoilt.nd rfl (by first | exact Or.inl rfl | exact Or.inr rfl) (e_mtS PySem.F.slot_str_split PySem.F.type_str_split mt_split mo_split (e_var 1) e_str))
    (ss_cons (s_set (i := 3) sc_law_spoilt.nd rfl (by first | exact Or.inl rfl | exact Or.inr rfl) (e_call (ok_law_draw T) (hr.mono (by decide)) hg (takes_of rfl rfl rfl rfl) (by rfl) T.m_law_draw T.F_law_draw.kp (bd_law_draw T) (a_cons (e_var 0) (a_cons (e_cb call_len_any co_len (by rfl) T.z_len rfl (a_cons (e_var 2) a_nil)) a_nil)) (cnt_cons (cnt_cons cnt_nil))))
    (ss_cons (s_set (i := 4) sc_law_spoilt.nd rfl (by first | exact Or.inl rfl | exact Or.inr rfl) (e_lst (a_cons e_str (a_cons e_str (a_cons e_str (a_cons e_str (a_cons e_str (a_cons e_str (a_cons e_str (a_cons e_str (a_cons e_str (a_cons e_str (a_cons e_str (a_cons e_str (a_cons e_str (a_cons e_str (a_cons e_str (a_cons e_str a_nil))))))))))))))))))
    (ss_cons (s_if (t_eq hr (e_var 7) e_int) (ss_one (s_ret (b_add (e_slice (e_var 1) p_none (p_some (e_var 6))) (e_slice (e_var 1) (p_some (b_add (e_var 6) e_int)) p_none)))) ss_nil)
    (ss_cons (s_if (t_eq hr (e_var 7) e_int) (ss_one (s_ret (b_add (b_add (e_slice (e_var 1) p_none (p_some (e_var 6))) (e_call (ok_law_pick T) (hr.mono (by decide)) hg (takes_of rfl rfl rfl rfl) (by rfl) T.m_law_pick T.F_law_pick.kp (bd_law_pick T) (a_cons (e_var 0) (a_cons (e_var 4) a_nil)) (cnt_cons (cnt_cons cnt_nil)))) (e_slice (e_var 1) (p_some (e_var 6)) p_none)))) ss_nil)
    (ss_cons (s_if (t_eq hr (e_var 7) e_int) (ss_one (s_ret (b_add (b_add (e_slice (e_var 1) p_none (p_some (e_var 6))) (e_call (ok_law_pick T) (hr.mono (by decide)) hg (takes_of rfl rfl rfl rfl) (by rfl) T.m_law_pick T.F_law_pick.kp (bd_law_pick T) (a_cons (e_var 0) (a_cons (e_var 4) a_nil)) (cnt_cons (cnt_cons cnt_nil)))) (e_slice (e_var 1) (p_some (b_add (e_var 6) e_int)) p_none)))) ss_nil)
    (ss_cons (s_if (t_eq hr (e_var 7) e_int) (ss_one (s_ret (b_add (b_add (e_slice (e_var 1) p_none (p_some (e_var 6))) (e_rev (e_slice (e_var 1) (p_some (e_var 6)) (p_some (b_add (e_var 6) e_int))))) (e_slice (e_var 1) (p_some (b_add (e_var 6) e_int)) p_none)))) ss_nil)
    (ss_cons (s_if (t_eq hr (e_var 7) e_int) (ss_one (s_ret (e_mtS PySem.F.slot_str_join PySem.F.type_str_join mt_join mo_join e_str (b_add (b_add (e_slice (e_var 2) p_none (p_some (e_var 3))) (b_mul (e_slice (e_var 2) (p_some (e_var 3)) (p_some (b_add (e_var 3) e_int))) (e_call (ok_law_draw T) (hr.mono (by decide)) hg (takes_of rfl rfl rfl rfl) (by rfl) T.m_law_draw T.F_law_draw.kp (bd_law_draw T) (a_cons (e_var 0) (a_cons e_int a_nil)) (cnt_cons (cnt_cons cnt_nil))))) (e_slice (e_var 2) (p_some (b_add (e_var 3) e_int)) p_none))))) ss_nil)
    (ss_cons (s_if (t_eq hr (e_var 7) e_int) (ss_cons (s_set (i := 5) sc_law_spoilt.nd rfl (by first | exact Or.inl rfl | exact Or.inr rfl) (e_lst (a_cons e_str (a_cons e_str (a_cons e_str (a_cons e_str (a_cons e_str (a_cons e_str (a_cons e_str (a_cons e_str (a_cons e_str (a_cons e_str a_nil))))))))))))
    (ss_one (s_ret (e_mtS PySem.F.slot_str_join PySem.F.type_str_join mt_join mo_join e_str (b_add (b_add (e_slice (e_var 2) p_none (p_some (b_add (e_var 3) e_int))) (e_lst (a_cons (e_call (ok_law_pick T) (hr.mono (by decide)) hg (takes_of rfl rfl rfl rfl) (by rfl) T.m_law_pick T.F_law_pick.kp (bd_law_pick T) (a_cons (e_var 0) (a_cons (e_var 5) a_nil)) (cnt_cons (cnt_cons cnt_nil))) a_nil))) (e_slice (e_var 2) (p_some (b_add (e_var 3) e_int)) p_none)))))) ss_nil)
    (ss_cons (s_set (i := 5) sc_law_spoilt.nd rfl (by first | exact Or.inl rfl | exact Or.inr rfl) (e_lst (a_cons e_str (a_cons e_str (a_cons e_str (a_cons e_str (a_cons e_str (a_cons e_str (a_cons e_str (a_cons e_str a_nil))))))))))
    (ss_one (s_ret (b_add (e_call (ok_law_pick T) (hr.mono (by decide)) hg (takes_of rfl rfl rfl rfl) (by rfl) T.m_law_pick T.F_law_pick.kp (bd_law_pick T) (a_cons (e_var 0) (a_cons (e_var 5) a_nil)) (cnt_cons (cnt_cons cnt_nil))) (e_slice (e_var 1) (p_some e_int) p_none)))))))))))))))
theorem sc_law : FnScope ["script", "deck", "turn", "lines", "far", "spot", "deeds", "text", "some", "odd", "value", "due"] ["script"] (defScope s_law) := ⟨rfl, rfl, rfl, by decide +kernel, rfl, by decide +kernel, by decide +kernel⟩
theorem bd_law (T : Txt w K mg cm) : Binds K T.fd_law ["script"] [] := T.F_law.binds fun _ _ _ _ _ _ us hl => match us, hl with | [_], _ => rfl
theorem ok_law (T : Txt w K mg cm) : FnG P w K mg base 7 T.a_law T.fd_law ["script"] (spD K cm 1 F_law) := FnG.of T.F_law sc_law fun cdv A fr s H E hr hg =>
  (ss_cons (s_set (i := 1) sc_law.nd rfl (by first | exact Or.inl rfl | exact Or.inr rfl) (e_call (ok_law_deck T) (hr.mono (by decide)) hg (takes_of rfl rfl rfl rfl) (by rfl) T.m_law_deck T.F_law_deck.kp (bd_law_deck T) (a_cons (e_var 0) a_nil) (cnt_cons cnt_nil)))
    (ss_cons (s_for (passes_of rfl) rfl (i_rng1 (by rfl) T.z_range (a_cons e_int a_nil) (cnt_cons cnt_nil)) (g_name (i := 2) sc_law.nd rfl (by first | exact Or.inl rfl | exact Or.inr rfl)) (ss_cons (s_set (i := 6) sc_law.nd rfl (by first | exact Or.inl rfl | exact Or.inr rfl) (e_ct call_tuple_of co_tuple (by rfl) T.z_tuple rfl (a_cons (e_comp rfl sc_law.nd (i_rng1 (by rfl) T.z_range (a_cons (e_call (ok_law_draw T) (hr.mono (by decide)) hg (takes_of rfl rfl rfl rfl) (by rfl) T.m_law_draw T.F_law_draw.kp (bd_law_draw T) (a_cons (e_var 1) (a_cons e_int a_nil)) (cnt_cons (cnt_cons cnt_nil))) a_nil) (cnt_cons cnt_nil)) (own := [("spot", 5)]) (blkOk_by (by kernel_rfl)) (tg_one 5) (fun _ _ _ _ _ => (pg_name (i := 5) sc_law.nd rfl (by first | exact Or.inl rfl | exact Or.inr rfl))) (fun _ _ _ _ _ => ts_nil) (fun _ _ _ _ _ => (e_call (ok_law_deed T) (hr.mono (by decide)) hg takes0 (by rfl) T.m_law_deed T.F_law_deed.kp (bd_law_deed T) (a_cons (e_var 1) (a_cons e_int a_nil)) (cnt_cons (cnt_cons cnt_nil))))) a_nil)))
    (ss_cons (s_set (i := 7) sc_law.nd rfl (by first | exact Or.inl rfl | exact Or.inr rfl) (e_call (ok_law_text T) (hr.mono (by decide)) hg (takes_of rfl rfl rfl rfl) (by rfl) T.m_law_text T.F_law_text.kp (bd_law_text T) (a_cons (e_call (ok_law_works T) (hr.mono (by decide)) hg (takes_of rfl rfl rfl rfl) (by rfl) T.m_law_works T.F_law_works.kp (bd_law_works T) (a_cons (e_var 1) a_nil) (cnt_cons cnt_nil)) (a_cons (e_var 6) a_nil)) (cnt_cons (cnt_cons cnt_nil))))
    (ss_cons (s_set (i := 8) sc_law.nd rfl (by first | exact Or.inl rfl | exact Or.inr rfl) (e_lst (a_cons (e_var 7) (a_cons (e_call (ok_law_spoilt T) (hr.mono (by decide)) hg (takes_of rfl rfl rfl rfl) (by rfl) T.m_law_spoilt T.F_law_spoilt.kp (bd_law_spoilt T) (a_cons (e_var 1) (a_cons (e_var 7) a_nil)) (cnt_cons (cnt_cons cnt_nil))) (a_cons (e_call (ok_law_spoilt T) (hr.mono (by decide)) hg (takes_of rfl rfl rfl rfl) (by rfl) T.m_law_spoilt T.F_law_spoilt.kp (bd_law_spoilt T) (a_cons (e_var 1) (a_cons (e_var 7) a_nil)) (cnt_cons (cnt_cons cnt_nil))) a_nil)))))
    (ss_cons (s_expr (e_mtL PySem.F.plainAttrs_list PySem.F.slot_list_append PySem.F.type_list_append mt_append mo_append (e_var 8) (a_cons (e_call (ok_law_spoilt T) (hr.mono (by decide)) hg (takes_of rfl rfl rfl rfl) (by rfl) T.m_law_spoilt T.F_law_spoilt.kp (bd_law_spoilt T) (a_cons (e_var 1) (a_cons (e_ixR hr (e_var 8) (e_neg e_int)) a_nil)) (cnt_cons (cnt_cons cnt_nil))) a_nil)))
    (ss_cons (s_set (i := 9) sc_law.nd rfl (by first | exact Or.inl rfl | exact Or.inr rfl) (e_lst (a_cons e_non (a_cons e_int (a_cons e_bl (a_cons (e_lst a_nil) (a_cons e_dict0 (a_cons (e_tup (a_cons (e_var 7) a_nil)) (a_cons e_str (a_cons e_str (a_cons e_str (a_cons e_str (a_cons e_str (a_cons (b_add e_str (b_mul e_str e_int)) a_nil))))))))))))))
    (ss_cons (s_expr (e_mtL PySem.F.plainAttrs_list PySem.F.slot_list_append PySem.F.type_list_append mt_append mo_append (e_var 8) (a_cons (e_call (ok_law_pick T) (hr.mono (by decide)) hg (takes_of rfl rfl rfl rfl) (by rfl) T.m_law_pick T.F_law_pick.kp (bd_law_pick T) (a_cons (e_var 1) (a_cons (b_add (e_var 9) (e_lst (a_cons (b_add e_str (b_mul e_str e_int)) (a_cons (e_tup (a_cons (e_tup (a_cons e_bl (a_cons e_bl a_nil))) (a_cons (e_tup a_nil) a_nil))) a_nil)))) a_nil)) (cnt_cons (cnt_cons cnt_nil))) a_nil)))
    (ss_one (s_for (passes_of rfl) rfl (i_enum (by rfl) T.z_enumerate (a_cons (e_var 8) a_nil)) (g_tup rfl (gs_cons (g_name (i := 5) sc_law.nd rfl (by first | exact Or.inl rfl | exact Or.inr rfl)) (gs_cons (g_name (i := 10) sc_law.nd rfl (by first | exact Or.inl rfl | exact Or.inr rfl)) gs_nil))) (ss_cons (s_set (i := 11) sc_law.nd rfl (by first | exact Or.inl rfl | exact Or.inr rfl) (e_cb (call_reprD (hu64 hr) hg) co_repr (by rfl) T.z_repr rfl (a_cons (e_call (ok_law_due T) (hr.mono (by decide)) hg (takes_of rfl rfl rfl rfl) (by rfl) T.m_law_due T.F_law_due.kp (bd_law_due T) (a_cons (e_var 10) a_nil) (cnt_cons cnt_nil)) a_nil)))
    (ss_one (s_if ((w_or (t_ne hr (e_cb (call_reprD (hu64 hr) hg) co_repr (by rfl) T.z_repr rfl (a_cons (e_call (ok_law_heard T) (hr.mono (by decide)) hg (takes_of rfl rfl rfl rfl) (by rfl) T.m_law_heard T.F_law_heard.kp (bd_law_heard T) (a_cons (e_var 10) (a_cons (c_eq hr (e_var 5) (b_mod (e_var 2) e_int)) a_nil)) (cnt_cons (cnt_cons cnt_nil))) a_nil)) (e_var 11)) (w_or1 ((w_and (t_lt (e_var 5) e_int) (w_and1 (t_ne hr (e_cb (call_reprD (hu64 hr) hg) co_repr (by rfl) T.z_repr rfl (a_cons (e_call (ok_law_heard T) (hr.mono (by decide)) hg (takes_of rfl rfl rfl rfl) (by rfl) T.m_law_heard T.F_law_heard.kp (bd_law_heard T) (a_cons (e_var 10) (a_cons e_bl a_nil)) (cnt_cons (cnt_cons cnt_nil))) a_nil)) (e_var 11))))).pt))).pt (ss_one (s_ret e_bl)) ss_nil))))))))))))
    (ss_cons (s_set (i := 3) sc_law.nd rfl (by first | exact Or.inl rfl | exact Or.inr rfl) (b_mul (e_comp rfl sc_law.nd (i_rng1 (by rfl) T.z_range (a_cons e_int a_nil) (cnt_cons cnt_nil)) (own := [("spot", 5)]) (blkOk_by (by kernel_rfl)) (tg_one 5) (fun _ _ _ _ _ => (pg_name (i := 5) sc_law.nd rfl (by first | exact Or.inl rfl | exact Or.inr rfl))) (fun _ _ _ _ _ => ts_nil) (fun _ _ _ _ _ => (e_call (ok_law_line T) (hr.mono (by decide)) hg takes0 (by rfl) T.m_law_line T.F_law_line.kp (bd_law_line T) (a_cons (e_call (ok_law_deed T) (hr.mono (by decide)) hg takes0 (by rfl) T.m_law_deed T.F_law_deed.kp (bd_law_deed T) (a_cons (e_var 1) (a_cons e_int a_nil)) (cnt_cons (cnt_cons cnt_nil))) a_nil) (cnt_cons cnt_nil)))) e_int))
    (ss_cons (s_set (i := 4) sc_law.nd rfl (by first | exact Or.inl rfl | exact Or.inr rfl) (e_mtS PySem.F.slot_str_join PySem.F.type_str_join mt_join mo_join e_str (b_add (b_add (e_lst (a_cons e_str a_nil)) (e_var 3)) (e_call (ok_law_pick T) (hr.mono (by decide)) hg (takes_of rfl rfl rfl rfl) (by rfl) T.m_law_pick T.F_law_pick.kp (bd_law_pick T) (a_cons (e_var 1) (a_cons (e_lst (a_cons (e_lst a_nil) (a_cons (e_lst (a_cons e_str a_nil)) (a_cons (e_lst (a_cons e_str a_nil)) (a_cons (e_lst (a_cons e_str a_nil)) (a_cons (e_lst (a_cons e_str (a_cons e_str a_nil))) a_nil)))))) a_nil)) (cnt_cons (cnt_cons cnt_nil))))))
    (ss_cons (s_set (i := 5) sc_law.nd rfl (by first | exact Or.inl rfl | exact Or.inr rfl) (e_call (ok_law_draw T) (hr.mono (by decide)) hg (takes_of rfl rfl rfl rfl) (by rfl) T.m_law_draw T.F_law_draw.kp (bd_law_draw T) (a_cons (e_var 1) (a_cons e_int a_nil)) (cnt_cons (cnt_cons cnt_nil))))
    (ss_one (s_ret (c_eq hr (e_cb (call_reprD (hu64 hr) hg) co_repr (by rfl) T.z_repr rfl (a_cons (e_call (ok_law_heard T) (hr.mono (by decide)) hg (takes_of rfl rfl rfl rfl) (by rfl) T.m_law_heard T.F_law_heard.kp (bd_law_heard T) (a_cons (e_var 4) (a_cons (c_eq hr (e_var 5) e_int) a_nil)) (cnt_cons (cnt_cons cnt_nil))) a_nil)) (e_cb (call_reprD (hu64 hr) hg) co_repr (by rfl) T.z_repr rfl (a_cons (e_call (ok_law_due T) (hr.mono (by decide)) hg (takes_of rfl rfl rfl rfl) (by rfl) T.m_law_due T.F_law_due.kp (bd_law_due T) (a_cons (e_var 4) a_nil) (cnt_cons cnt_nil)) a_nil))))))))))
end
/-! ### E. what the top has written, the head -/
theorem all_mk {P : Program} {w : World} {K : PySem.W.Frag} {h : Heap} {mg : Str → Option Value} {fa : Addr} (X : K.In h) (G : h.Ns mainGlobals mg) (hfa : mg "law" = some (.ref fa))
    {f_is_integer : Addr} {od_is_integer an_is_integer : Option Addr} {sl_is_integer : Array (Option Value)} {oc_is_integer kV_is_integer dc_is_integer pm_is_integer cd_is_integer ct_is_integer : Value}
    {f_is_machine : Addr} {od_is_machine an_is_machine : Option Addr} {sl_is_machine : Array (Option Value)} {oc_is_machine kV_is_machine dc_is_machine pm_is_machine cd_is_machine ct_is_machine : Value}
    {f_is_many : Addr} {od_is_many an_is_many : Option Addr} {sl_is_many : Array (Option Value)} {oc_is_many kV_is_many dc_is_many pm_is_many cd_is_many ct_is_many : Value}
    {f_has_form : Addr} {od_has_form an_has_form : Option Addr} {sl_has_form : Array (Option Value)} {oc_has_form kV_has_form dc_has_form pm_has_form cd_has_form ct_has_form : Value}
    {f_has_machines : Addr} {od_has_machines an_has_machines : Option Addr} {sl_has_machines : Array (Option Value)} {oc_has_machines kV_has_machines dc_has_machines pm_has_machines cd_has_machines ct_has_machines : Value}
    {f_works_of : Addr} {od_works_of an_works_of : Option Addr} {sl_works_of : Array (Option Value)} {oc_works_of kV_works_of dc_works_of pm_works_of cd_works_of ct_works_of : Value}
    {f_deed_of : Addr} {od_deed_of an_deed_of : Option Addr} {sl_deed_of : Array (Option Value)} {oc_deed_of kV_deed_of dc_deed_of pm_deed_of cd_deed_of ct_deed_of : Value}
    {f_read_run : Addr} {od_read_run an_read_run : Option Addr} {sl_read_run : Array (Option Value)} {oc_read_run kV_read_run dc_read_run pm_read_run cd_read_run ct_read_run : Value}
    {f_law_deck : Addr} {od_law_deck an_law_deck : Option Addr} {sl_law_deck : Array (Option Value)} {oc_law_deck kV_law_deck dc_law_deck pm_law_deck cd_law_deck ct_law_deck : Value}
    {f_law_draw : Addr} {od_law_draw an_law_draw : Option Addr} {sl_law_draw : Array (Option Value)} {oc_law_draw kV_law_draw dc_law_draw pm_law_draw cd_law_draw ct_law_draw : Value}
    {f_law_pick : Addr} {od_law_pick an_law_pick : Option Addr} {sl_law_pick : Array (Option Value)} {oc_law_pick kV_law_pick dc_law_pick pm_law_pick cd_law_pick ct_law_pick : Value}
    {f_law_deed : Addr} {od_law_deed an_law_deed : Option Addr} {sl_law_deed : Array (Option Value)} {oc_law_deed kV_law_deed dc_law_deed pm_law_deed cd_law_deed ct_law_deed : Value}
    {f_law_line : Addr} {od_law_line an_law_line : Option Addr} {sl_law_line : Array (Option Value)} {oc_law_line kV_law_line dc_law_line pm_law_line cd_law_line ct_law_line : Value}
    {f_law_text : Addr} {od_law_text an_law_text : Option Addr} {sl_law_text : Array (Option Value)} {oc_law_text kV_law_text dc_law_text pm_law_text cd_law_text ct_law_text : Value}
    {f_law_works : Addr} {od_law_works an_law_works : Option Addr} {sl_law_works : Array (Option Value)} {oc_law_works kV_law_works dc_law_works pm_law_works cd_law_works ct_law_works : Value}
    {f_law_deed_in : Addr} {od_law_deed_in an_law_deed_in : Option Addr} {sl_law_deed_in : Array (Option Value)} {oc_law_deed_in kV_law_deed_in dc_law_deed_in pm_law_deed_in cd_law_deed_in ct_law_deed_in : Value}
    {f_law_due : Addr} {od_law_due an_law_due : Option Addr} {sl_law_due : Array (Option Value)} {oc_law_due kV_law_due dc_law_due pm_law_due cd_law_due ct_law_due : Value}
    {f_law_heard : Addr} {od_law_heard an_law_heard : Option Addr} {sl_law_heard : Array (Option Value)} {oc_law_heard kV_law_heard dc_law_heard pm_law_heard cd_law_heard ct_law_heard : Value}
    {f_law_spoilt : Addr} {od_law_spoilt an_law_spoilt : Option Addr} {sl_law_spoilt : Array (Option Value)} {oc_law_spoilt kV_law_spoilt dc_law_spoilt pm_law_spoilt cd_law_spoilt ct_law_spoilt : Value}
    {f_law : Addr} {od_law an_law : Option Addr} {sl_law : Array (Option Value)} {oc_law kV_law dc_law pm_law cd_law ct_law : Value}
    {t_MAX_DEEDS : Tok}
    {t_MAX_MACHINES : Tok}
    {t_START_HEAD : Tok}
    {r_DEED_SIZES : Addr} {n_DEED_SIZES : Nat} {t_DEED_SIZES_0 u_DEED_SIZES_0 t_DEED_SIZES_1 u_DEED_SIZES_1 t_DEED_SIZES_2 u_DEED_SIZES_2 t_DEED_SIZES_3 u_DEED_SIZES_3 : Tok}
    {r_MACHINES : Addr} {n_MACHINES : Nat} {t_MACHINES_0 u_MACHINES_0 t_MACHINES_1 u_MACHINES_1 t_MACHINES_2 u_MACHINES_2 t_MACHINES_3 u_MACHINES_3 t_MACHINES_4 u_MACHINES_4 t_MACHINES_5 u_MACHINES_5 : Tok}
    {C_BadText : Addr}
    {C_StillError : Addr}
    {fI_BadText : Addr} {odI_BadText anI_BadText : Option Addr} {slI_BadText : Array (Option Value)} {ocI_BadText kVI_BadText dcI_BadText pmI_BadText cdI_BadText ctI_BadText : Value} {nm_BadText q_BadText : Str} {N_BadText B_BadText_StillError : Addr} {bs_BadText sub_c_BadText : List Value} {sn_BadText : List Str} {ab_BadText : Bool} {col_BadText : Option Bool} {dd_BadText : Option Addr} {k0_BadText k1_BadText k2_BadText k3_BadText k5_BadText : Option Value}
    (a_is_integer : PySem.W.nsIn K mainGlobals "is_integer" = some (some (.ref f_is_integer)))
    (l_is_integer : K.lookup f_is_integer = some ⟨oc_is_integer, od_is_integer, .func (PySem.W.fnOf "is_integer" "is_integer" (defArgs s_is_integer) (defBody s_is_integer) (defScope s_is_integer) .none kV_is_integer dc_is_integer pm_is_integer an_is_integer cd_is_integer ct_is_integer), sl_is_integer⟩)
    (c_is_integer : PySem.W.codeIn K cd_is_integer "is_integer" = true)
    (k_is_integer : PySem.W.keepIn K (.ref f_is_integer) = true)
    (a_is_machine : PySem.W.nsIn K mainGlobals "is_machine" = some (some (.ref f_is_machine)))
    (l_is_machine : K.lookup f_is_machine = some ⟨oc_is_machine, od_is_machine, .func (PySem.W.fnOf "is_machine" "is_machine" (defArgs s_is_machine) (defBody s_is_machine) (defScope s_is_machine) .none kV_is_machine dc_is_machine pm_is_machine an_is_machine cd_is_machine ct_is_machine), sl_is_machine⟩)
    (c_is_machine : PySem.W.codeIn K cd_is_machine "is_machine" = true)
    (k_is_machine : PySem.W.keepIn K (.ref f_is_machine) = true)
    (a_is_many : PySem.W.nsIn K mainGlobals "is_many" = some (some (.ref f_is_many)))
    (l_is_many : K.lookup f_is_many = some ⟨oc_is_many, od_is_many, .func (PySem.W.fnOf "is_many" "is_many" (defArgs s_is_many) (defBody s_is_many) (defScope s_is_many) .none kV_is_many dc_is_many pm_is_many an_is_many cd_is_many ct_is_many), sl_is_many⟩)
    (c_is_many : PySem.W.codeIn K cd_is_many "is_many" = true)
    (k_is_many : PySem.W.keepIn K (.ref f_is_many) = true)
    (a_has_form : PySem.W.nsIn K mainGlobals "has_form" = some (some (.ref f_has_form)))
    (l_has_form : K.lookup f_has_form = some ⟨oc_has_form, od_has_form, .func (PySem.W.fnOf "has_form" "has_form" (defArgs s_has_form) (defBody s_has_form) (defScope s_has_form) .none kV_has_form dc_has_form pm_has_form an_has_form cd_has_form ct_has_form), sl_has_form⟩)
    (c_has_form : PySem.W.codeIn K cd_has_form "has_form" = true)
    (k_has_form : PySem.W.keepIn K (.ref f_has_form) = true)
    (a_has_machines : PySem.W.nsIn K mainGlobals "has_machines" = some (some (.ref f_has_machines)))
    (l_has_machines : K.lookup f_has_machines = some ⟨oc_has_machines, od_has_machines, .func (PySem.W.fnOf "has_machines" "has_machines" (defArgs s_has_machines) (defBody s_has_machines) (defScope s_has_machines) .none kV_has_machines dc_has_machines pm_has_machines an_has_machines cd_has_machines ct_has_machines), sl_has_machines⟩)
    (c_has_machines : PySem.W.codeIn K cd_has_machines "has_machines" = true)
    (k_has_machines : PySem.W.keepIn K (.ref f_has_machines) = true)
    (a_works_of : PySem.W.nsIn K mainGlobals "works_of" = some (some (.ref f_works_of)))
    (l_works_of : K.lookup f_works_of = some ⟨oc_works_of, od_works_of, .func (PySem.W.fnOf "works_of" "works_of" (defArgs s_works_of) (defBody s_works_of) (defScope s_works_of) .none kV_works_of dc_works_of pm_works_of an_works_of cd_works_of ct_works_of), sl_works_of⟩)
    (c_works_of : PySem.W.codeIn K cd_works_of "works_of" = true)
    (k_works_of : PySem.W.keepIn K (.ref f_works_of) = true)
    (a_deed_of : PySem.W.nsIn K mainGlobals "deed_of" = some (some (.ref f_deed_of)))
    (l_deed_of : K.lookup f_deed_of = some ⟨oc_deed_of, od_deed_of, .func (PySem.W.fnOf "deed_of" "deed_of" (defArgs s_deed_of) (defBody s_deed_of) (defScope s_deed_of) .none kV_deed_of dc_deed_of pm_deed_of an_deed_of cd_deed_of ct_deed_of), sl_deed_of⟩)
    (c_deed_of : PySem.W.codeIn K cd_deed_of "deed_of" = true)
    (k_deed_of : PySem.W.keepIn K (.ref f_deed_of) = true)
    (a_read_run : PySem.W.nsIn K mainGlobals "read_run" = some (some (.ref f_read_run)))
    (l_read_run : K.lookup f_read_run = some ⟨oc_read_run, od_read_run, .func (PySem.W.fnOf "read_run" "read_run" (defArgs s_read_run) (defBody s_read_run) (defScope s_read_run) .none kV_read_run dc_read_run pm_read_run an_read_run cd_read_run ct_read_run), sl_read_run⟩)
    (c_read_run : PySem.W.codeIn K cd_read_run "read_run" = true)
    (k_read_run : PySem.W.keepIn K (.ref f_read_run) = true)
    (a_law_deck : PySem.W.nsIn K mainGlobals "_law_deck" = some (some (.ref f_law_deck)))
    (l_law_deck : K.lookup f_law_deck = some ⟨oc_law_deck, od_law_deck, .func (PySem.W.fnOf "_law_deck" "_law_deck" (defArgs s_law_deck) (defBody s_law_deck) (defScope s_law_deck) .none kV_law_deck dc_law_deck pm_law_deck an_law_deck cd_law_deck ct_law_deck), sl_law_deck⟩)
    (c_law_deck : PySem.W.codeIn K cd_law_deck "_law_deck" = true)
    (k_law_deck : PySem.W.keepIn K (.ref f_law_deck) = true)
    (a_law_draw : PySem.W.nsIn K mainGlobals "_law_draw" = some (some (.ref f_law_draw)))
    (l_law_draw : K.lookup f_law_draw = some ⟨oc_law_draw, od_law_draw, .func (PySem.W.fnOf "_law_draw" "_law_draw" (defArgs s_law_draw) (defBody s_law_draw) (defScope s_law_draw) .none kV_law_draw dc_law_draw pm_law_draw an_law_draw cd_law_draw ct_law_draw), sl_law_draw⟩)
    (c_law_draw : PySem.W.codeIn K cd_law_draw "_law_draw" = true)
    (k_law_draw : PySem.W.keepIn K (.ref f_law_draw) = true)
    (a_law_pick : PySem.W.nsIn K mainGlobals "_law_pick" = some (some (.ref f_law_pick)))
    (l_law_pick : K.lookup f_law_pick = some ⟨oc_law_pick, od_law_pick, .func (PySem.W.fnOf "_law_pick" "_law_pick" (defArgs s_law_pick) (defBody s_law_pick) (defScope s_law_pick) .none kV_law_pick dc_law_pick pm_law_pick an_law_pick cd_law_pick ct_law_pick), sl_law_pick⟩)
    (c_law_pick : PySem.W.codeIn K cd_law_pick "_law_pick" = true)
    (k_law_pick : PySem.W.keepIn K (.ref f_law_pick) = true)
    (a_law_deed : PySem.W.nsIn K mainGlobals "_law_deed" = some (some (.ref f_law_deed)))
    (l_law_deed : K.lookup f_law_deed = some ⟨oc_law_deed, od_law_deed, .func (PySem.W.fnOf "_law_deed" "_law_deed" (defArgs s_law_deed) (defBody s_law_deed) (defScope s_law_deed) .none kV_law_deed dc_law_deed pm_law_deed an_law_deed cd_law_deed ct_law_deed), sl_law_deed⟩)
    (c_law_deed : PySem.W.codeIn K cd_law_deed "_law_deed" = true)
    (k_law_deed : PySem.W.keepIn K (.ref f_law_deed) = true)
    (a_law_line : PySem.W.nsIn K mainGlobals "_law_line" = some (some (.ref f_law_line)))
    (l_law_line : K.lookup f_law_line = some ⟨oc_law_line, od_law_line, .func (PySem.W.fnOf "_law_line" "_law_line" (defArgs s_law_line) (defBody s_law_line) (defScope s_law_line) .none kV_law_line dc_law_line pm_law_line an_law_line cd_law_line ct_law_line), sl_law_line⟩)
    (c_law_line : PySem.W.codeIn K cd_law_line "_law_line" = true)
    (k_law_line : PySem.W.keepIn K (.ref f_law_line) = true)
    (a_law_text : PySem.W.nsIn K mainGlobals "_law_text" = some (some (.ref f_law_text)))
    (l_law_text : K.lookup f_law_text = some ⟨oc_law_text, od_law_text, .func (PySem.W.fnOf "_law_text" "_law_text" (defArgs s_law_text) (defBody s_law_text) (defScope s_law_text) .none kV_law_text dc_law_text pm_law_text an_law_text cd_law_text ct_law_text), sl_law_text⟩)
    (c_law_text : PySem.W.codeIn K cd_law_text "_law_text" = true)
    (k_law_text : PySem.W.keepIn K (.ref f_law_text) = true)
    (a_law_works : PySem.W.nsIn K mainGlobals "_law_works" = some (some (.ref f_law_works)))
    (l_law_works : K.lookup f_law_works = some ⟨oc_law_works, od_law_works, .func (PySem.W.fnOf "_law_works" "_law_works" (defArgs s_law_works) (defBody s_law_works) (defScope s_law_works) .none kV_law_works dc_law_works pm_law_works an_law_works cd_law_works ct_law_works), sl_law_works⟩)
    (c_law_works : PySem.W.codeIn K cd_law_works "_law_works" = true)
    (k_law_works : PySem.W.keepIn K (.ref f_law_works) = true)
    (a_law_deed_in : PySem.W.nsIn K mainGlobals "_law_deed_in" = some (some (.ref f_law_deed_in)))
    (l_law_deed_in : K.lookup f_law_deed_in = some ⟨oc_law_deed_in, od_law_deed_in, .func (PySem.W.fnOf "_law_deed_in" "_law_deed_in" (defArgs s_law_deed_in) (defBody s_law_deed_in) (defScope s_law_deed_in) .none kV_law_deed_in dc_law_deed_in pm_law_deed_in an_law_deed_in cd_law_deed_in ct_law_deed_in), sl_law_deed_in⟩)
    (c_law_deed_in : PySem.W.codeIn K cd_law_deed_in "_law_deed_in" = true)
    (k_law_deed_in : PySem.W.keepIn K (.ref f_law_deed_in) = true)
    (a_law_due : PySem.W.nsIn K mainGlobals "_law_due" = some (some (.ref f_law_due)))
    (l_law_due : K.lookup f_law_due = some ⟨oc_law_due, od_law_due, .func (PySem.W.fnOf "_law_due" "_law_due" (defArgs s_law_due) (defBody s_law_due) (defScope s_law_due) .none kV_law_due dc_law_due pm_law_due an_law_due cd_law_due ct_law_due), sl_law_due⟩)
    (c_law_due : PySem.W.codeIn K cd_law_due "_law_due" = true)
    (k_law_due : PySem.W.keepIn K (.ref f_law_due) = true)
    (a_law_heard : PySem.W.nsIn K mainGlobals "_law_heard" = some (some (.ref f_law_heard)))
    (l_law_heard : K.lookup f_law_heard = some ⟨oc_law_heard, od_law_heard, .func (PySem.W.fnOf "_law_heard" "_law_heard" (defArgs s_law_heard) (defBody s_law_heard) (defScope s_law_heard) .none kV_law_heard dc_law_heard pm_law_heard an_law_heard cd_law_heard ct_law_heard), sl_law_heard⟩)
    (c_law_heard : PySem.W.codeIn K cd_law_heard "_law_heard" = true)
    (k_law_heard : PySem.W.keepIn K (.ref f_law_heard) = true)
    (a_law_spoilt : PySem.W.nsIn K mainGlobals "_law_spoilt" = some (some (.ref f_law_spoilt)))
    (l_law_spoilt : K.lookup f_law_spoilt = some ⟨oc_law_spoilt, od_law_spoilt, .func (PySem.W.fnOf "_law_spoilt" "_law_spoilt" (defArgs s_law_spoilt) (defBody s_law_spoilt) (defScope s_law_spoilt) .none kV_law_spoilt dc_law_spoilt pm_law_spoilt an_law_spoilt cd_law_spoilt ct_law_spoilt), sl_law_spoilt⟩)
    (c_law_spoilt : PySem.W.codeIn K cd_law_spoilt "_law_spoilt" = true)
    (k_law_spoilt : PySem.W.keepIn K (.ref f_law_spoilt) = true)
    (a_law : PySem.W.nsIn K mainGlobals "law" = some (some (.ref f_law)))
    (l_law : K.lookup f_law = some ⟨oc_law, od_law, .func (PySem.W.fnOf "law" "law" (defArgs s_law) (defBody s_law) (defScope s_law) .none kV_law dc_law pm_law an_law cd_law ct_law), sl_law⟩)
    (c_law : PySem.W.codeIn K cd_law "law" = true)
    (k_law : PySem.W.keepIn K (.ref f_law) = true)
    (z_abs : PySem.W.nsIn K mainGlobals "abs" = some none)
    (z_all : PySem.W.nsIn K mainGlobals "all" = some none)
    (z_bool : PySem.W.nsIn K mainGlobals "bool" = some none)
    (z_enumerate : PySem.W.nsIn K mainGlobals "enumerate" = some none)
    (z_int : PySem.W.nsIn K mainGlobals "int" = some none)
    (z_isinstance : PySem.W.nsIn K mainGlobals "isinstance" = some none)
    (z_len : PySem.W.nsIn K mainGlobals "len" = some none)
    (z_range : PySem.W.nsIn K mainGlobals "range" = some none)
    (z_repr : PySem.W.nsIn K mainGlobals "repr" = some none)
    (z_str : PySem.W.nsIn K mainGlobals "str" = some none)
    (z_tuple : PySem.W.nsIn K mainGlobals "tuple" = some none)
    (a_MAX_DEEDS : PySem.W.nsIn K mainGlobals "MAX_DEEDS" = some (some (Value.int 400 t_MAX_DEEDS)))
    (a_MAX_MACHINES : PySem.W.nsIn K mainGlobals "MAX_MACHINES" = some (some (Value.int 6 t_MAX_MACHINES)))
    (a_START_HEAD : PySem.W.nsIn K mainGlobals "START_HEAD" = some (some (Value.str "start " t_START_HEAD)))
    (a_DEED_SIZES : PySem.W.nsIn K mainGlobals "DEED_SIZES" = some (some (.ref r_DEED_SIZES)))
    (l_DEED_SIZES : K.lookup r_DEED_SIZES = some ⟨.type "dict", none, .dict (List.toArray [⟨PyData.keyHash w.params "get", .str "get" t_DEED_SIZES_0, (Value.int 3 u_DEED_SIZES_0)⟩, ⟨PyData.keyHash w.params "rest", .str "rest" t_DEED_SIZES_1, (Value.int 2 u_DEED_SIZES_1)⟩, ⟨PyData.keyHash w.params "send", .str "send" t_DEED_SIZES_2, (Value.int 3 u_DEED_SIZES_2)⟩, ⟨PyData.keyHash w.params "visit", .str "visit" t_DEED_SIZES_3, (Value.int 2 u_DEED_SIZES_3)⟩]) n_DEED_SIZES, #[]⟩)
    (w_DEED_SIZES : (r_DEED_SIZES == sysModules) = false)
    (a_MACHINES : PySem.W.nsIn K mainGlobals "MACHINES" = some (some (.ref r_MACHINES)))
    (l_MACHINES : K.lookup r_MACHINES = some ⟨.type "dict", none, .dict (List.toArray [⟨PyData.keyHash w.params "0", .str "0" t_MACHINES_0, (Value.int 0 u_MACHINES_0)⟩, ⟨PyData.keyHash w.params "1", .str "1" t_MACHINES_1, (Value.int 1 u_MACHINES_1)⟩, ⟨PyData.keyHash w.params "2", .str "2" t_MACHINES_2, (Value.int 2 u_MACHINES_2)⟩, ⟨PyData.keyHash w.params "3", .str "3" t_MACHINES_3, (Value.int 3 u_MACHINES_3)⟩, ⟨PyData.keyHash w.params "4", .str "4" t_MACHINES_4, (Value.int 4 u_MACHINES_4)⟩, ⟨PyData.keyHash w.params "5", .str "5" t_MACHINES_5, (Value.int 5 u_MACHINES_5)⟩]) n_MACHINES, #[]⟩)
    (w_MACHINES : (r_MACHINES == sysModules) = false)
    (a_BadText : PySem.W.nsIn K mainGlobals "BadText" = some (some (.ref C_BadText)))
    (a_StillError : PySem.W.nsIn K mainGlobals "StillError" = some (some (.ref C_StillError)))
    (hd_BadText : PySem.W.hasDictIn K C_BadText = true)
    (sb_BadText : PySem.W.subIn K (.ref C_BadText) (.type "BaseException") = some true)
    (ty_BadText : PySem.W.typeIn K (.ref C_BadText) = some (.type "type"))
    (ga_BadText : PySem.W.findIn K (.ref C_BadText) "__getattribute__" = some (some (.builtin "BaseException.__getattribute__")))
    (gt_BadText : PySem.W.findIn K (.ref C_BadText) "__getattr__" = some none)
    (cc_BadText : PySem.W.findIn K (.ref C_BadText) "__class__" = some (some (.builtin "object.__class__")))
    (mo_BadText : PySem.W.mroIn K C_BadText (.type "object") = some true)
    (cl_BadText : PySem.W.isClsIn K C_BadText = true)
    (nn_ : PySem.W.specialIn K (.builtin "object.__class__") "__get__" = some (some (.builtin "getset_descriptor.__get__")))
    (tk_ : PySem.W.takesIn K (.builtin "object.__class__") = some true)
    (s_BadText_BadText : PySem.W.subIn K (.ref C_BadText) (.ref C_BadText) = some true)
    (kp_BadText : PySem.W.keepIn K (.ref C_BadText) = true)
    (x_BadText : K.lookup C_BadText = some (excClassObj nm_BadText q_BadText C_BadText N_BadText bs_BadText [.ref B_BadText_StillError, .type "ValueError", .type "Exception", .type "BaseException", .type "object"] true sn_BadText sub_c_BadText ab_BadText col_BadText dd_BadText k0_BadText k1_BadText k2_BadText k3_BadText k5_BadText "ValueError.__new__"))
    (sa_BadText : PySem.W.findIn K (.ref C_BadText) "__setattr__" = some (some (.builtin "object.__setattr__")))
    (no_BadText : PySem.W.findIn K (.ref C_BadText) "line" = some none)
    (in_BadText : PySem.W.findIn K (.ref C_BadText) "__init__" = some (some (.ref fI_BadText)))
    (it_BadText : PySem.W.typeIn K (.ref fI_BadText) = some (.type "function"))
    (lI_BadText : K.lookup fI_BadText = some ⟨ocI_BadText, odI_BadText, .func (PySem.W.fnOf "__init__" "BadText.__init__" (defArgs s_init_BadText) (defBody s_init_BadText) (defScope s_init_BadText) .none kVI_BadText dcI_BadText pmI_BadText anI_BadText cdI_BadText ctI_BadText), slI_BadText⟩)
    (cI_BadText : PySem.W.codeIn K cdI_BadText "BadText.__init__" = true)
    (kI_BadText : PySem.W.keepIn K (.ref fI_BadText) = true)
    (cl_StillError : PySem.W.isClsIn K C_StillError = true)
    (ty_StillError : PySem.W.typeIn K (.ref C_StillError) = some (.type "type"))
    (ki_BadText_StillError : PySem.W.subIn K (.ref C_BadText) (.ref C_StillError) = some true)
    : ∃ (fd : FuncData) (cm : Str → Value), (∀ (s : Shared) (u : Value), BindsTo s fd ⟨[u], []⟩ [("script", u)]) ∧ ∀ base : Heap, K.In base → FnG P w K mg base 7 fa fd ["script"] (spD K cm 1 F_law) := by
  have e := hfa.symm.trans (PySem.W.mg_of X G a_law)
  cases e
  let cmf : Str → Value := fun n => if n = "BadText" then .ref C_BadText else .none
  have su_BadText : ∀ m r, sub_BadText m = some r → PySem.W.exmOne K (cmf m) (.ref C_BadText) = some r := by
    intro m r h
    unfold sub_BadText at h
    by_cases e0 : m = "BadText"
    · rw [if_pos e0] at h
      cases h
      subst e0
      exact (congrArg (fun c => PySem.W.exmOne K c (.ref C_BadText)) (show cmf "BadText" = .ref C_BadText from if_pos rfl)).trans (PySem.W.exm_ref sb_BadText hd_BadText ty_BadText s_BadText_BadText)
    · rw [if_neg e0] at h
      cases h
  let T : Txt w K mg cmf := {
    a_is_integer := f_is_integer, fd_is_integer := _, F_is_integer := fun_mk (st := s_is_integer) l_is_integer c_is_integer k_is_integer, m_is_integer := PySem.W.mg_of X G a_is_integer,
    a_is_machine := f_is_machine, fd_is_machine := _, F_is_machine := fun_mk (st := s_is_machine) l_is_machine c_is_machine k_is_machine, m_is_machine := PySem.W.mg_of X G a_is_machine,
    a_is_many := f_is_many, fd_is_many := _, F_is_many := fun_mk (st := s_is_many) l_is_many c_is_many k_is_many, m_is_many := PySem.W.mg_of X G a_is_many,
    a_has_form := f_has_form, fd_has_form := _, F_has_form := fun_mk (st := s_has_form) l_has_form c_has_form k_has_form, m_has_form := PySem.W.mg_of X G a_has_form,
    a_has_machines := f_has_machines, fd_has_machines := _, F_has_machines := fun_mk (st := s_has_machines) l_has_machines c_has_machines k_has_machines, m_has_machines := PySem.W.mg_of X G a_has_machines,
    a_works_of := f_works_of, fd_works_of := _, F_works_of := fun_mk (st := s_works_of) l_works_of c_works_of k_works_of, m_works_of := PySem.W.mg_of X G a_works_of,
    a_deed_of := f_deed_of, fd_deed_of := _, F_deed_of := fun_mk (st := s_deed_of) l_deed_of c_deed_of k_deed_of, m_deed_of := PySem.W.mg_of X G a_deed_of,
    a_read_run := f_read_run, fd_read_run := _, F_read_run := fun_mk (st := s_read_run) l_read_run c_read_run k_read_run, m_read_run := PySem.W.mg_of X G a_read_run,
    a_law_deck := f_law_deck, fd_law_deck := _, F_law_deck := fun_mk (st := s_law_deck) l_law_deck c_law_deck k_law_deck, m_law_deck := PySem.W.mg_of X G a_law_deck,
    a_law_draw := f_law_draw, fd_law_draw := _, F_law_draw := fun_mk (st := s_law_draw) l_law_draw c_law_draw k_law_draw, m_law_draw := PySem.W.mg_of X G a_law_draw,
    a_law_pick := f_law_pick, fd_law_pick := _, F_law_pick := fun_mk (st := s_law_pick) l_law_pick c_law_pick k_law_pick, m_law_pick := PySem.W.mg_of X G a_law_pick,
    a_law_deed := f_law_deed, fd_law_deed := _, F_law_deed := fun_mk (st := s_law_deed) l_law_deed c_law_deed k_law_deed, m_law_deed := PySem.W.mg_of X G a_law_deed,
    a_law_line := f_law_line, fd_law_line := _, F_law_line := fun_mk (st := s_law_line) l_law_line c_law_line k_law_line, m_law_line := PySem.W.mg_of X G a_law_line,
    a_law_text := f_law_text, fd_law_text := _, F_law_text := fun_mk (st := s_law_text) l_law_text c_law_text k_law_text, m_law_text := PySem.W.mg_of X G a_law_text,
    a_law_works := f_law_works, fd_law_works := _, F_law_works := fun_mk (st := s_law_works) l_law_works c_law_works k_law_works, m_law_works := PySem.W.mg_of X G a_law_works,
    a_law_deed_in := f_law_deed_in, fd_law_deed_in := _, F_law_deed_in := fun_mk (st := s_law_deed_in) l_law_deed_in c_law_deed_in k_law_deed_in, m_law_deed_in := PySem.W.mg_of X G a_law_deed_in,
    a_law_due := f_law_due, fd_law_due := _, F_law_due := fun_mk (st := s_law_due) l_law_due c_law_due k_law_due, m_law_due := PySem.W.mg_of X G a_law_due,
    a_law_heard := f_law_heard, fd_law_heard := _, F_law_heard := fun_mk (st := s_law_heard) l_law_heard c_law_heard k_law_heard, m_law_heard := PySem.W.mg_of X G a_law_heard,
    a_law_spoilt := f_law_spoilt, fd_law_spoilt := _, F_law_spoilt := fun_mk (st := s_law_spoilt) l_law_spoilt c_law_spoilt k_law_spoilt, m_law_spoilt := PySem.W.mg_of X G a_law_spoilt,
    a_law := fa, fd_law := _, F_law := fun_mk (st := s_law) l_law c_law k_law, m_law := PySem.W.mg_of X G a_law,
    z_abs := PySem.W.mg_none_of X G z_abs,
    z_all := PySem.W.mg_none_of X G z_all,
    z_bool := PySem.W.mg_none_of X G z_bool,
    z_enumerate := PySem.W.mg_none_of X G z_enumerate,
    z_int := PySem.W.mg_none_of X G z_int,
    z_isinstance := PySem.W.mg_none_of X G z_isinstance,
    z_len := PySem.W.mg_none_of X G z_len,
    z_range := PySem.W.mg_none_of X G z_range,
    z_repr := PySem.W.mg_none_of X G z_repr,
    z_str := PySem.W.mg_none_of X G z_str,
    z_tuple := PySem.W.mg_none_of X G z_tuple,
    u_MAX_DEEDS := _, v_MAX_DEEDS := (.int 400), rv_MAX_DEEDS := ⟨_, rfl⟩, m_MAX_DEEDS := PySem.W.mg_of X G a_MAX_DEEDS, r_MAX_DEEDS := fun _ _ => .int _,
    u_MAX_MACHINES := _, v_MAX_MACHINES := (.int 6), rv_MAX_MACHINES := ⟨_, rfl⟩, m_MAX_MACHINES := PySem.W.mg_of X G a_MAX_MACHINES, r_MAX_MACHINES := fun _ _ => .int _,
    u_START_HEAD := _, v_START_HEAD := (.str "start "), rv_START_HEAD := ⟨_, rfl⟩, m_START_HEAD := PySem.W.mg_of X G a_START_HEAD, r_START_HEAD := fun _ _ => .str _,
    a_DEED_SIZES := r_DEED_SIZES, m_DEED_SIZES := PySem.W.mg_of X G a_DEED_SIZES, t_DEED_SIZES := ktab_of l_DEED_SIZES w_DEED_SIZES (.cons (v := (.int 3)) ⟨_, rfl⟩ (fun _ _ => .int _) (.cons (v := (.int 2)) ⟨_, rfl⟩ (fun _ _ => .int _) (.cons (v := (.int 3)) ⟨_, rfl⟩ (fun _ _ => .int _) (.cons (v := (.int 2)) ⟨_, rfl⟩ (fun _ _ => .int _) .nil)))),
    a_MACHINES := r_MACHINES, m_MACHINES := PySem.W.mg_of X G a_MACHINES, t_MACHINES := ktab_of l_MACHINES w_MACHINES (.cons (v := (.int 0)) ⟨_, rfl⟩ (fun _ _ => .int _) (.cons (v := (.int 1)) ⟨_, rfl⟩ (fun _ _ => .int _) (.cons (v := (.int 2)) ⟨_, rfl⟩ (fun _ _ => .int _) (.cons (v := (.int 3)) ⟨_, rfl⟩ (fun _ _ => .int _) (.cons (v := (.int 4)) ⟨_, rfl⟩ (fun _ _ => .int _) (.cons (v := (.int 5)) ⟨_, rfl⟩ (fun _ _ => .int _) .nil)))))),
    a_BadText := C_BadText, m_BadText := PySem.W.mg_of X G a_BadText,
    a_StillError := C_StillError, m_StillError := PySem.W.mg_of X G a_StillError,
    cm_BadText := if_pos rfl, ic_BadText := ⟨cl_BadText, ga_BadText, gt_BadText, sb_BadText, cc_BadText, nn_, tk_, mo_BadText⟩,
    fI_BadText := fI_BadText, fdI_BadText := _, FI_BadText := fun_mk (st := s_init_BadText) lI_BadText cI_BadText kI_BadText, ox_BadText := ⟨⟨_, _, _, _, _, _, _, _, _, _, _, _, _, _, _, x_BadText, by rfl⟩, sa_BadText, sb_BadText, ty_BadText, kp_BadText⟩, no_BadText := no_BadText, in_BadText := in_BadText, it_BadText := it_BadText, xf_BadText := ⟨ga_BadText, gt_BadText, sb_BadText, hd_BadText⟩,
    kit_BadText_StillError := kit_true cl_StillError ty_StillError ki_BadText_StillError,
    su_BadText := su_BadText }
  exact ⟨PySem.W.fnOf "law" "law" (defArgs s_law) (defBody s_law) (defScope s_law) .none kV_law dc_law pm_law an_law cd_law ct_law, cmf, fun s v => .of_eq rfl, fun base _ => ok_law T⟩
end K10

open PySem PySem.W PyProof.Rows in
set_option maxRecDepth 100000 in
set_option maxHeartbeats 0 in
theorem PySem.Challenge.cw_stillrounds_k10_whole_spoilt_texts_of_ru_holds : PySem.Challenge.rw_stillrounds_k10_whole_spoilt_texts_of_ru.Holds := by
  w_on; o_law; k_head; (case hw => w_witness2)
  k_fill
  refine Den.walk_den (l := PySem.Challenge.rw_stillrounds_k10_whole_spoilt_texts_of_ru) (n := 63) (k := 7) (x := "script") (F0 := K10.F_law) rfl (by decide) rfl ⟨rfl, by decide, by decide⟩ (fun w h Y => PySem.W.kIn_of Y) ?F K10.holds
  case F =>
    intro w mg fa h KX G hmg
    refine' K10.all_mk KX G hmg ?q0 ?q1 ?q2 ?q3 ?q4 ?q5 ?q6 ?q7 ?q8 ?q9 ?q10 ?q11 ?q12 ?q13 ?q14 ?q15 ?q16 ?q17 ?q18 ?q19 ?q20 ?q21 ?q22 ?q23 ?q24 ?q25 ?q26 ?q27 ?q28 ?q29 ?q30 ?q31 ?q32 ?q33 ?q34 ?q35 ?q36 ?q37 ?q38 ?q39 ?q40 ?q41 ?q42 ?q43 ?q44 ?q45 ?q46 ?q47 ?q48 ?q49 ?q50 ?q51 ?q52 ?q53 ?q54 ?q55 ?q56 ?q57 ?q58 ?q59 ?q60 ?q61 ?q62 ?q63 ?q64 ?q65 ?q66 ?q67 ?q68 ?q69 ?q70 ?q71 ?q72 ?q73 ?q74 ?q75 ?q76 ?q77 ?q78 ?q79 ?q80 ?q81 ?q82 ?q83 ?q84 ?q85 ?q86 ?q87 ?q88 ?q89 ?q90 ?q91 ?q92 ?q93 ?q94 ?q95 ?q96 ?q97 ?q98 ?q99 ?q100 ?q101 ?q102 ?q103 ?q104 ?q105 ?q106 ?q107 ?q108 ?q109 ?q110 ?q111 ?q112 ?q113 ?q114 ?q115 ?q116 ?q117 ?q118 ?q119 ?q120 ?q121 ?q122 ?q123 ?q124
    (case q0 => k_is)
    (case q1 => k_is)
    (case q2 => k_is)
    (case q3 => k_is)
    (case q4 => k_is)
    (case q5 => k_is)
    (case q6 => k_is)
    (case q7 => k_is)
    (case q8 => k_is)
    (case q9 => k_is)
    (case q10 => k_is)
    (case q11 => k_is)
    (case q12 => k_is)
    (case q13 => k_is)
    (case q14 => k_is)
    (case q15 => k_is)
    (case q16 => k_is)
    (case q17 => k_is)
    (case q18 => k_is)
    (case q19 => k_is)
    (case q20 => k_is)
    (case q21 => k_is)
    (case q22 => k_is)
    (case q23 => k_is)
    (case q24 => k_is)
    (case q25 => k_is)
    (case q26 => k_is)
    (case q27 => k_is)
    (case q28 => k_is)
    (case q29 => k_is)
    (case q30 => k_is)
    (case q31 => k_is)
    (case q32 => k_is)
    (case q33 => k_is)
    (case q34 => k_is)
    (case q35 => k_is)
    (case q36 => k_is)
    (case q37 => k_is)
    (case q38 => k_is)
    (case q39 => k_is)
    (case q40 => k_is)
    (case q41 => k_is)
    (case q42 => k_is)
    (case q43 => k_is)
    (case q44 => k_is)
    (case q45 => k_is)
    (case q46 => k_is)
    (case q47 => k_is)
    (case q48 => k_is)
    (case q49 => k_is)
    (case q50 => k_is)
    (case q51 => k_is)
    (case q52 => k_is)
    (case q53 => k_is)
    (case q54 => k_is)
    (case q55 => k_is)
    (case q56 => k_is)
    (case q57 => k_is)
    (case q58 => k_is)
    (case q59 => k_is)
    (case q60 => k_is)
    (case q61 => k_is)
    (case q62 => k_is)
    (case q63 => k_is)
    (case q64 => k_is)
    (case q65 => k_is)
    (case q66 => k_is)
    (case q67 => k_is)
    (case q68 => k_is)
    (case q69 => k_is)
    (case q70 => k_is)
    (case q71 => k_is)
    (case q72 => k_is)
    (case q73 => k_is)
    (case q74 => k_is)
    (case q75 => k_is)
    (case q76 => k_is)
    (case q77 => k_is)
    (case q78 => k_is)
    (case q79 => k_is)
    (case q80 => k_is)
    (case q81 => k_is)
    (case q82 => k_is)
    (case q83 => k_is)
    (case q84 => k_is)
    (case q85 => k_is)
    (case q86 => k_is)
    (case q87 => k_is)
    (case q88 => k_is)
    (case q89 => k_is)
    (case q90 => k_is)
    (case q91 => k_is)
    (case q92 => k_is)
    (case q93 => k_is)
    (case q94 => k_is)
    (case q95 => k_is)
    (case q96 => rfl)
    (case q97 => k_is)
    (case q98 => k_is)
    (case q99 => rfl)
    (case q100 => k_is)
    (case q101 => k_is)
    (case q102 => k_is)
    (case q103 => k_is)
    (case q104 => k_is)
    (case q105 => k_is)
    (case q106 => k_is)
    (case q107 => k_is)
    (case q108 => k_is)
    (case q109 => k_is)
    (case q110 => k_is)
    (case q111 => k_is)
    (case q112 => k_is)
    (case q113 => k_is)
    (case q114 => k_is)
    (case q115 => k_is)
    (case q116 => k_is)
    (case q117 => k_is)
    (case q118 => k_is)
    (case q119 => k_is)
    (case q120 => k_is)
    (case q121 => k_is)
    (case q122 => k_is)
    (case q123 => k_is)
    (case q124 => k_is)
#print axioms PySem.Challenge.cw_stillrounds_k10_whole_spoilt_texts_of_ru_holds

