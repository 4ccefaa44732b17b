import PyProof.Rows.All
import Wide.All
import OpenK.AllK
import Wide.FinOn
import HandS.ForMost
import HandS.ForExc
import HandS.ExcInit
import HandS.ExcField
import HandS.ExcIs
import HandS.IsInst
import HandS.TupAny
import HandS.Deep
import HandS.Conv
import HandS.Text
import HandS.Iter
import HandS.Style
import HandS.WordsExc
import KE.KExcIs
import HandS.RaiseMore
import HandS.TupMul
import HandS.More
import HandS.List
import KE.GoesEnumKw
import KE.GoesMore
import PyProof.StrLawsIn
import HandS.Zip
import KE.DataCmp
import KE.SortData
import HandS.WideBits
import HandS.Flow
import KE.KMinBuiltin
import PyProof.EqKinds
import PyProof.P3In
import KE.KEqDict
import PyProof.ReprReads
import PyProof.ReprRoads
import PySem.Challenge.RW_stillrounds_k08_books_by_names
set_option Elab.async false
set_option linter.all false
set_option maxRecDepth 100000
set_option maxHeartbeats 4000000
/-! Den: plain values and plain heaps beside the machine's own; a program's parts as plain functions over them. -/
namespace Den
open PySem L2

/-! ### 1. values, objects, states, results: nothing of the machine -/
inductive D where
  | non | bl (b : Bool) | int (i : Int) | str (x : Str) | tup (xs : List D) | ro (xs : List D) | ref (n : Nat) | ty (n : String) | cls (n : Str)
  deriving Inhabited
inductive Ob where
  | lst (xs : List D) | dct (kvs : List (Key × D)) | fdct (kvs : List (Key × D))
structure DS where
  loc : List (Option D)
  h : List Ob
structure Xn where
  cls : Str
  fs : List (Str × D)
inductive Res (α : Type) where
  | ok (a : α) (S : DS) | exc (e : Xn) (S : DS) | stuck
inductive Fl where
  | next | ret (d : D) | brk | cont
namespace Res
def bind {α β : Type} (r : Res α) (k : α → DS → Res β) : Res β := match r with
  | .ok a S => k a S
  | .exc e S => .exc e S
  | .stuck => .stuck
def map {α β : Type} (f : α → β) (r : Res α) : Res β := r.bind fun a S => .ok (f a) S
@[simp] theorem bind_ok {α β : Type} (a : α) (S : DS) (k : α → DS → Res β) : (Res.ok a S).bind k = k a S := rfl
@[simp] theorem bind_exc {α β : Type} (e : Xn) (S : DS) (k : α → DS → Res β) : (Res.exc e S : Res α).bind k = .exc e S := rfl
@[simp] theorem bind_stuck {α β : Type} (k : α → DS → Res β) : (Res.stuck : Res α).bind k = .stuck := rfl
end Res
abbrev DE := DS → Res D
abbrev DT := DS → Res Bool
abbrev DA := DS → Res (List D)
abbrev DSt := DS → Res Fl
/-- a def: its arguments, the objects; what it gives, with the objects behind it -/
abbrev Fn := List D → List Ob → Res D

/-! ### 2. how they stand in the machine -/
section
variable (K : PySem.W.Frag) (cm : Str → Value)
/-- a list that nobody writes -/
def SqR (H : Hp) (a : Addr) (xs : List V) : Prop :=
  (∃ o, H a = some (.frz o (.lst xs))) ∨
    ∃ (o : Obj) (its : Array Value) (n : Nat), K.lookup a = some o ∧ o.cls = .type "list" ∧ o.dict = none ∧ o.data = .seq its n ∧ its.size ≤ sizeLine ∧ Vals xs its.toList
mutual
inductive Rep (L : List Addr) (H : Hp) : D → V → Prop
  | non : Rep L H .non .non
  | bl (b : Bool) : Rep L H (.bl b) (.bl b)
  | int (i : Int) : Rep L H (.int i) (.int i)
  | str (x : Str) : Rep L H (.str x) (.str x)
  | ty (n : String) : Rep L H (.ty n) (.ty n)
  | cls {n : Str} {a : Addr} : cm n = .ref a → Rep L H (.cls n) (.ref a)
  | tup {xs : List D} {vs : List V} {a : Addr} : SqT K H a vs → Reps L H xs vs → Rep L H (.tup xs) (.ref a)
  | ro {xs : List D} {vs : List V} {a : Addr} : SqR K H a vs → Reps L H xs vs → Rep L H (.ro xs) (.ref a)
  | ref {n : Nat} {a : Addr} : L[n]? = some a → Rep L H (.ref n) (.ref a)
inductive Reps (L : List Addr) (H : Hp) : List D → List V → Prop
  | nil : Reps L H [] []
  | cons {d : D} {ds : List D} {v : V} {vs : List V} : Rep L H d v → Reps L H ds vs → Reps L H (d :: ds) (v :: vs)
end
/-- a dict's entries -/
inductive RepK (L : List Addr) (H : Hp) : List (Key × D) → List (Key × V) → Prop
  | nil : RepK L H [] []
  | cons {k : Key} {d : D} {v : V} {ds : List (Key × D)} {vs : List (Key × V)} : Rep K cm L H d v → RepK L H ds vs → RepK L H ((k, d) :: ds) ((k, v) :: vs)
def ObR (L : List Addr) (H : Hp) (a : Addr) : Ob → Prop
  | .lst ds => ∃ vs, H a = some (.lst vs) ∧ Reps K cm L H ds vs
  | .dct ds => ∃ vs, H a = some (.dK vs) ∧ RepK K cm L H ds vs
  | .fdct ds => ∃ o vs, H a = some (.frz o (.dK vs)) ∧ RepK K cm L H ds vs
structure HAb (L : List Addr) (H : Hp) (h : List Ob) : Prop where
  nd : L.Nodup
  len : L.length = h.length
  obs : ∀ (n : Nat) (ob : Ob) (a : Addr), h[n]? = some ob → L[n]? = some a → ObR K cm L H a ob
def LocR (L : List Addr) (H : Hp) (ls : List (Option D)) (σ : St) : Prop :=
  ls.length = σ.length ∧ ∀ (i : Nat) (d : D), ls[i]? = some (some d) → ∃ v, σ[i]? = some (some v) ∧ Rep K cm L H d v
structure AbS (L : List Addr) (H : Hp) (S : DS) (σ : St) : Prop where
  hp : HAb K cm L H S.h
  loc : LocR K cm L H S.loc σ
/-- the heap has gone on -/
structure Ext (L : List Addr) (H : Hp) (L' : List Addr) (H' : Hp) : Prop where
  pre : ∃ M, L' = L ++ M ∧ ∀ a ∈ M, H a = none
  tup : ∀ a vs, SqT K H a vs → SqT K H' a vs
  rol : ∀ a vs, SqR K H a vs → SqR K H' a vs
  oth : ∀ a o, a ∉ L → H a = some o → H' a = some o
  thr : ∀ a o, H a = some o → ∃ o', H' a = some o'
  frz : ∀ a o u, H a = some (.frz o u) → H' a = some (.frz o u)
/-- an exception: its class, its own dict -/
def XnR (L : List Addr) (H : Hp) (e : Xn) (c : Value) (dx : Option Addr) : Prop :=
  c = cm e.cls ∧ ((e.fs = [] ∧ dx = none) ∨ ∃ d vs, dx = some d ∧ H d = some (.xd vs) ∧ ∀ f x, e.fs.lookup f = some x → ∃ v, vs.lookup f = some v ∧ Rep K cm L H x v)
end

section
variable {K : PySem.W.Frag} {cm : Str → Value} {L L' L1 L2' : List Addr} {H H' H1 H2 : Hp} {S S' : DS} {σ : St}
theorem Ext.refl : Ext K L H L H := ⟨⟨[], by simp, by simp⟩, fun _ _ h => h, fun _ _ h => h, fun _ _ _ h => h, fun _ o h => ⟨o, h⟩, fun _ _ _ h => h⟩
theorem Ext.trans (a : Ext K L H L1 H1) (b : Ext K L1 H1 L' H') : Ext K L H L' H' := by
  obtain ⟨M1, e1, n1⟩ := a.pre
  obtain ⟨M2, e2, n2⟩ := b.pre
  have nn : ∀ x, H1 x = none → H x = none := fun x q => by
    cases z : H x with
    | none => rfl
    | some o =>
      obtain ⟨o', z'⟩ := a.thr x o z
      rw [q] at z'; cases z'
  refine ⟨⟨M1 ++ M2, by rw [e2, e1, List.append_assoc], fun x hx => ?_⟩, fun x vs h => b.tup x vs (a.tup x vs h), fun x vs h => b.rol x vs (a.rol x vs h), fun x o hx h => ?_, fun x o h => ?_, fun x o u h => b.frz x o u (a.frz x o u h)⟩
  · rcases List.mem_append.mp hx with q | q
    · exact n1 x q
    · exact nn x (n2 x q)
  · refine b.oth x o (fun q => ?_) (a.oth x o hx h)
    rw [e1] at q
    rcases List.mem_append.mp q with q | q
    · exact hx q
    · rw [n1 x q] at h; cases h
  · obtain ⟨o1, h1⟩ := a.thr x o h
    exact b.thr x o1 h1
theorem Ext.ix (a : Ext K L H L' H') {n : Nat} {x : Addr} (h : L[n]? = some x) : L'[n]? = some x := by
  obtain ⟨M, e, _⟩ := a.pre
  rw [e, List.getElem?_append_left (List.getElem?_eq_some_iff.mp h).1]
  exact h
/-- what values lean on -/
structure ExtW (K : PySem.W.Frag) (L : List Addr) (H : Hp) (L' : List Addr) (H' : Hp) : Prop where
  pre : ∃ M, L' = L ++ M
  tup : ∀ a vs, SqT K H a vs → SqT K H' a vs
  rol : ∀ a vs, SqR K H a vs → SqR K H' a vs
theorem Ext.w (e : Ext K L H L' H') : ExtW K L H L' H' := ⟨let ⟨M, q, _⟩ := e.pre; ⟨M, q⟩, e.tup, e.rol⟩
theorem ExtW.ix (a : ExtW K L H L' H') {n : Nat} {x : Addr} (h : L[n]? = some x) : L'[n]? = some x := by
  obtain ⟨M, e⟩ := a.pre
  rw [e, List.getElem?_append_left (List.getElem?_eq_some_iff.mp h).1]
  exact h
mutual
theorem Rep.monoW (e : ExtW K L H L' H') : ∀ {d : D} {v : V}, Rep K cm L H d v → Rep K cm L' H' d v
  | _, _, .non => .non
  | _, _, .bl b => .bl b
  | _, _, .int i => .int i
  | _, _, .str x => .str x
  | _, _, .ty n => .ty n
  | _, _, .cls h => .cls h
  | _, _, .tup h r => .tup (e.tup _ _ h) (Reps.monoW e r)
  | _, _, .ro h r => .ro (e.rol _ _ h) (Reps.monoW e r)
  | _, _, .ref h => .ref (e.ix h)
theorem Reps.monoW (e : ExtW K L H L' H') : ∀ {ds : List D} {vs : List V}, Reps K cm L H ds vs → Reps K cm L' H' ds vs
  | _, _, .nil => .nil
  | _, _, .cons r t => .cons (Rep.monoW e r) (Reps.monoW e t)
end
theorem RepK.monoW (e : ExtW K L H L' H') : ∀ {ds : List (Key × D)} {vs : List (Key × V)}, RepK K cm L H ds vs → RepK K cm L' H' ds vs
  | _, _, .nil => .nil
  | _, _, .cons r t => .cons (r.monoW e) (RepK.monoW e t)
theorem LocR.monoW {ls : List (Option D)} (e : ExtW K L H L' H') (h : LocR K cm L H ls σ) : LocR K cm L' H' ls σ :=
  ⟨h.1, fun i d q => let ⟨v, a, r⟩ := h.2 i d q; ⟨v, a, r.monoW e⟩⟩
mutual
theorem Rep.mono (e : Ext K L H L' H') : ∀ {d : D} {v : V}, Rep K cm L H d v → Rep K cm L' H' d v
  | _, _, .non => .non
  | _, _, .bl b => .bl b
  | _, _, .int i => .int i
  | _, _, .str x => .str x
  | _, _, .ty n => .ty n
  | _, _, .cls h => .cls h
  | _, _, .tup h r => .tup (e.tup _ _ h) (Reps.mono e r)
  | _, _, .ro h r => .ro (e.rol _ _ h) (Reps.mono e r)
  | _, _, .ref h => .ref (e.ix h)
theorem Reps.mono (e : Ext K L H L' H') : ∀ {ds : List D} {vs : List V}, Reps K cm L H ds vs → Reps K cm L' H' ds vs
  | _, _, .nil => .nil
  | _, _, .cons r t => .cons (Rep.mono e r) (Reps.mono e t)
end
theorem RepK.mono (e : Ext K L H L' H') : ∀ {ds : List (Key × D)} {vs : List (Key × V)}, RepK K cm L H ds vs → RepK K cm L' H' ds vs
  | _, _, .nil => .nil
  | _, _, .cons r t => .cons (r.mono e) (RepK.mono e t)
theorem LocR.mono {ls : List (Option D)} (e : Ext K L H L' H') (h : LocR K cm L H ls σ) : LocR K cm L' H' ls σ :=
  ⟨h.1, fun i d q => let ⟨v, a, r⟩ := h.2 i d q; ⟨v, a, r.mono e⟩⟩
theorem Reps.length : ∀ {ds : List D} {vs : List V}, Reps K cm L H ds vs → ds.length = vs.length
  | _, _, .nil => rfl
  | _, _, .cons _ t => by rw [List.length_cons, List.length_cons, Reps.length t]
theorem Reps.get : ∀ {ds : List D} {vs : List V} {i : Nat} {d : D}, Reps K cm L H ds vs → ds[i]? = some d → ∃ v, vs[i]? = some v ∧ Rep K cm L H d v
  | _, _, _, _, .nil, q => by simp at q
  | _, _, 0, _, .cons r _, q => by simp at q; subst q; exact ⟨_, rfl, r⟩
  | _, _, i + 1, _, .cons _ t, q => by
    obtain ⟨v, a, r⟩ := Reps.get (i := i) t (by simpa using q)
    exact ⟨v, by simpa using a, r⟩
theorem Reps.back : ∀ {ds : List D} {vs : List V} {i : Nat} {v : V}, Reps K cm L H ds vs → vs[i]? = some v → ∃ d, ds[i]? = some d ∧ Rep K cm L H d v
  | _, _, _, _, .nil, q => by simp at q
  | _, _, 0, _, .cons r _, q => by simp at q; subst q; exact ⟨_, rfl, r⟩
  | _, _, i + 1, _, .cons _ t, q => by
    obtain ⟨v, a, r⟩ := Reps.back (i := i) t (by simpa using q)
    exact ⟨v, by simpa using a, r⟩
theorem Reps.append : ∀ {ds es : List D} {vs ws : List V}, Reps K cm L H ds vs → Reps K cm L H es ws → Reps K cm L H (ds ++ es) (vs ++ ws)
  | _, _, _, _, .nil, q => q
  | _, _, _, _, .cons r t, q => .cons r (Reps.append t q)
theorem Reps.take : ∀ {ds : List D} {vs : List V} (n : Nat), Reps K cm L H ds vs → Reps K cm L H (ds.take n) (vs.take n)
  | _, _, 0, _ => .nil
  | _, _, _ + 1, .nil => .nil
  | _, _, n + 1, .cons r t => .cons r (Reps.take n t)
theorem Reps.drop : ∀ {ds : List D} {vs : List V} (n : Nat), Reps K cm L H ds vs → Reps K cm L H (ds.drop n) (vs.drop n)
  | _, _, 0, r => r
  | _, _, _ + 1, .nil => .nil
  | _, _, n + 1, .cons _ t => Reps.drop n t
theorem Reps.set {d : D} {v : V} (r : Rep K cm L H d v) : ∀ {ds : List D} {vs : List V} (n : Nat), Reps K cm L H ds vs → Reps K cm L H (ds.set n d) (vs.set n v)
  | _, _, _, .nil => .nil
  | _, _, 0, .cons _ t => .cons r t
  | _, _, n + 1, .cons q t => .cons q (Reps.set r n t)
theorem ints_reps : ∀ ns : List Int, Reps K cm L H (ns.map D.int) (ns.map V.int)
  | [] => .nil
  | n :: ns => .cons (.int n) (ints_reps ns)

/-- what is tracked of ours stands in the heap -/
theorem HAb.there {h : List Ob} (x : HAb K cm L H h) {a : Addr} (ha : a ∈ L) : ∃ o, H a = some o := by
  obtain ⟨n, hn, e⟩ := List.getElem_of_mem ha
  have hl : n < h.length := by rw [← x.len]; exact hn
  have q := x.obs n h[n] a (by simp [hl]) (by rw [List.getElem?_eq_getElem hn, e])
  generalize h[n] = ob at q
  cases ob with
  | lst ds => obtain ⟨vs, e, _⟩ := q; exact ⟨_, e⟩
  | dct ds => obtain ⟨vs, e, _⟩ := q; exact ⟨_, e⟩
  | fdct ds => obtain ⟨o, vs, e, _⟩ := q; exact ⟨_, e⟩
theorem HAb.fresh {h : List Ob} (x : HAb K cm L H h) {p : Addr} (hp : H p = none) : p ∉ L := fun q => by
  obtain ⟨o, e⟩ := x.there q
  rw [hp] at e; cases e
/-- an object beside ours -/
theorem Ext.beside {p : Addr} {o : HO} (hp : H p = none) : Ext K L H L (upd H p o) := by
  have k : ∀ a u, H a = some u → upd H p o a = some u := fun a u e => by rw [upd_ne (ne_of_none e hp)]; exact e
  refine ⟨⟨[], by simp, by simp⟩, fun a vs h => ?_, fun a vs h => ?_, fun a u _ e => k a u e, fun a u e => ⟨u, k a u e⟩, fun a q u e => k a _ e⟩
  · rcases h with (h | ⟨q, h⟩) | h
    · exact .inl (.inl (k _ _ h))
    · exact .inl (.inr ⟨q, k _ _ h⟩)
    · exact .inr h
  · rcases h with ⟨q, h⟩ | h
    · exact .inl ⟨q, k _ _ h⟩
    · exact .inr h
theorem ObR.mono {a : Addr} {ob : Ob} (e : Ext K L H L' H') (ha : ∀ o, H a = some o → H' a = some o) (h : ObR K cm L H a ob) : ObR K cm L' H' a ob := by
  cases ob with
  | lst ds => obtain ⟨vs, q, r⟩ := h; exact ⟨vs, ha _ q, r.mono e⟩
  | dct ds => obtain ⟨vs, q, r⟩ := h; exact ⟨vs, ha _ q, r.mono e⟩
  | fdct ds => obtain ⟨o, vs, q, r⟩ := h; exact ⟨o, vs, ha _ q, r.mono e⟩
theorem HAb.beside {h : List Ob} {p : Addr} {o : HO} (x : HAb K cm L H h) (hp : H p = none) : HAb K cm L (upd H p o) h :=
  ⟨x.nd, x.len, fun n ob a e1 e2 => (x.obs n ob a e1 e2).mono (Ext.beside hp) fun u q => by rw [upd_ne (ne_of_none q hp)]; exact q⟩
theorem AbS.beside {p : Addr} {o : HO} (x : AbS K cm L H S σ) (hp : H p = none) : AbS K cm L (upd H p o) S σ := ⟨x.hp.beside hp, x.loc.mono (Ext.beside hp)⟩
/-- a new object of ours -/
theorem Ext.new {p : Addr} {o : HO} (hp : H p = none) : Ext K L H (L ++ [p]) (upd H p o) := by
  have b : Ext K L H L (upd H p o) := Ext.beside hp
  exact ⟨⟨[p], rfl, fun a ha => by rw [List.mem_singleton.mp ha]; exact hp⟩, b.tup, b.rol, b.oth, b.thr, b.frz⟩
theorem HAb.new {h : List Ob} {p : Addr} {o : HO} {ob : Ob} (x : HAb K cm L H h) (hp : H p = none) (r : ObR K cm (L ++ [p]) (upd H p o) p ob) : HAb K cm (L ++ [p]) (upd H p o) (h ++ [ob]) := by
  have np := x.fresh hp
  refine ⟨?_, by rw [List.length_append, List.length_append, x.len]; rfl, fun n ob' a e1 e2 => ?_⟩
  · rw [List.nodup_append]
    exact ⟨x.nd, by simp, fun a ha b hb => by rw [List.mem_singleton.mp hb]; exact fun z => np (z ▸ ha)⟩
  · by_cases hn : n < h.length
    · rw [List.getElem?_append_left hn] at e1
      rw [List.getElem?_append_left (by rw [x.len]; exact hn)] at e2
      exact (x.obs n ob' a e1 e2).mono (Ext.new hp) fun u q => by rw [upd_ne (ne_of_none q hp)]; exact q
    · rw [List.getElem?_append_right (Nat.le_of_not_lt hn)] at e1
      rw [List.getElem?_append_right (by rw [x.len]; exact Nat.le_of_not_lt hn)] at e2
      have e0 : n - h.length = 0 := by
        cases z : n - h.length with
        | zero => rfl
        | succ m => rw [z] at e1; simp at e1
      rw [x.len, e0] at e2
      rw [e0] at e1
      simp at e1 e2
      subst e1; subst e2
      exact r
theorem AbS.new {p : Addr} {o : HO} {ob : Ob} (x : AbS K cm L H S σ) (hp : H p = none) (r : ObR K cm (L ++ [p]) (upd H p o) p ob) : AbS K cm (L ++ [p]) (upd H p o) { S with h := S.h ++ [ob] } σ :=
  ⟨x.hp.new hp r, x.loc.mono (Ext.new hp)⟩
theorem HAb.newIx {h : List Ob} (x : HAb K cm L H h) {p : Addr} : (L ++ [p])[h.length]? = some p := by
  rw [← x.len, List.getElem?_append_right (Nat.le_refl _)]; simp
theorem ObR.monoW {a : Addr} {ob : Ob} (e : ExtW K L H L' H') (ha : ∀ o, H a = some o → H' a = some o) (h : ObR K cm L H a ob) : ObR K cm L' H' a ob := by
  cases ob with
  | lst ds => obtain ⟨vs, q, r⟩ := h; exact ⟨vs, ha _ q, r.monoW e⟩
  | dct ds => obtain ⟨vs, q, r⟩ := h; exact ⟨vs, ha _ q, r.monoW e⟩
  | fdct ds => obtain ⟨o, vs, q, r⟩ := h; exact ⟨o, vs, ha _ q, r.monoW e⟩
/-- what we write on -/
def Wr (H : Hp) (a : Addr) : Prop := (∃ vs, H a = some (.lst vs)) ∨ ∃ vs, H a = some (.dK vs)
theorem Ext.put {h : List Ob} {n : Nat} {a : Addr} {o : HO} (x : HAb K cm L H h) (ha : L[n]? = some a) (hw : Wr H a) : Ext K L H L (upd H a o) := by
  have hm := List.mem_of_getElem? ha
  have k : ∀ b u, H b = some u → (∀ vs, u ≠ .lst vs) → (∀ vs, u ≠ .dK vs) → upd H a o b = some u := fun b u e h1 h2 => by
    by_cases z : b = a
    · subst z
      rcases hw with ⟨vs, q⟩ | ⟨vs, q⟩
      · rw [q] at e; cases e; exact absurd rfl (h1 vs)
      · rw [q] at e; cases e; exact absurd rfl (h2 vs)
    · rw [upd_ne z]; exact e
  refine ⟨⟨[], by simp, by simp⟩, fun b vs h => ?_, fun b vs h => ?_, fun b u nb e => ?_, fun b u e => ?_, fun b q u e => k _ _ e (fun _ z => nomatch z) fun _ z => nomatch z⟩
  · rcases h with (h | ⟨q, h⟩) | h
    · exact .inl (.inl (k _ _ h (fun _ z => nomatch z) fun _ z => nomatch z))
    · exact .inl (.inr ⟨q, k _ _ h (fun _ z => nomatch z) fun _ z => nomatch z⟩)
    · exact .inr h
  · rcases h with ⟨q, h⟩ | h
    · exact .inl ⟨q, k _ _ h (fun _ z => nomatch z) fun _ z => nomatch z⟩
    · exact .inr h
  · rw [upd_ne (fun z : b = a => nb (by rw [z]; exact hm))]; exact e
  · by_cases z : b = a
    · subst z; exact ⟨o, upd_same⟩
    · rw [upd_ne z]; exact ⟨u, e⟩
theorem HAb.put {h : List Ob} {n : Nat} {a : Addr} {o : HO} {ob : Ob} (x : HAb K cm L H h) (ha : L[n]? = some a) (hw : Wr H a) (r : ObR K cm L (upd H a o) a ob) : HAb K cm L (upd H a o) (h.set n ob) := by
  refine ⟨x.nd, by rw [List.length_set]; exact x.len, fun m ob' b e1 e2 => ?_⟩
  by_cases hm : m = n
  · subst hm
    have hl : m < h.length := by rw [← x.len]; exact (List.getElem?_eq_some_iff.mp ha).1
    rw [List.getElem?_set_self hl] at e1
    rw [ha] at e2
    cases e1; cases e2
    exact r
  · rw [List.getElem?_set_ne (Ne.symm hm)] at e1
    have nb : b ≠ a := fun z => by
      subst z
      obtain ⟨h1, q1⟩ := List.getElem?_eq_some_iff.mp e2
      obtain ⟨h2, q2⟩ := List.getElem?_eq_some_iff.mp ha
      exact hm ((List.getElem_inj x.nd).mp (q1.trans q2.symm))
    exact (x.obs m ob' b e1 e2).mono (Ext.put x ha hw) fun u q => by rw [upd_ne nb]; exact q
theorem AbS.put {n : Nat} {a : Addr} {o : HO} {ob : Ob} (x : AbS K cm L H S σ) (ha : L[n]? = some a) (hw : Wr H a) (r : ObR K cm L (upd H a o) a ob) : AbS K cm L (upd H a o) { S with h := S.h.set n ob } σ :=
  ⟨x.hp.put ha hw r, x.loc.mono (Ext.put x.hp ha hw)⟩
/-- an object beside ours becomes ours -/
theorem ExtW.adopt {p : Addr} {o : HO} (hw : Wr H p) : ExtW K L H (L ++ [p]) (upd H p o) := by
  have k : ∀ b u, H b = some u → (∀ vs, u ≠ .lst vs) → (∀ vs, u ≠ .dK vs) → upd H p o b = some u := fun b u e h1 h2 => by
    by_cases z : b = p
    · subst z
      rcases hw with ⟨vs, q⟩ | ⟨vs, q⟩
      · rw [q] at e; cases e; exact absurd rfl (h1 vs)
      · rw [q] at e; cases e; exact absurd rfl (h2 vs)
    · rw [upd_ne z]; exact e
  refine ⟨⟨[p], rfl⟩, fun b vs h => ?_, fun b vs h => ?_⟩
  · rcases h with (h | ⟨q, h⟩) | h
    · exact .inl (.inl (k _ _ h (fun _ z => nomatch z) fun _ z => nomatch z))
    · exact .inl (.inr ⟨q, k _ _ h (fun _ z => nomatch z) fun _ z => nomatch z⟩)
    · exact .inr h
  · rcases h with ⟨q, h⟩ | h
    · exact .inl ⟨q, k _ _ h (fun _ z => nomatch z) fun _ z => nomatch z⟩
    · exact .inr h
theorem HAb.adopt {h : List Ob} {p : Addr} {o : HO} {ob : Ob} (x : HAb K cm L H h) (np : p ∉ L) (hw : Wr H p) (r : ObR K cm (L ++ [p]) (upd H p o) p ob) : HAb K cm (L ++ [p]) (upd H p o) (h ++ [ob]) := by
  refine ⟨?_, by rw [List.length_append, List.length_append, x.len]; rfl, fun n ob' a e1 e2 => ?_⟩
  · rw [List.nodup_append]
    exact ⟨x.nd, by simp, fun a ha b hb => by rw [List.mem_singleton.mp hb]; exact fun z => np (z ▸ ha)⟩
  · by_cases hn : n < h.length
    · rw [List.getElem?_append_left hn] at e1
      rw [List.getElem?_append_left (by rw [x.len]; exact hn)] at e2
      have na : a ≠ p := fun z => np (z ▸ List.mem_of_getElem? e2)
      exact (x.obs n ob' a e1 e2).monoW (ExtW.adopt hw) fun u q => by rw [upd_ne na]; exact q
    · rw [List.getElem?_append_right (Nat.le_of_not_lt hn)] at e1
      rw [List.getElem?_append_right (by rw [x.len]; exact Nat.le_of_not_lt hn)] at e2
      have e0 : n - h.length = 0 := by
        cases z : n - h.length with
        | zero => rfl
        | succ m => rw [z] at e1; simp at e1
      rw [x.len, e0] at e2
      rw [e0] at e1
      simp at e1 e2
      subst e1; subst e2
      exact r
theorem Ext.adopt {p : Addr} {o1 o2 : HO} (hp : H p = none) (pf : p ∉ L) (e : Ext K L (upd H p o1) L1 H1) (hw : Wr (upd H p o1) p) : p ∉ L1 ∧ H1 p = some o1 ∧ Wr H1 p ∧ Ext K L H (L1 ++ [p]) (upd H1 p o2) := by
  obtain ⟨M, e1, nM⟩ := e.pre
  have h1 : H1 p = some o1 := e.oth p o1 pf upd_same
  have np : p ∉ L1 := fun q => by
    rw [e1] at q
    rcases List.mem_append.mp q with q | q
    · exact pf q
    · have z := nM p q
      rw [upd_same] at z; cases z
  have w1 : Wr H1 p := by
    rcases hw with ⟨vs, q⟩ | ⟨vs, q⟩
    · rw [upd_same] at q; cases q; exact .inl ⟨vs, h1⟩
    · rw [upd_same] at q; cases q; exact .inr ⟨vs, h1⟩
  have b : Ext K L H L (upd H p o1) := Ext.beside hp
  have aw : ExtW K L1 H1 (L1 ++ [p]) (upd H1 p o2) := ExtW.adopt w1
  have be := b.trans e
  refine ⟨np, h1, w1, ⟨M ++ [p], by rw [e1, List.append_assoc], fun a ha => ?_⟩, fun a vs h => aw.tup a vs (be.tup a vs h), fun a vs h => aw.rol a vs (be.rol a vs h), fun a o na h => ?_, fun a o h => ?_, fun a q u h => ?_⟩
  · rcases List.mem_append.mp ha with z | z
    · have q := nM a z
      by_cases ap : a = p
      · rw [ap]; exact hp
      · rw [upd_ne ap] at q; exact q
    · rw [List.mem_singleton.mp z]; exact hp
  · have ap : a ≠ p := fun z => by rw [z, hp] at h; cases h
    rw [upd_ne ap]; exact be.oth a o na h
  · have ap : a ≠ p := fun z => by rw [z, hp] at h; cases h
    rw [upd_ne ap]; exact be.thr a o h
  · have ap : a ≠ p := fun z => by rw [z, hp] at h; cases h
    rw [upd_ne ap]; exact be.frz a q u h
/-- an object of ours read -/
theorem AbS.lst {n : Nat} {v : V} {ds : List D} (x : AbS K cm L H S σ) (r : Rep K cm L H (.ref n) v) (h : S.h[n]? = some (.lst ds)) : ∃ a vs, v = .ref a ∧ L[n]? = some a ∧ H a = some (.lst vs) ∧ Reps K cm L H ds vs := by
  cases r with
  | ref ha =>
    obtain ⟨vs, q, r⟩ := x.hp.obs n _ _ h ha
    exact ⟨_, vs, rfl, ha, q, r⟩
theorem AbS.dct {n : Nat} {v : V} {ds : List (Key × D)} (x : AbS K cm L H S σ) (r : Rep K cm L H (.ref n) v) (h : S.h[n]? = some (.dct ds)) : ∃ a vs, v = .ref a ∧ L[n]? = some a ∧ H a = some (.dK vs) ∧ RepK K cm L H ds vs := by
  cases r with
  | ref ha =>
    obtain ⟨vs, q, r⟩ := x.hp.obs n _ _ h ha
    exact ⟨_, vs, rfl, ha, q, r⟩
end

/-! ### 3. readings: a plain function in place of a reading -/
section
variable (K : PySem.W.Frag) (cm : Str → Value) (W : WX)
/-- what is wanted behind a plain result -/
def Aft {α β : Type} (R : List Addr → Hp → α → β → Prop) (L : List Addr) (σ : St) (H : Hp) (r : Res α) (Q : β → Hp → Prop) : Prop := match r with
  | .ok d S' => ∀ L' H' v, Ext K L H L' H' → AbS K cm L' H' S' σ → R L' H' d v → Q v H'
  | .exc e S' => ∀ L' H' c dx, Ext K L H L' H' → AbS K cm L' H' S' σ → XnR K cm L' H' e c dx → W c dx σ H'
  | .stuck => False
def rd {α β : Type} (R : List Addr → Hp → α → β → Prop) (f : DS → Res α) : St → Hp → (β → Hp → Prop) → Prop := fun σ H Q =>
  ∃ L S, AbS K cm L H S σ ∧ Aft K cm W R L σ H (f S) Q
abbrev rdE (f : DE) : TE := rd K cm W (Rep K cm) f
abbrev rdT (f : DT) : TT := rd K cm W (fun _ _ (b c : Bool) => b = c) f
abbrev rdA (f : DA) : TA := rd K cm W (Reps K cm) f
abbrev rdO (f : DS → Res (Option Int)) : TO := rd K cm W (fun _ _ (b c : Option Int) => b = c) f
/-- a statement's -/
def AftS (L : List Addr) (H : Hp) (r : Res Fl) (E : Ends) : Prop := match r with
  | .ok .next S' => ∀ L' H' σ', Ext K L H L' H' → AbS K cm L' H' S' σ' → E.nx σ' H'
  | .ok .brk S' => ∀ L' H' σ', Ext K L H L' H' → AbS K cm L' H' S' σ' → E.bk σ' H'
  | .ok .cont S' => ∀ L' H' σ', Ext K L H L' H' → AbS K cm L' H' S' σ' → E.ct σ' H'
  | .ok (.ret d) S' => ∀ L' H' σ' v, Ext K L H L' H' → AbS K cm L' H' S' σ' → Rep K cm L' H' d v → E.rt v H'
  | .exc e S' => ∀ L' H' σ' c dx, Ext K L H L' H' → AbS K cm L' H' S' σ' → XnR K cm L' H' e c dx → W c dx σ' H'
  | .stuck => False
def rdS (f : DSt) : TS := fun E σ H => ∃ L S, AbS K cm L H S σ ∧ AftS K cm W L H (f S) E
end
section
variable {K : PySem.W.Frag} {cm : Str → Value} {W : WX} {L L1 : List Addr} {H H1 : Hp} {S : DS} {σ : St} {α β γ δ : Type} {R : List Addr → Hp → α → β → Prop} {R' : List Addr → Hp → γ → δ → Prop}
theorem Aft.ext {r : Res α} {Q : β → Hp → Prop} (e : Ext K L H L1 H1) (h : Aft K cm W R L σ H r Q) : Aft K cm W R L1 σ H1 r Q := by
  cases r with
  | ok d S' => exact fun L' H' v x y z => h L' H' v (e.trans x) y z
  | exc u S' => exact fun L' H' c dx x y z => h L' H' c dx (e.trans x) y z
  | stuck => exact h
/-- THE STEP: first r, then k -/
theorem Aft.step {r : Res α} {k : α → DS → Res γ} {Q : δ → Hp → Prop} (h : Aft K cm W R' L σ H (r.bind k) Q) :
    Aft K cm W R L σ H r (fun v H1 => ∃ L1 S1 d, Ext K L H L1 H1 ∧ AbS K cm L1 H1 S1 σ ∧ R L1 H1 d v ∧ Aft K cm W R' L1 σ H1 (k d S1) Q) := by
  cases r with
  | ok d S' => exact fun L' H' v x y z => ⟨L', S', d, x, y, z, Aft.ext x h⟩
  | exc u S' => exact h
  | stuck => exact h
theorem Aft.mono {r : Res α} {Q Q' : β → Hp → Prop} (h : Aft K cm W R L σ H r Q) (q : ∀ v H', Q v H' → Q' v H') : Aft K cm W R L σ H r Q' := by
  cases r with
  | ok d S' => exact fun L' H' v x y z => q _ _ (h L' H' v x y z)
  | exc u S' => exact h
  | stuck => exact h
/-- behind a value that is there -/
theorem Aft.give {d : α} {v : β} {Q : β → Hp → Prop} (h : Aft K cm W R L σ H (.ok d S) Q) (x : AbS K cm L H S σ) (r : R L H d v) : Q v H := h L H v Ext.refl x r
theorem Aft.giveE {d : α} {v : β} {Q : β → Hp → Prop} (h : Aft K cm W R L σ H (.ok d S) Q) (e : Ext K L H L1 H1) (x : AbS K cm L1 H1 S σ) (r : R L1 H1 d v) : Q v H1 := h L1 H1 v e x r
theorem AftS.ext {r : Res Fl} {E : Ends} (e : Ext K L H L1 H1) (h : AftS K cm W L H r E) : AftS K cm W L1 H1 r E := by
  cases r with
  | ok d S' =>
    cases d with
    | next => exact fun L' H' s x y => h L' H' s (e.trans x) y
    | brk => exact fun L' H' s x y => h L' H' s (e.trans x) y
    | cont => exact fun L' H' s x y => h L' H' s (e.trans x) y
    | ret d => exact fun L' H' s v x y z => h L' H' s v (e.trans x) y z
  | exc u S' => exact fun L' H' s c dx x y z => h L' H' s c dx (e.trans x) y z
  | stuck => exact h
theorem AftS.step {r : Res α} {k : α → DS → Res Fl} {E : Ends} (h : AftS K cm W L H (r.bind k) E) :
    Aft K cm W R L σ H r (fun v H1 => ∃ L1 S1 d, Ext K L H L1 H1 ∧ AbS K cm L1 H1 S1 σ ∧ R L1 H1 d v ∧ AftS K cm W L1 H1 (k d S1) E) := by
  cases r with
  | ok d S' => exact fun L' H' v x y z => ⟨L', S', d, x, y, z, AftS.ext x h⟩
  | exc u S' => exact fun L' H' c dx x y z => h L' H' σ c dx x y z
  | stuck => exact h
end
theorem weakE {X : Cx} {e : Expr} {t t' : TE} (h : PE X e t) (w : ∀ σ H Q, t' σ H Q → t σ H Q) : PE X e t' := ⟨fun pins s σ H Q I q => h.run pins s σ H Q I (w _ _ _ q)⟩
theorem weakT {X : Cx} {e : Expr} {t t' : TT} (h : PT X e t) (w : ∀ σ H Q, t' σ H Q → t σ H Q) : PT X e t' := ⟨fun pins s σ H Q I q => h.run pins s σ H Q I (w _ _ _ q)⟩
theorem weakW {X : Cx} {e : Expr} {t t' : TT} (h : PW X e t) (w : ∀ σ H Q, t' σ H Q → t σ H Q) : PW X e t' := ⟨fun wh pins s σ H Q I q => h.run wh pins s σ H Q I (w _ _ _ q)⟩
theorem weakA {X : Cx} {e : List Expr} {t t' : TA} (h : PA X e t) (w : ∀ σ H Q, t' σ H Q → t σ H Q) : PA X e t' := ⟨fun pos pins s σ H Q I q => h.run pos pins s σ H Q I (w _ _ _ q)⟩
theorem weakS {X : Cx} {e : Stmt} {t t' : TS} (h : PS X e t) (w : ∀ σ H Q, t' σ H Q → t σ H Q) : PS X e t' := ⟨fun pins s σ H Q I q => h.run pins s σ H Q I (w _ _ _ q)⟩
theorem weakSs {X : Cx} {e : List Stmt} {t t' : TS} (h : PSs X e t) (w : ∀ σ H Q, t' σ H Q → t σ H Q) : PSs X e t' := ⟨fun pins s σ H Q I q => h.run pins s σ H Q I (w _ _ _ q)⟩
end Den

namespace Den
open PySem L2

/-! ### 4. operators on plain values -/
def mxL : Nat := 1000000
theorem mx_line {n : Nat} (h : n ≤ mxL) : n ≤ sizeLine := Nat.le_trans h (by rw [sizeLine_eq]; decide)
theorem mx_lt {n : Nat} (h : n < mxL) : n < sizeLine := Nat.lt_of_lt_of_le h (by rw [sizeLine_eq]; decide)
def newO (ob : Ob) (S : DS) : Res D := .ok (.ref S.h.length) { S with h := S.h ++ [ob] }
def oAdd : D → D → DS → Res D := fun x y S => match x, y with
  | .int i, .int j => .ok (.int (i + j)) S
  | .str a, .str b => if a.length + b.length ≤ mxL then .ok (.str (a ++ b)) S else .stuck
  | .tup a, .tup b => if a.length + b.length ≤ mxL then .ok (.tup (a ++ b)) S else .stuck
  | .ref n, .ref m => match S.h[n]?, S.h[m]? with
    | some (.lst a), some (.lst b) => if a.length + b.length ≤ mxL then newO (.lst (a ++ b)) S else .stuck
    | _, _ => .stuck
  | _, _ => .stuck
def oSub : D → D → DS → Res D := fun x y S => match x, y with
  | .int i, .int j => .ok (.int (i - j)) S
  | _, _ => .stuck
def oMul : D → D → DS → Res D := fun x y S => match x, y with
  | .int i, .int j => if (-(2 ^ 64) < i ∧ i < 2 ^ 64) ∨ (-(2 ^ 64) < j ∧ j < 2 ^ 64) then .ok (.int (i * j)) S else .stuck
  | _, _ => .stuck
def oMod : D → D → DS → Res D := fun x y S => match x, y with
  | .int i, .int j => if 0 < j then .ok (.int (i % j)) S else .stuck
  | _, _ => .stuck
def oDiv : D → D → DS → Res D := fun x y S => match x, y with
  | .int i, .int j => if 0 < j ∧ j < 1073741824 then .ok (.int (i / j)) S else .stuck
  | _, _ => .stuck
def oPow : D → D → DS → Res D := fun x y S => match x, y with
  | .int i, .int j => if 0 ≤ j ∧ j ≤ 1000 ∧ i.natAbs < 2 ^ 64 then .ok (.int (i ^ j.toNat)) S else .stuck
  | _, _ => .stuck
def oLt : D → D → DS → Res D := fun x y S => match x, y with
  | .int i, .int j => .ok (.bl (decide (i < j))) S
  | _, _ => .stuck
def oLe : D → D → DS → Res D := fun x y S => match x, y with
  | .int i, .int j => .ok (.bl (decide (i ≤ j))) S
  | _, _ => .stuck
def oGt : D → D → DS → Res D := fun x y S => match x, y with
  | .int i, .int j => .ok (.bl (decide (j < i))) S
  | _, _ => .stuck
def oGe : D → D → DS → Res D := fun x y S => match x, y with
  | .int i, .int j => .ok (.bl (decide (j ≤ i))) S
  | _, _ => .stuck
def isNon : D → Bool
  | .non => true
  | _ => false
def oIsN : D → D → DS → Res D := fun x y S => match y with
  | .non => .ok (.bl (isNon x)) S
  | _ => .stuck
def oNotN : D → D → DS → Res D := fun x y S => match y with
  | .non => .ok (.bl (!isNon x)) S
  | _ => .stuck

/-- the library's data of a plain value -/
def toPy (h : List Ob) : Nat → D → Option PyData
  | _, .non => some .none
  | _, .bl b => some (.bool b)
  | _, .int i => some (.int i)
  | _, .str x => some (.str x)
  | n + 1, .tup xs => (xs.mapM (toPy h n)).map .tuple
  | n + 1, .ro xs => (xs.mapM (toPy h n)).map .list
  | n + 1, .ref k => match h[k]? with
    | some (.lst xs) => (xs.mapM (toPy h n)).map .list
    | _ => none
  | _, _ => none
def pyD (S : DS) (d : D) : Option PyData := toPy S.h 20 d
def oEq : D → D → DS → Res D := fun x y S => match pyD S x, pyD S y with
  | some p, some q => if SeqAt.shaped p && SeqAt.shaped q then .ok (.bl (PyData.eqv p q)) S else .stuck
  | _, _ => .stuck
def oNe : D → D → DS → Res D := fun x y S => match pyD S x, pyD S y with
  | some p, some q => if SeqAt.shaped p && SeqAt.shaped q then .ok (.bl (!PyData.eqv p q)) S else .stuck
  | _, _ => .stuck
def keyOf : D → Option Key
  | .int i => some (.inl i)
  | .str x => some (.inr x)
  | _ => none
def valD (kvs : List (Key × D)) (k : Key) : Option D := (kvs.find? fun p => decide (p.1 = k)).map fun p => p.2
def hasD (kvs : List (Key × D)) (k : Key) : Bool := kvs.any fun p => decide (p.1 = k)
def putD (kvs : List (Key × D)) (k : Key) (d : D) : List (Key × D) := if hasD kvs k = true then kvs.map (fun p => if p.1 = k then (p.1, d) else p) else kvs ++ [(k, d)]

section
variable (X : Cx) (cm : Str → Value) (W : WX)
def ROp (r : R2) (f : D → D → DS → Res D) : Prop := ∀ {L : List Addr} {H : Hp} {S : DS} {σ : St} {x y : V} {d e : D} {Q : VK}, AbS X.K cm L H S σ → Rep X.K cm L H d x → Rep X.K cm L H e y →
  Aft X.K cm W (Rep X.K cm) L σ H (f d e S) Q → r x y H Q
end
def dBin (f : D → D → DS → Res D) (a b : DE) : DE := fun S => (a S).bind fun x S1 => (b S1).bind fun y S2 => f x y S2
section
variable {X : Cx} {cm : Str → Value} {W : WX}
theorem rd_bin {r : R2} {f : D → D → DS → Res D} {fa fb : DE} (h : ROp X cm W r f) {σ : St} {H : Hp} {Q : VK} (q : rdE X.K cm W (dBin f fa fb) σ H Q) : tOp r (rdE X.K cm W fa) (rdE X.K cm W fb) σ H Q := by
  obtain ⟨L, S, x, q⟩ := q
  refine ⟨L, S, x, (Aft.step (R := Rep X.K cm) q).mono fun v H1 z => ?_⟩
  obtain ⟨L1, S1, d, e1, x1, r1, q1⟩ := z
  refine ⟨L1, S1, x1, (Aft.step (R := Rep X.K cm) q1).mono fun u H2 z => ?_⟩
  obtain ⟨L2, S2, d2, e2, x2, r2, q2⟩ := z
  exact h x2 (r1.mono e2) r2 q2

theorem rop_int {g : Int → Int → V} {g' : Int → Int → D} (hg : ∀ L H i j, Rep X.K cm L H (g' i j) (g i j)) {f : D → D → DS → Res D}
    (hf : ∀ d e S, (∃ i j, d = .int i ∧ e = .int j ∧ f d e S = .ok (g' i j) S) ∨ f d e S = .stuck) : ROp X cm W (rI0 g) f := by
  intro L H S σ x y d e Q a r1 r2 q
  rcases hf d e S with ⟨i, j, rfl, rfl, h⟩ | h
  · rw [h] at q
    cases r1; cases r2
    exact ⟨i, j, rfl, rfl, q.give a (hg ..)⟩
  · rw [h] at q
    exact q.elim
theorem rop_intC {C : Int → Int → Prop} {g : Int → Int → V} {g' : Int → Int → D} (hg : ∀ L H i j, Rep X.K cm L H (g' i j) (g i j)) {f : D → D → DS → Res D}
    (hf : ∀ d e S, (∃ i j, d = .int i ∧ e = .int j ∧ C i j ∧ f d e S = .ok (g' i j) S) ∨ f d e S = .stuck) : ROp X cm W (rI C g) f := by
  intro L H S σ x y d e Q a r1 r2 q
  rcases hf d e S with ⟨i, j, rfl, rfl, hc, h⟩ | h
  · rw [h] at q
    cases r1; cases r2
    exact ⟨i, j, rfl, rfl, hc, q.give a (hg ..)⟩
  · rw [h] at q
    exact q.elim
theorem ro_lt : ROp X cm W (rI0 fun i j => .bl (decide (i < j))) oLt := rop_int (g' := fun i j => .bl (decide (i < j))) (fun _ _ _ _ => .bl _) fun d e S => by
  unfold oLt; split
  · exact .inl ⟨_, _, rfl, rfl, rfl⟩
  · exact .inr rfl
theorem ro_le : ROp X cm W (rI0 fun i j => .bl (decide (i ≤ j))) oLe := rop_int (g' := fun i j => .bl (decide (i ≤ j))) (fun _ _ _ _ => .bl _) fun d e S => by
  unfold oLe; split
  · exact .inl ⟨_, _, rfl, rfl, rfl⟩
  · exact .inr rfl
theorem ro_gt : ROp X cm W (rI0 fun i j => .bl (decide (j < i))) oGt := rop_int (g' := fun i j => .bl (decide (j < i))) (fun _ _ _ _ => .bl _) fun d e S => by
  unfold oGt; split
  · exact .inl ⟨_, _, rfl, rfl, rfl⟩
  · exact .inr rfl
theorem ro_ge : ROp X cm W (rI0 fun i j => .bl (decide (j ≤ i))) oGe := rop_int (g' := fun i j => .bl (decide (j ≤ i))) (fun _ _ _ _ => .bl _) fun d e S => by
  unfold oGe; split
  · exact .inl ⟨_, _, rfl, rfl, rfl⟩
  · exact .inr rfl
theorem ro_sub : ROp X cm W (rI0 fun i j => .int (i - j)) oSub := rop_int (g' := fun i j => .int (i - j)) (fun _ _ _ _ => .int _) fun d e S => by
  unfold oSub; split
  · exact .inl ⟨_, _, rfl, rfl, rfl⟩
  · exact .inr rfl
theorem ro_mul : ROp X cm W (rI CMul fun i j => .int (i * j)) oMul := rop_intC (g' := fun i j => .int (i * j)) (fun _ _ _ _ => .int _) fun d e S => by
  unfold oMul; split
  · split
    · rename_i h; exact .inl ⟨_, _, rfl, rfl, h, rfl⟩
    · exact .inr rfl
  · exact .inr rfl
theorem ro_mod : ROp X cm W (rI (fun _ j => 0 < j) fun i j => .int (i % j)) oMod := rop_intC (g' := fun i j => .int (i % j)) (fun _ _ _ _ => .int _) fun d e S => by
  unfold oMod; split
  · split
    · rename_i h; exact .inl ⟨_, _, rfl, rfl, h, rfl⟩
    · exact .inr rfl
  · exact .inr rfl
theorem ro_div : ROp X cm W (rI CDiv fun i j => .int (i / j)) oDiv := rop_intC (g' := fun i j => .int (i / j)) (fun _ _ _ _ => .int _) fun d e S => by
  unfold oDiv; split
  · split
    · rename_i h; exact .inl ⟨_, _, rfl, rfl, h, rfl⟩
    · exact .inr rfl
  · exact .inr rfl
theorem ro_pow : ROp X cm W (rI CPow fun i j => .int (i ^ j.toNat)) oPow := rop_intC (g' := fun i j => .int (i ^ j.toNat)) (fun _ _ _ _ => .int _) fun d e S => by
  unfold oPow; split
  · split
    · rename_i h; exact .inl ⟨_, _, rfl, rfl, ⟨h.1, Int.le_trans h.2.1 (by decide), h.2.2⟩, rfl⟩
    · exact .inr rfl
  · exact .inr rfl
theorem isNon_iff {K : PySem.W.Frag} {L : List Addr} {H : Hp} {d : D} {v : V} (r : Rep K cm L H d v) : decide (v = .non) = isNon d := by
  cases r <;> simp [isNon]
theorem ro_isN : ROp X cm W (fun x y H Q => y = .non ∧ Q (.bl (decide (x = .non))) H) oIsN := by
  intro L H S σ x y d e Q a r1 r2 q
  unfold oIsN at q
  split at q
  · cases r2
    refine ⟨rfl, ?_⟩
    rw [isNon_iff r1]
    exact q.give a (.bl _)
  · exact q.elim
theorem ro_notN : ROp X cm W (fun x y H Q => y = .non ∧ Q (.bl (!decide (x = .non))) H) oNotN := by
  intro L H S σ x y d e Q a r1 r2 q
  unfold oNotN at q
  split at q
  · cases r2
    refine ⟨rfl, ?_⟩
    rw [isNon_iff r1]
    exact q.give a (.bl _)
  · exact q.elim
/-- a new list of ours -/
theorem give_new {L : List Addr} {H : Hp} {S : DS} {σ : St} {ds : List D} {vs : List V} {Q : VK} (a : AbS X.K cm L H S σ) (r : Reps X.K cm L H ds vs) (q : Aft X.K cm W (Rep X.K cm) L σ H (newO (.lst ds) S) Q) {p : Addr} (hp : H p = none) : Q (.ref p) (upd H p (.lst vs)) :=
  q.giveE (Ext.new hp) (a.new hp ⟨vs, upd_same, r.mono (Ext.new hp)⟩) (.ref a.hp.newIx)
theorem ro_add : ROp X cm W (fun x y H Q => (rI0 (fun i j => .int (i + j)) x y H Q ∨ (∃ i j, x = .str i ∧ y = .str j ∧ i.length + j.length ≤ sizeLine ∧ Q (.str (i ++ j)) H)) ∨ (rCatA X.K x y H Q ∨ rCat x y H Q)) oAdd := by
  intro L H S σ x y d e Q a r1 r2 q
  unfold oAdd at q
  split at q
  · cases r1; cases r2
    exact .inl (.inl ⟨_, _, rfl, rfl, q.give a (.int _)⟩)
  · split at q
    · rename_i h
      cases r1; cases r2
      exact .inl (.inr ⟨_, _, rfl, rfl, mx_line h, q.give a (.str _)⟩)
    · exact q.elim
  · split at q
    · rename_i h
      cases r1 with
      | tup h1 r1 =>
        cases r2 with
        | tup h2 r2 =>
          have rr := r1.append r2
          refine .inr (.inl ⟨_, _, _, _, rfl, rfl, h1, h2, mx_line (by rw [← r1.length, ← r2.length]; exact h), fun z => ?_, fun z1 z2 => ?_, fun _ _ p hp => ?_⟩)
          · subst z
            cases r1
            exact q.give a (.tup h2 r2)
          · subst z2
            cases r2
            rw [List.append_nil] at q
            exact q.give a (.tup h1 r1)
          · exact q.giveE (Ext.beside hp) (a.beside hp) (.tup (.inl (.inl upd_same)) (rr.mono (Ext.beside hp)))
    · exact q.elim
  · split at q
    · rename_i h1 h2
      split at q
      · rename_i h
        obtain ⟨p1, vs1, rfl, g1, e1, q1⟩ := a.lst r1 h1
        obtain ⟨p2, vs2, rfl, g2, e2, q2⟩ := a.lst r2 h2
        exact .inr (.inr ⟨_, _, _, _, rfl, rfl, e1, e2, mx_line (by rw [← q1.length, ← q2.length]; exact h), fun p hp => give_new a (q1.append q2) q hp⟩)
      · exact q.elim
    · exact q.elim
  · exact q.elim

/-! ### 5. data of any depth -/
theorem mapM_nil' {α β : Type} {f : α → Option β} : [].mapM f = some [] := rfl
theorem mapM_some {α β : Type} {f : α → Option β} {x : α} {xs : List α} {ys : List β} (h : (x :: xs).mapM f = some ys) : ∃ y r, f x = some y ∧ xs.mapM f = some r ∧ ys = y :: r := by
  rw [List.mapM_cons] at h
  cases e1 : f x with
  | none => rw [e1] at h; cases h
  | some y =>
    rw [e1] at h
    cases e2 : xs.mapM f with
    | none => simp [e2] at h
    | some r =>
      simp [e2] at h
      exact ⟨y, r, rfl, rfl, h.symm⟩
theorem SqR.sq {K : PySem.W.Frag} {H : Hp} {a : Addr} {xs : List V} (h : SqR K H a xs) : SqL K H a xs := by
  rcases h with ⟨o, h⟩ | h
  · exact .inl (.inr ⟨o, h⟩)
  · exact .inr h
theorem toPys_rep {K : PySem.W.Frag} {L : List Addr} {H : Hp} {f : D → Option PyData} (hf : ∀ d v p, Rep K cm L H d v → f d = some p → Dp K H v p) :
    ∀ {ds : List D} {vs : List V} {ps : List PyData}, Reps K cm L H ds vs → ds.mapM f = some ps → DpAll K H vs ps
  | _, _, _, .nil, h => by
    rw [mapM_nil'] at h; cases h; exact .nil
  | _, _, _, .cons r t, h => by
    obtain ⟨y, q, h1, h2, rfl⟩ := mapM_some h
    exact .cons (hf _ _ _ r h1) (toPys_rep hf t h2)
theorem toPy_rep {K : PySem.W.Frag} {L : List Addr} {H : Hp} {h : List Ob} (a : HAb K cm L H h) : ∀ (n : Nat) (d : D) (v : V) (p : PyData), Rep K cm L H d v → toPy h n d = some p → Dp K H v p := by
  intro n
  induction n with
  | zero =>
    intro d v p r e
    cases r <;> simp [toPy] at e <;> subst e
    · exact .non
    · exact .bl _
    · exact .int _
    · exact .str _
  | succ n ih =>
    intro d v p r e
    cases r with
    | non => simp [toPy] at e; subst e; exact .non
    | bl b => simp [toPy] at e; subst e; exact .bl _
    | int b => simp [toPy] at e; subst e; exact .int _
    | str b => simp [toPy] at e; subst e; exact .str _
    | ty b => simp [toPy] at e
    | cls b => simp [toPy] at e
    | tup hs r =>
      simp only [toPy, Option.map_eq_some_iff] at e
      obtain ⟨ps, e1, rfl⟩ := e
      exact .tup hs (toPys_rep ih r e1)
    | ro hs r =>
      simp only [toPy, Option.map_eq_some_iff] at e
      obtain ⟨ps, e1, rfl⟩ := e
      exact .lst hs.sq (toPys_rep ih r e1)
    | ref hL =>
      simp only [toPy] at e
      split at e
      · rename_i xs hx
        obtain ⟨ps, e1, rfl⟩ := Option.map_eq_some_iff.mp e
        obtain ⟨vs, q, r⟩ := a.obs _ _ _ hx hL
        exact .lst (SqL.of q) (toPys_rep ih r e1)
      · cases e
theorem pyD_rep {L : List Addr} {H : Hp} {S : DS} {σ : St} {K : PySem.W.Frag} (a : AbS K cm L H S σ) {d : D} {v : V} {p : PyData} (r : Rep K cm L H d v) (e : pyD S d = some p) : Dp K H v p := toPy_rep a.hp 20 d v p r e
theorem ro_eq : ROp X cm W (rEqD X.K) oEq := by
  intro L H S σ x y d e Q a r1 r2 q
  unfold oEq at q
  split at q
  · rename_i p1 p2 h1 h2
    split at q
    · rename_i h
      obtain ⟨s1, s2⟩ := Bool.and_eq_true_iff.mp h
      exact ⟨_, _, pyD_rep a r1 h1, pyD_rep a r2 h2, s1, s2, q.give a (.bl _)⟩
    · exact q.elim
  · exact q.elim
theorem ro_ne : ROp X cm W (rNeD X.K) oNe := by
  intro L H S σ x y d e Q a r1 r2 q
  unfold oNe at q
  split at q
  · rename_i p1 p2 h1 h2
    split at q
    · rename_i h
      obtain ⟨s1, s2⟩ := Bool.and_eq_true_iff.mp h
      exact ⟨_, _, pyD_rep a r1 h1, pyD_rep a r2 h2, s1, s2, q.give a (.bl _)⟩
    · exact q.elim
  · exact q.elim

/-! ### 6. expressions -/
def dVar (i : Nat) : DE := fun S => match S.loc[i]? with
  | some (some d) => .ok d S
  | _ => .stuck
def dC (d : D) : DE := fun S => .ok d S
def dNil : DA := fun S => .ok [] S
def dCons (a : DE) (r : DA) : DA := fun S => (a S).bind fun d S1 => (r S1).bind fun ds S2 => .ok (d :: ds) S2
def dTup (a : DA) : DE := fun S => (a S).bind fun ds S1 => if ds.length ≤ mxL then .ok (.tup ds) S1 else .stuck
def dLst (a : DA) : DE := fun S => (a S).bind fun ds S1 => if ds.length ≤ mxL then newO (.lst ds) S1 else .stuck
def toB : D → DS → Res Bool := fun d S => match d with
  | .bl b => .ok b S
  | _ => .stuck
def tV (a : DE) : DT := fun S => (a S).bind toB
def tAndD (a b : DT) : DT := fun S => (a S).bind fun c S1 => if c then b S1 else .ok false S1
def tOrD (a b : DT) : DT := fun S => (a S).bind fun c S1 => if c then .ok true S1 else b S1
def tNotD (a : DT) : DT := fun S => (a S).bind fun c S1 => .ok (!c) S1
def dAnd (a b : DE) : DE := fun S => (a S).bind fun d S1 => (toB d S1).bind fun c S2 => if c then b S2 else .ok (.bl false) S2
def dOr (a b : DE) : DE := fun S => (a S).bind fun d S1 => (toB d S1).bind fun c S2 => if c then .ok (.bl true) S2 else b S2
def dNot (a : DE) : DE := fun S => (a S).bind fun d S1 => (toB d S1).bind fun c S2 => .ok (.bl (!c)) S2
def dIf (t : DT) (a b : DE) : DE := fun S => (t S).bind fun c S1 => if c then a S1 else b S1

variable {e e1 e2 : Expr} {es : List Expr} {pos : Pos} {fa fb : DE} {ga : DA} {ta tb : DT}
theorem e_var (i : Nat) {x : Str} (hN : X.N[i]? = some x := by rfl) (hv : Vis X.env.scope x := by first | exact Or.inl rfl | exact Or.inr (Or.inl rfl) | exact Or.inr (Or.inr rfl)) (hd : (x == ("__debug__" : Str)) = false := by decide)
    (hcd : (x == ("__classdict__" : Str)) = false := by decide) : PE X (.Name x pos) (rdE X.K cm W (dVar i)) := weakE (pe_var hN hv hd hcd) fun σ H Q q => by
  obtain ⟨L, S, a, q⟩ := q
  unfold dVar at q
  split at q
  · rename_i d h
    obtain ⟨v, e, r⟩ := a.loc.2 i d h
    exact ⟨v, e, q.give a r⟩
  · exact q.elim
theorem rd_c {d : D} {v : V} (r : ∀ L H, Rep X.K cm L H d v) {σ : St} {H : Hp} {Q : VK} (q : rdE X.K cm W (dC d) σ H Q) : tC v σ H Q := by
  obtain ⟨L, S, a, q⟩ := q
  exact q.give a (r L H)
theorem e_int {i : Int} {j} : PE X (.Constant (.int i) j pos) (rdE X.K cm W (dC (.int i))) := weakE pe_int fun _ _ _ => rd_c fun _ _ => .int i
theorem e_str {i : Str} {j} : PE X (.Constant (.str i) j pos) (rdE X.K cm W (dC (.str i))) := weakE pe_str fun _ _ _ => rd_c fun _ _ => .str i
theorem e_bl {i : Bool} {j} : PE X (.Constant (.bool i) j pos) (rdE X.K cm W (dC (.bl i))) := weakE pe_bl fun _ _ _ => rd_c fun _ _ => .bl i
theorem e_non {j} : PE X (.Constant .none j pos) (rdE X.K cm W (dC .non)) := weakE pe_non fun _ _ _ => rd_c fun _ _ => .non
/-- a constant of the module -/
theorem e_glob {x : Str} {d : D} {v : V} {u : Value} (hg : Gl X x) (hm : X.mg x = some u) (ru : RelV v u) (r : ∀ L H, Rep X.K cm L H d v) (hd : (x == ("__debug__" : Str)) = false := by decide) : PE X (.Name x pos) (rdE X.K cm W (dC d)) :=
  weakE (pe_glob hg hm ru hd) fun _ _ _ => rd_c r
theorem e_op {op : Operator} {r : R2} {f : D → D → DS → Res D} (ho : OpR X (binaryOp op) r) (h : ROp X cm W r f) (ha : PE X e1 (rdE X.K cm W fa)) (hb : PE X e2 (rdE X.K cm W fb)) : PE X (.BinOp e1 op e2 pos) (rdE X.K cm W (dBin f fa fb)) :=
  weakE (pe_op ho ha hb) fun _ _ _ => rd_bin h
theorem e_cmp {op : CmpOp} {r : R2} {f : D → D → DS → Res D} (ho : OpR X (compareOp op) r) (h : ROp X cm W r f) (hm : behindInMarks op e2 = false) (ha : PE X e1 (rdE X.K cm W fa)) (hb : PE X e2 (rdE X.K cm W fb)) : PE X (.Compare e1 [op] [e2] pos) (rdE X.K cm W (dBin f fa fb)) :=
  weakE (pe_cmpR ho ha hb hm) fun _ _ _ => rd_bin h
theorem rd_test {f : DE} {t : TE} (h : ∀ σ H Q, rdE X.K cm W f σ H Q → t σ H Q) {σ : St} {H : Hp} {Q : Bool → Hp → Prop} (q : rdT X.K cm W (tV f) σ H Q) : tTest t σ H Q := by
  obtain ⟨L, S, a, q⟩ := q
  refine h _ _ _ ⟨L, S, a, (Aft.step (R := Rep X.K cm) q).mono fun v H1 z => ?_⟩
  obtain ⟨L1, S1, d, e1, x1, r1, q1⟩ := z
  unfold toB at q1
  split at q1
  · cases r1
    exact ⟨_, rfl, q1.give x1 rfl⟩
  · exact q1.elim
theorem t_cmp {op : CmpOp} {r : R2} {f : D → D → DS → Res D} (ho : OpR X (compareOp op) r) (h : ROp X cm W r f) (hm : behindInMarks op e2 = false) (ha : PE X e1 (rdE X.K cm W fa)) (hb : PE X e2 (rdE X.K cm W fb)) : PT X (.Compare e1 [op] [e2] pos) (rdT X.K cm W (tV (dBin f fa fb))) :=
  weakT (pt_cmpR ho ha hb hm) fun _ _ _ => rd_test fun _ _ _ => rd_bin h
theorem t_val (he : PE X e (rdE X.K cm W fa)) (hp : ∀ whole, isTrue e X.env whole = (do let v ← whole; standAt e.pos; holding [v] (truthy v)) := by intro _; rfl) : PT X e (rdT X.K cm W (tV fa)) :=
  weakT (pt_val he hp) fun _ _ _ => rd_test (t := rdE X.K cm W fa) fun _ _ _ q => q
theorem w_and1 (h : PT X e (rdT X.K cm W ta)) : PW X (.BoolOp .And [e] pos) (rdT X.K cm W ta) := pw_and1 h
theorem w_or1 (h : PT X e (rdT X.K cm W ta)) : PW X (.BoolOp .Or [e] pos) (rdT X.K cm W ta) := pw_or1 h
theorem w_and (h1 : PT X e1 (rdT X.K cm W ta)) (h2 : PW X (.BoolOp .And (e2 :: es) pos) (rdT X.K cm W tb)) : PW X (.BoolOp .And (e1 :: e2 :: es) pos) (rdT X.K cm W (tAndD ta tb)) := weakW (pw_and h1 h2) fun σ H Q q => by
  obtain ⟨L, S, a, q⟩ := q
  refine ⟨L, S, a, (Aft.step (R := fun _ _ (b c : Bool) => b = c) q).mono fun v H1 z => ?_⟩
  obtain ⟨L1, S1, d, e1, x1, r1, q1⟩ := z
  subst r1
  cases d with
  | true => rw [if_pos rfl]; exact ⟨L1, S1, x1, q1⟩
  | false => rw [if_neg (by decide)]; exact q1.give x1 rfl
theorem w_or (h1 : PT X e1 (rdT X.K cm W ta)) (h2 : PW X (.BoolOp .Or (e2 :: es) pos) (rdT X.K cm W tb)) : PW X (.BoolOp .Or (e1 :: e2 :: es) pos) (rdT X.K cm W (tOrD ta tb)) := weakW (pw_or h1 h2) fun σ H Q q => by
  obtain ⟨L, S, a, q⟩ := q
  refine ⟨L, S, a, (Aft.step (R := fun _ _ (b c : Bool) => b = c) q).mono fun v H1 z => ?_⟩
  obtain ⟨L1, S1, d, e1, x1, r1, q1⟩ := z
  subst r1
  cases d with
  | true => rw [if_pos rfl]; exact q1.give x1 rfl
  | false => rw [if_neg (by decide)]; exact ⟨L1, S1, x1, q1⟩
theorem t_not (h : PT X e (rdT X.K cm W ta)) : PT X (.UnaryOp .Not e pos) (rdT X.K cm W (tNotD ta)) := weakT (pt_not h) fun σ H Q q => by
  obtain ⟨L, S, a, q⟩ := q
  refine ⟨L, S, a, (Aft.step (R := fun _ _ (b c : Bool) => b = c) q).mono fun v H1 z => ?_⟩
  obtain ⟨L1, S1, d, e1, x1, r1, q1⟩ := z
  subst r1
  exact q1.give x1 rfl
theorem e_and1 {op} (h : PE X e (rdE X.K cm W fa)) : PE X (.BoolOp op [e] pos) (rdE X.K cm W fa) := pe_one h
theorem e_and (h1 : PE X e1 (rdE X.K cm W fa)) (h2 : PE X (.BoolOp .And (e2 :: es) pos) (rdE X.K cm W fb)) : PE X (.BoolOp .And (e1 :: e2 :: es) pos) (rdE X.K cm W (dAnd fa fb)) := weakE (pe_and h1 h2) fun σ H Q q => by
  obtain ⟨L, S, a, q⟩ := q
  refine ⟨L, S, a, (Aft.step (R := Rep X.K cm) q).mono fun v H1 z => ?_⟩
  obtain ⟨L1, S1, d, e1, x1, r1, q1⟩ := z
  unfold toB at q1
  split at q1
  · cases r1
    rename_i b
    refine ⟨b, rfl, ?_⟩
    cases b with
    | true => rw [if_pos rfl]; exact ⟨L1, S1, x1, q1⟩
    | false => rw [if_neg (by decide)]; exact q1.give x1 (.bl false)
  · exact q1.elim
theorem e_or (h1 : PE X e1 (rdE X.K cm W fa)) (h2 : PE X (.BoolOp .Or (e2 :: es) pos) (rdE X.K cm W fb)) : PE X (.BoolOp .Or (e1 :: e2 :: es) pos) (rdE X.K cm W (dOr fa fb)) := weakE (pe_or h1 h2) fun σ H Q q => by
  obtain ⟨L, S, a, q⟩ := q
  refine ⟨L, S, a, (Aft.step (R := Rep X.K cm) q).mono fun v H1 z => ?_⟩
  obtain ⟨L1, S1, d, e1, x1, r1, q1⟩ := z
  unfold toB at q1
  split at q1
  · cases r1
    rename_i b
    refine ⟨b, rfl, ?_⟩
    cases b with
    | true => rw [if_pos rfl]; exact q1.give x1 (.bl true)
    | false => rw [if_neg (by decide)]; exact ⟨L1, S1, x1, q1⟩
  · exact q1.elim
theorem e_not (h1 : PE X e1 (rdE X.K cm W fa)) : PE X (.UnaryOp .Not e1 pos) (rdE X.K cm W (dNot fa)) := weakE (pe_not h1) fun σ H Q q => by
  obtain ⟨L, S, a, q⟩ := q
  refine ⟨L, S, a, (Aft.step (R := Rep X.K cm) q).mono fun v H1 z => ?_⟩
  obtain ⟨L1, S1, d, e1, x1, r1, q1⟩ := z
  unfold toB at q1
  split at q1
  · cases r1
    exact ⟨_, rfl, q1.give x1 (.bl _)⟩
  · exact q1.elim
theorem e_if (ht : PT X e (rdT X.K cm W ta)) (h1 : PE X e1 (rdE X.K cm W fa)) (h2 : PE X e2 (rdE X.K cm W fb)) : PE X (.IfExp e e1 e2 pos) (rdE X.K cm W (dIf ta fa fb)) := weakE (pe_ifExp ht h1 h2) fun σ H Q q => by
  obtain ⟨L, S, a, q⟩ := q
  refine ⟨L, S, a, (Aft.step (R := fun _ _ (b c : Bool) => b = c) q).mono fun v H1 z => ?_⟩
  obtain ⟨L1, S1, d, e1, x1, r1, q1⟩ := z
  subst r1
  cases d with
  | true => rw [if_pos rfl]; exact ⟨L1, S1, x1, q1⟩
  | false => rw [if_neg (by decide)]; exact ⟨L1, S1, x1, q1⟩
theorem a_nil : PA X [] (rdA X.K cm W dNil) := weakA pa_nil fun σ H Q q => by
  obtain ⟨L, S, a, q⟩ := q
  exact q.give a .nil
theorem a_cons (h : PE X e (rdE X.K cm W fa)) (hr : PA X es (rdA X.K cm W ga)) (hs : starEach (e :: es) X.env = (false, eval e X.env) :: starEach es X.env := by rfl) : PA X (e :: es) (rdA X.K cm W (dCons fa ga)) := weakA (pa_cons h hr hs) fun σ H Q q => by
  obtain ⟨L, S, a, q⟩ := q
  refine ⟨L, S, a, (Aft.step (R := Rep X.K cm) q).mono fun v H1 z => ?_⟩
  obtain ⟨L1, S1, d, e1, x1, r1, q1⟩ := z
  refine ⟨L1, S1, x1, (Aft.step (R := Reps X.K cm) q1).mono fun u H2 z => ?_⟩
  obtain ⟨L2, S2, d2, e2, x2, r2, q2⟩ := z
  exact q2.give x2 (.cons (r1.mono e2) r2)
theorem e_tup {x1} (h : PA X es (rdA X.K cm W ga)) : PE X (.Tuple es x1 pos) (rdE X.K cm W (dTup ga)) := weakE (pe_tup h) fun σ H Q q => by
  obtain ⟨L, S, a, q⟩ := q
  refine ⟨L, S, a, (Aft.step (R := Reps X.K cm) q).mono fun v H1 z => ?_⟩
  obtain ⟨L1, S1, d, e1, x1, r1, q1⟩ := z
  split at q1
  · rename_i h
    refine ⟨mx_line (by rw [← r1.length]; exact h), fun p hp => ?_⟩
    exact q1.giveE (Ext.beside hp) (x1.beside hp) (.tup (.inl (.inl upd_same)) (r1.mono (Ext.beside hp)))
  · exact q1.elim
theorem e_lst (h : PA X es (rdA X.K cm W ga)) : PE X (.List es pos) (rdE X.K cm W (dLst ga)) := weakE (pe_lst h) fun σ H Q q => by
  obtain ⟨L, S, a, q⟩ := q
  refine ⟨L, S, a, (Aft.step (R := Reps X.K cm) q).mono fun v H1 z => ?_⟩
  obtain ⟨L1, S1, d, e1, x1, r1, q1⟩ := z
  split at q1
  · rename_i h
    exact ⟨mx_line (by rw [← r1.length]; exact h), fun p hp => give_new x1 r1 q1 hp⟩
  · exact q1.elim
end
end Den

namespace Den
open PySem L2

/-! ### 7. statements -/
def sNop : DSt := fun S => .ok .next S
def sSeq (a b : DSt) : DSt := fun S => (a S).bind fun f S1 => match f with
  | .next => b S1
  | f => .ok f S1
def sIf (t : DT) (a b : DSt) : DSt := fun S => (t S).bind fun c S1 => if c then a S1 else b S1
def sRet (e : DE) : DSt := fun S => (e S).bind fun d S1 => .ok (.ret d) S1
def sRetN : DSt := fun S => .ok (.ret .non) S
def sExpr (e : DE) : DSt := fun S => (e S).bind fun _ S1 => .ok .next S1
def sBrk : DSt := fun S => .ok .brk S
def sCont : DSt := fun S => .ok .cont S
abbrev DG := D → DS → Option DS
def gN (i : Nat) : DG := fun d S => some { S with loc := S.loc.set i (some d) }
def sAsg (e : DE) (g : DG) : DSt := fun S => (e S).bind fun d S1 => match g d S1 with
  | some S2 => .ok .next S2
  | none => .stuck
/-- targets one by one -/
abbrev DGs := List D → DS → Option DS
def gNil : DGs := fun ds S => match ds with
  | [] => some S
  | _ => none
def gCons (g : DG) (r : DGs) : DGs := fun ds S => match ds with
  | d :: t => (g d S).bind fun S1 => r t S1
  | [] => none
def gTup (n : Nat) (r : DGs) : DG := fun d S => match d with
  | .tup xs => if xs.length = n then r xs S else none
  | _ => none

section
variable (K : PySem.W.Frag) (cm : Str → Value) (W : WX)
/-- behind an assignment -/
def AftG (L : List Addr) (H : Hp) (r : Option DS) (Q : St → Hp → Prop) : Prop := match r with
  | some S' => ∀ L' H' σ', Ext K L H L' H' → AbS K cm L' H' S' σ' → Q σ' H'
  | none => False
def rdG (f : DG) : TG := fun v σ H Q => ∃ L S d, AbS K cm L H S σ ∧ Rep K cm L H d v ∧ AftG K cm L H (f d S) Q
def rdGs (f : DGs) : TGs := fun vs σ H Q => ∃ L S ds, AbS K cm L H S σ ∧ Reps K cm L H ds vs ∧ AftG K cm L H (f ds S) Q
end
section
variable {X : Cx} {cm : Str → Value} {W : WX} {e e1 e2 : Expr} {es : List Expr} {pos : Pos} {fa fb : DE} {ga : DA} {ta tb : DT} {sa sb : DSt} {st : Stmt} {rest rest2 : List Stmt}
theorem LocR.set {K : PySem.W.Frag} {L : List Addr} {H : Hp} {ls : List (Option D)} {σ : St} {d : D} {v : V} (h : LocR K cm L H ls σ) (r : Rep K cm L H d v) (i : Nat) : LocR K cm L H (ls.set i (some d)) (σ.set i (some v)) := by
  refine ⟨by rw [List.length_set, List.length_set]; exact h.1, fun j x q => ?_⟩
  by_cases hj : i = j
  · subst hj
    by_cases hl : i < ls.length
    · rw [List.getElem?_set_self hl] at q
      cases q
      exact ⟨v, List.getElem?_set_self (by rw [← h.1]; exact hl), r⟩
    · rw [List.getElem?_eq_none (by rw [List.length_set]; omega)] at q
      cases q
  · rw [List.getElem?_set_ne hj] at q
    rw [List.getElem?_set_ne hj]
    exact h.2 j x q
theorem AbS.set {K : PySem.W.Frag} {L : List Addr} {H : Hp} {S : DS} {σ : St} {d : D} {v : V} (a : AbS K cm L H S σ) (r : Rep K cm L H d v) (i : Nat) : AbS K cm L H { S with loc := S.loc.set i (some d) } (σ.set i (some v)) := ⟨a.hp, a.loc.set r i⟩
theorem AftG.ext {K : PySem.W.Frag} {L L1 : List Addr} {H H1 : Hp} {r : Option DS} {Q : St → Hp → Prop} (e : Ext K L H L1 H1) (h : AftG K cm L H r Q) : AftG K cm L1 H1 r Q := by
  cases r with
  | some S' => exact fun L' H' s x y => h L' H' s (e.trans x) y
  | none => exact h

theorem ss_nil : PSs X [] (rdS X.K cm W sNop) := weakSs pss_nil fun E σ H q => by
  obtain ⟨L, S, a, q⟩ := q
  exact q L H σ Ext.refl a
theorem rd_seq {E : Ends} {σ : St} {H : Hp} (q : rdS X.K cm W (sSeq sa sb) E σ H) : tSeq (rdS X.K cm W sa) (rdS X.K cm W sb) E σ H := by
  obtain ⟨L, S, a, q⟩ := q
  refine ⟨L, S, a, ?_⟩
  unfold sSeq at q
  generalize sa S = r at q
  cases r with
  | ok f S1 =>
    cases f with
    | next => exact fun L' H' σ' e x => ⟨L', S1, x, AftS.ext e q⟩
    | ret d => exact q
    | brk => exact q
    | cont => exact q
  | exc u S1 => exact q
  | stuck => exact q
theorem ss_cons (h1 : PS X st (rdS X.K cm W sa)) (h2 : PSs X rest (rdS X.K cm W sb)) : PSs X (st :: rest) (rdS X.K cm W (sSeq sa sb)) := weakSs (pss_cons h1 h2) fun _ _ _ => rd_seq
theorem ss_one (h1 : PS X st (rdS X.K cm W sa)) : PSs X [st] (rdS X.K cm W sa) := pss_one h1
theorem s_pass : PS X (.Pass pos) (rdS X.K cm W sNop) := weakS ps_pass fun E σ H q => by
  obtain ⟨L, S, a, q⟩ := q
  exact q L H σ Ext.refl a
theorem s_brk : PS X (.Break pos) (rdS X.K cm W sBrk) := weakS ps_break fun E σ H q => by
  obtain ⟨L, S, a, q⟩ := q
  exact q L H σ Ext.refl a
theorem s_cont : PS X (.Continue pos) (rdS X.K cm W sCont) := weakS ps_continue fun E σ H q => by
  obtain ⟨L, S, a, q⟩ := q
  exact q L H σ Ext.refl a
theorem s_expr (he : PE X e (rdE X.K cm W fa)) (hs : swapsWith e none pos.line X.env = pure false := by rfl) : PS X (.Expr e pos) (rdS X.K cm W (sExpr fa)) := weakS (ps_expr he hs) fun E σ H q => by
  obtain ⟨L, S, a, q⟩ := q
  refine ⟨L, S, a, (AftS.step (R := Rep X.K cm) q).mono fun v H1 z => ?_⟩
  obtain ⟨L1, S1, d, e1, x1, r1, q1⟩ := z
  exact q1 L1 H1 σ Ext.refl x1
theorem s_ret (he : PE X e (rdE X.K cm W fa)) : PS X (.Return (some e) pos) (rdS X.K cm W (sRet fa)) := weakS (ps_ret he) fun E σ H q => by
  obtain ⟨L, S, a, q⟩ := q
  refine ⟨L, S, a, (AftS.step (R := Rep X.K cm) q).mono fun v H1 z => ?_⟩
  obtain ⟨L1, S1, d, e1, x1, r1, q1⟩ := z
  exact q1 L1 H1 σ v Ext.refl x1 r1
theorem s_retN : PS X (.Return none pos) (rdS X.K cm W sRetN) := weakS ps_retN fun E σ H q => by
  obtain ⟨L, S, a, q⟩ := q
  exact q L H σ .non Ext.refl a .non
theorem s_if {c : Expr} {b1 b2 : List Stmt} (hc : PT X c (rdT X.K cm W ta)) (h1 : PSs X b1 (rdS X.K cm W sa)) (h2 : PSs X b2 (rdS X.K cm W sb)) : PS X (.If c b1 b2 pos) (rdS X.K cm W (sIf ta sa sb)) := weakS (ps_if hc h1 h2) fun E σ H q => by
  obtain ⟨L, S, a, q⟩ := q
  refine ⟨L, S, a, (AftS.step (R := fun _ _ (b c : Bool) => b = c) q).mono fun v H1 z => ?_⟩
  obtain ⟨L1, S1, d, e1, x1, r1, q1⟩ := z
  subst r1
  cases d with
  | true => rw [if_pos rfl]; exact ⟨L1, S1, x1, q1⟩
  | false => rw [if_neg (by decide)]; exact ⟨L1, S1, x1, q1⟩
theorem g_name {i : Nat} {x : Str} (hN : X.N.Nodup) (hi : X.N[i]? = some x) (hx : Loc X.env.scope x) (hf : X.fn x = true ∨ X.env.scope.names.lookup x = some .local := by first | exact .inl rfl | exact .inr rfl | assumption) : PG X (.Name x pos) (rdG X.K cm (gN i)) :=
  ⟨fun pins s σ H v u Q I r q => (pg_name hN hi hx hf).run pins s σ H v u Q I r (by
    obtain ⟨L, S, d, a, rd, q⟩ := q
    exact q L H _ Ext.refl (a.set rd i))⟩
theorem gs_nil : PGs X [] (rdGs X.K cm gNil) := ⟨fun pins s σ H vs us Q I r q => pgs_nil.run pins s σ H vs us Q I r (by
  obtain ⟨L, S, ds, a, rd, q⟩ := q
  cases rd with
  | nil => exact ⟨rfl, q L H _ Ext.refl a⟩
  | cons _ _ => exact q.elim)⟩
theorem gs_cons {g : DG} {gs : DGs} (h1 : PG X e (rdG X.K cm g)) (h2 : PGs X es (rdGs X.K cm gs)) (hs : (assignEach (e :: es) X.env).map (·.2) = assign e X.env :: (assignEach es X.env).map (·.2) := by rfl) : PGs X (e :: es) (rdGs X.K cm (gCons g gs)) :=
  ⟨fun pins s σ H vs us Q I r q => (pgs_cons h1 h2 hs).run pins s σ H vs us Q I r (by
    obtain ⟨L, S, ds, a, rd, q⟩ := q
    cases rd with
    | nil => exact q.elim
    | @cons d ds v vs r1 r2 =>
      refine ⟨v, vs, rfl, L, S, d, a, r1, ?_⟩
      unfold gCons at q
      dsimp only at q
      generalize g d S = z at q
      cases z with
      | some S1 => exact fun L' H' σ' e x => ⟨L', S1, ds, x, r2.mono e, AftG.ext e q⟩
      | none => exact q)⟩
theorem g_tup {n : Nat} {k : Nat} {gs : DGs} (hc : X.calm = true) (h : PGs X es (rdGs X.K cm gs)) (hn : (assignEach es X.env).length = n := by rfl) (hst : (assignEach es X.env).findIdx? (·.1) = none := by rfl) : PG X (.Tuple es k pos) (rdG X.K cm (gTup n gs)) :=
  ⟨fun pins s σ H v u Q I r q => (pg_tup hc h hn hst).run pins s σ H v u Q I r (by
    obtain ⟨L, S, d, a, rd, q⟩ := q
    unfold gTup at q
    split at q
    · split at q
      · rename_i hl
        cases rd with
        | tup hq rr => exact ⟨_, _, rfl, hq, by rw [← rr.length]; exact hl, L, S, _, a, rr, q⟩
      · exact q.elim
    · exact q.elim)⟩
theorem rd_asg {g : DG} {E : Ends} {σ : St} {H : Hp} (q : rdS X.K cm W (sAsg fa g) E σ H) : tAsg (rdE X.K cm W fa) (rdG X.K cm g) E σ H := by
  obtain ⟨L, S, a, q⟩ := q
  refine ⟨L, S, a, (AftS.step (R := Rep X.K cm) q).mono fun v H1 z => ?_⟩
  obtain ⟨L1, S1, d, e1, x1, r1, q1⟩ := z
  refine ⟨L1, S1, d, x1, r1, ?_⟩
  generalize g d S1 = z at q1
  cases z with
  | some S2 => exact fun L' H' σ' e x => q1 L' H' σ' e x
  | none => exact q1
theorem s_asg {tg : Expr} {g : DG} (he : PE X e (rdE X.K cm W fa)) (hg : PG X tg (rdG X.K cm g)) (hs : swapsWithSole [tg] e pos.line X.env = pure false := by rfl) (hw : swappedStores [tg] e X.env = pure none := by rfl)
    (h1 : (assignEach [tg] X.env).map (·.2) = [assign tg X.env] := by rfl) : PS X (.Assign [tg] e pos) (rdS X.K cm W (sAsg fa g)) := weakS (ps_asg he hg hs hw h1) fun _ _ _ => rd_asg
/-- a name -/
theorem s_set {i : Nat} {x : Str} {pos' : Pos} (hN : X.N.Nodup) (hi : X.N[i]? = some x) (hx : Loc X.env.scope x) (he : PE X e (rdE X.K cm W fa)) (hs : swapsWith e (some (.Name x pos')) pos.line X.env = pure false := by rfl)
    (hf : X.fn x = true ∨ X.env.scope.names.lookup x = some .local := by first | exact .inl rfl | exact .inr rfl | assumption) : PS X (.Assign [.Name x pos'] e pos) (rdS X.K cm W (sAsg fa (gN i))) := weakS (ps_set hN hi hx he hs hf) fun E σ H q => by
  obtain ⟨L, S, a, q⟩ := q
  refine ⟨L, S, a, (AftS.step (R := Rep X.K cm) q).mono fun v H1 z => ?_⟩
  obtain ⟨L1, S1, d, e1, x1, r1, q1⟩ := z
  exact q1 L1 H1 _ Ext.refl (x1.set r1 i)

/-! ### 8. loops over values that stand still -/
def forV (g : DG) (b : DSt) : List D → DSt
  | [] => fun S => .ok .next S
  | d :: ds => fun S => match g d S with
    | some S1 => (b S1).bind fun f S2 => match f with
      | .next => forV g b ds S2
      | .cont => forV g b ds S2
      | .brk => .ok .next S2
      | .ret d => .ok (.ret d) S2
    | none => .stuck
/-- what a for walks: values that stand still, or what our objects tell at each turn (none: stuck; some none: the end) -/
inductive Iter0 where
  | vals (xs : List D) | dyn (f : List Ob → Nat → Option (Option D))
/-- a list of ours, as it stands at each turn -/
def lstIt (n : Nat) : List Ob → Nat → Option (Option D) := fun h i => match h[n]? with
  | some (.lst xs) => some xs[i]?
  | _ => none
def forO (it : List Ob → Nat → Option (Option D)) (g : DG) (b : DSt) : Nat → Nat → DSt
  | 0, _ => fun _ => .stuck
  | k + 1, i => fun S => match it S.h i with
    | some none => .ok .next S
    | some (some d) => match g d S with
      | some S1 => (b S1).bind fun f S2 => match f with
        | .next => forO it g b k (i + 1) S2
        | .cont => forO it g b k (i + 1) S2
        | .brk => .ok .next S2
        | .ret d => .ok (.ret d) S2
      | none => .stuck
    | none => .stuck
def sFor (it : DS → Res Iter0) (g : DG) (b : DSt) : DSt := fun S => (it S).bind fun I S1 => match I with
  | .vals xs => forV g b xs S1
  | .dyn f => forO f g b 100000 0 S1
section
variable (K : PySem.W.Frag) (cm : Str → Value)
/-- J walks the values xs -/
structure Walks0 (L : List Addr) (H : Hp) (xs : List D) (J : It) : Prop where
  go : ∀ L' H' i d, Ext K L H L' H' → xs[i]? = some d → J.go i H' ∧ ∀ x H2, J.yld i H' x H2 → Ext K L' H' L' H2 ∧ (∀ h, HAb K cm L' H' h → HAb K cm L' H2 h) ∧ Rep K cm L' H2 d x
  stop : ∀ L' H', Ext K L H L' H' → J.stop xs.length H'
/-- J walks what f tells -/
structure WalksD (L : List Addr) (H : Hp) (f : List Ob → Nat → Option (Option D)) (J : It) : Prop where
  go : ∀ L' H' h i d, Ext K L H L' H' → HAb K cm L' H' h → f h i = some (some d) → J.go i H' ∧ ∀ x H2, J.yld i H' x H2 → Ext K L' H' L' H2 ∧ (∀ h', HAb K cm L' H' h' → HAb K cm L' H2 h') ∧ Rep K cm L' H2 d x
  stop : ∀ L' H' h i, Ext K L H L' H' → HAb K cm L' H' h → f h i = some none → J.stop i H'
def ItR (L : List Addr) (H : Hp) (I : Iter0) (J : It) : Prop := match I with
  | .vals xs => Walks0 K cm L H xs J
  | .dyn f => WalksD K cm L H f J
end
/-- an iterable's reading -/
def rdI (K : PySem.W.Frag) (cm : Str → Value) (W : WX) (it : DS → Res Iter0) : TI := rd K cm W (ItR K cm) it
theorem for_vals {xs : List D} {J : It} {g : DG} {b : DSt} {E : Ends} {σ : St} {L1 : List Addr} {H1 : Hp} {S1 : DS} (wk : Walks0 X.K cm L1 H1 xs J) (x1 : AbS X.K cm L1 H1 S1 σ) (q1 : AftS X.K cm W L1 H1 (forV g b xs S1) E) :
    ∃ W' : Nat → Nat → St → Hp → Prop, (∃ m, W' 0 m σ H1) ∧ ∀ i m σ H, W' i m σ H → (J.stop i H ∧ E.nx σ H) ∨ (J.go i H ∧ ∃ N : St → Hp → Prop, (∀ σ' H', N σ' H' → ∃ m', m' < m ∧ W' (i + 1) m' σ' H') ∧
      ∀ x H', J.yld i H x H' → rdG X.K cm g x σ H' fun σ2 H2 => rdS X.K cm W b { E with nx := N, ct := N, bk := E.nx } σ2 H2) := by
  refine ⟨fun i m σ' H' => m = xs.length - i ∧ i ≤ xs.length ∧ ∃ L' S', Ext X.K L1 H1 L' H' ∧ AbS X.K cm L' H' S' σ' ∧ AftS X.K cm W L' H' (forV g b (xs.drop i) S') E, ⟨xs.length, by simp, Nat.zero_le _, L1, S1, Ext.refl, x1, q1⟩, ?_⟩
  rintro i m σ2 H2 ⟨rfl, hi, L2, S2, e2, x2, q2⟩
  by_cases hlt : i < xs.length
  · obtain ⟨go, yl⟩ := wk.go L2 H2 i xs[i] e2 (by simp [hlt])
    refine .inr ⟨go, fun σ' H' => i + 1 ≤ xs.length ∧ ∃ L' S', Ext X.K L1 H1 L' H' ∧ AbS X.K cm L' H' S' σ' ∧ AftS X.K cm W L' H' (forV g b (xs.drop (i + 1)) S') E, fun σ' H' z => ⟨xs.length - (i + 1), by omega, rfl, z⟩, fun x H3 y => ?_⟩
    obtain ⟨e3, hb, rx⟩ := yl x H3 y
    rw [List.drop_eq_getElem_cons hlt] at q2
    refine ⟨L2, S2, xs[i], ⟨hb _ x2.hp, x2.loc.mono e3⟩, rx, ?_⟩
    have q3 := AftS.ext e3 q2
    unfold forV at q3
    generalize g xs[i] S2 = z at q3
    cases z with
    | some S3 =>
      refine fun L4 H4 σ4 e4 x4 => ⟨L4, S3, x4, ?_⟩
      have q4 := AftS.ext e4 q3
      dsimp only at q4
      have e14 := (e2.trans e3).trans e4
      generalize b S3 = z at q4
      cases z with
      | ok f S5 =>
        cases f with
        | next => exact fun L' H' σ' e x => ⟨hlt, L', S5, e14.trans e, x, AftS.ext e q4⟩
        | cont => exact fun L' H' σ' e x => ⟨hlt, L', S5, e14.trans e, x, AftS.ext e q4⟩
        | brk => exact q4
        | ret d => exact q4
      | exc u S5 => exact q4
      | stuck => exact q4
    | none => exact q3
  · have e0 : i = xs.length := by omega
    subst e0
    rw [List.drop_length] at q2
    exact .inl ⟨wk.stop L2 H2 e2, q2 L2 H2 σ2 Ext.refl x2⟩
theorem for_core {it : DS → Res Iter0} {g : DG} {b : DSt} {E : Ends} {σ : St} {H : Hp} (q : rdS X.K cm W (sFor it g b) E σ H) : tFor (rdI X.K cm W it) (rdG X.K cm g) (rdS X.K cm W b) E σ H := by
  obtain ⟨L, S, a, q⟩ := q
  refine ⟨L, S, a, (AftS.step (R := ItR X.K cm) q).mono fun J H1 z => ?_⟩
  obtain ⟨L1, S1, I, e1, x1, r1, q1⟩ := z
  cases I with
  | vals xs =>
    exact for_vals r1 x1 q1
  | dyn n =>
    refine ⟨fun i m σ' H' => ∃ L' S', Ext X.K L1 H1 L' H' ∧ AbS X.K cm L' H' S' σ' ∧ AftS X.K cm W L' H' (forO n g b m i S') E, ⟨100000, L1, S1, Ext.refl, x1, q1⟩, ?_⟩
    rintro i m σ2 H2 ⟨L2, S2, e2, x2, q2⟩
    cases m with
    | zero => exact q2.elim
    | succ m =>
      unfold forO at q2
      split at q2
      · rename_i hn
        exact .inl ⟨r1.stop L2 H2 _ i e2 x2.hp hn, q2 L2 H2 σ2 Ext.refl x2⟩
      · rename_i d hd
        obtain ⟨go, yl⟩ := r1.go L2 H2 _ i d e2 x2.hp hd
        refine .inr ⟨go, fun σ' H' => ∃ L' S', Ext X.K L1 H1 L' H' ∧ AbS X.K cm L' H' S' σ' ∧ AftS X.K cm W L' H' (forO n g b m (i + 1) S') E, fun σ' H' z => ⟨m, Nat.lt_succ_self _, z⟩, fun x H3 y => ?_⟩
        obtain ⟨e3, hb, rx⟩ := yl x H3 y
        refine ⟨L2, S2, d, ⟨hb _ x2.hp, x2.loc.mono e3⟩, rx, ?_⟩
        have q3 := AftS.ext e3 q2
        generalize g d S2 = z at q3
        cases z with
        | some S3 =>
          refine fun L4 H4 σ4 e4 x4 => ⟨L4, S3, x4, ?_⟩
          have q4 := AftS.ext e4 q3
          dsimp only at q4
          have e14 := (e2.trans e3).trans e4
          generalize b S3 = z at q4
          cases z with
          | ok f S5 =>
            cases f with
            | next => exact fun L' H' σ' e x => ⟨L', S5, e14.trans e, x, AftS.ext e q4⟩
            | cont => exact fun L' H' σ' e x => ⟨L', S5, e14.trans e, x, AftS.ext e q4⟩
            | brk => exact q4
            | ret d => exact q4
          | exc u S5 => exact q4
          | stuck => exact q4
        | none => exact q3
      · exact q2.elim
theorem s_for {tg iter : Expr} {body : List Stmt} {it : DS → Res Iter0} {g : DG} {b : DSt} (hp : PassesOwn (model X.prog X.w) X.A X.env X.xe) (hc : X.calm = true) (hi : PI X tg iter (rdI X.K cm W it)) (hg : PG X tg (rdG X.K cm g)) (hb : PSs X body (rdS X.K cm W b))
    (hs : ∀ x, foldedSetIterable iter X.env x = pure x := by intro _; rfl) : PS X (.For tg iter body [] pos) (rdS X.K cm W (sFor it g b)) := weakS (ps_for hp hc hi hg hb hs) fun _ _ _ => for_core
end
end Den

namespace Den
open PySem L2

/-! ### 9. defs: promises over plain values; nothing in the middle of being shown -/
/-- a def that keeps its promise wherever no display is under way -/
structure FnG (P : Program) (w : World) (K : PySem.W.Frag) (mg : Str → Option Value) (base : Heap) (k : Nat) (f : Addr) (fd : FuncData) (ps : List Str) (sp : Sp) : Prop where
  len : ∀ vs H Q E, sp vs H Q E → vs.length = ps.length
  run : ∀ (A : Around) (fr : List Env) (s : Shared) (H : Hp) (args : Args) (us : List Value) (vs : List V) (Q : VK) (E : XK), Room k A → A.guards = some [] → Env0 P w K mg base A fr s H →
    BindsTo s fd args (ps.zip us) → Vals vs us → sp vs H Q E → codeAny (model P w) A (.call (.ref f) args) (CR (L2.CX P w) fr P w H s Q E) s
theorem FnG.mono {P : Program} {w : World} {K : PySem.W.Frag} {mg : Str → Option Value} {base : Heap} {j k : Nat} {f : Addr} {fd : FuncData} {ps : List Str} {sp : Sp} (F : FnG P w K mg base j f fd ps sp) (h : j ≤ k) : FnG P w K mg base k f fd ps sp :=
  ⟨F.len, fun A fr s H args us vs Q E r => F.run A fr s H args us vs Q E (r.mono h)⟩
def wOf (E : XK) : WX := fun c d _ H => E c d H
/-- the promise of a plain def -/
def spD (K : PySem.W.Frag) (cm : Str → Value) (np : Nat) (F : Fn) : Sp := fun vs H Q E => ∃ L ds h, AbS K cm L H ⟨[], h⟩ [] ∧ Reps K cm L H ds vs ∧ ds.length = np ∧ Aft K cm (wOf E) (Rep K cm) L [] H (F ds h) Q
/-- a body as a plain def -/
def runB (n : Nat) (b : DSt) : Fn := fun ds h => match b ⟨ds.map some ++ List.replicate (n - ds.length) none, h⟩ with
  | .ok (.ret d) S => .ok d ⟨[], S.h⟩
  | .ok .next S => .ok .non ⟨[], S.h⟩
  | .ok _ _ => .stuck
  | .exc e S => .exc e ⟨[], S.h⟩
  | .stuck => .stuck
theorem AbS.bare {K : PySem.W.Frag} {cm : Str → Value} {L : List Addr} {H : Hp} {S : DS} {σ : L2.St} (a : AbS K cm L H S σ) : AbS K cm L H ⟨[], S.h⟩ [] := ⟨a.hp, rfl, fun i d h => by simp at h⟩
theorem loc_start {K : PySem.W.Frag} {cm : Str → Value} {L : List Addr} {H : Hp} {ds : List D} {vs : List V} (N : List Str) (r : Reps K cm L H ds vs) : LocR K cm L H (ds.map some ++ List.replicate (N.length - ds.length) none) (L2.start N vs) := by
  unfold L2.start
  refine ⟨by simp [r.length], fun i d h => ?_⟩
  by_cases hi : i < ds.length
  · rw [List.getElem?_append_left (by simpa using hi), List.getElem?_map] at h
    cases q : ds[i]? with
    | none => rw [q] at h; cases h
    | some x =>
      rw [q] at h
      cases h
      obtain ⟨v, hv, rv⟩ := r.get q
      refine ⟨v, ?_, rv⟩
      rw [List.getElem?_append_left (by simpa [← r.length] using hi), List.getElem?_map, hv]
      rfl
  · rw [List.getElem?_append_right (by simpa using hi), List.getElem?_replicate] at h
    split at h <;> cases h
section
variable {P : Program} {w : World} {K : PySem.W.Frag} {mg : Str → Option Value} {base : Heap} {cm : Str → Value}
theorem aft_run {L : List Addr} {H : Hp} {Q : VK} {E : XK} {n : Nat} {b : DSt} {ds : List D} {h : List Ob} (q : Aft K cm (wOf E) (Rep K cm) L [] H (runB n b ds h) Q) :
    AftS K cm (wOf E) L H (b ⟨ds.map some ++ List.replicate (n - ds.length) none, h⟩) { nx := fun _ H' => Q .non H', rt := Q } := by
  unfold runB at q
  generalize b ⟨ds.map some ++ List.replicate (n - ds.length) none, h⟩ = r at q
  cases r with
  | ok f S =>
    cases f with
    | next => exact fun L' H' σ' e x => q L' H' .non e x.bare .non
    | ret d => exact fun L' H' σ' v e x r => q L' H' v e x.bare r
    | brk => exact q.elim
    | cont => exact q.elim
  | exc e S => exact fun L' H' σ' c dx e x r => q L' H' c dx e x.bare r
  | stuck => exact q
/-- THE RULE of a def: from its body's plain form -/
theorem FnG.of {x qual : Str} {st : Stmt} {f : Addr} {fd : FuncData} {N ps : List Str} {k : Nat} {b : DSt} (F : Fun K x qual st f fd) (S : FnScope N ps (defScope st))
    (hbody : ∀ (cdv : Value) (A : Around) (fr : List Env) (s : Shared) (H : Hp) (E : XK), Room k (A.deeper (PyProof.Rows.envOfC qual (defScope st) s.heap.objs.size f cdv)) → (A.deeper (PyProof.Rows.envOfC qual (defScope st) s.heap.objs.size f cdv)).guards = some [] →
      PSs (cxOf (L2.CX P w) P w K mg base N qual (defScope st) f cdv A fr s H E) (defBody st) (rdS K cm (wOf E) b)) : FnG P w K mg base (k + 1) f fd ps (spD K cm ps.length (runB N.length b)) := by
  constructor
  · rintro vs H Q E ⟨L, ds, h, _, r, e, _⟩
    rw [← r.length, e]
  · rintro A fr s H args us vs Q E hr hg e0 hb rv ⟨L, ds, h, ab, rr, hn, q⟩
    obtain ⟨oc, od, kV, doc, pm, an, cdv, ct, osl, rfl, lk, hcd⟩ := F.ex
    have keep : ∀ (b : Addr) (o : Obj), base.get? b = some o → s.heap.get? b = some o := fun b o z => (e0.bs b o z).1
    have inK : K.In s.heap := e0.mod.kin.keeps keep
    have free : s.heap.NoLimit := e0.mod.nolimit.keeps keep
    have hl : vs.length = ps.length := by rw [← rr.length]; exact hn
    have kinds : ∀ z ∈ ps.zip us, (defScope st).names.lookup z.1 = some .local ∨ ((defScope st).names.lookup z.1 = some .cell ∧ ((cellsFrom (s.heap.objs.size + 1) (defScope st).names []).lookup z.1).isSome = true) := by
      rintro ⟨y, v⟩ hz
      rcases S.par y (List.of_mem_zip hz).1 with q | q
      · exact Or.inl q
      · exact Or.inr ⟨q, PySem.W.cellsFrom_some _ _ _ (Or.inl q)⟩
    apply codeAny_call_function hr.depth (inK _ _ lk) rfl S.co S.gen rfl (PySem.W.codeRec_of inK hcd)
    apply hb
    apply wpAny_newFunctionEnv_cells S.kind kinds
    rintro env rfl s1 x1
    refine ⟨free.keeps x1.toInCall.keep, codeAny_func ?_⟩
    have B := hbody cdv A fr s H E (hr.deeper _) hg
    have I := inv_start (CX := L2.CX P w) (E := E) S hr.hd e0 hl rv x1
    have start0 : AbS K cm L H ⟨ds.map some ++ List.replicate (N.length - ds.length) none, h⟩ (L2.start N vs) := ⟨ab.hp, loc_start N rr⟩
    apply wpAny_mono (B.run [] s1 (L2.start N vs) H { nx := fun _ H' => Q .non H', rt := Q } I ⟨L, _, start0, aft_run q⟩)
    · intro fl s2 h2
      cases fl with
      | ret u =>
        obtain ⟨v, σ2, H2, J, ru, q2⟩ := h2
        exact ⟨v, H2, J.os, J.bare, J.base, J.hok, ru, q2⟩
      | next =>
        obtain ⟨σ2, H2, J, q2⟩ := h2
        exact ⟨V.non, H2, J.os, J.bare, J.base, J.hok, rfl, q2⟩
      | brk => obtain ⟨_, _, _, q2⟩ := h2; exact q2.elim
      | cont => obtain ⟨_, _, _, q2⟩ := h2; exact q2.elim
    · exact fun _ _ z => z
end

/-! ### 10. calls -/
def dCall (F : Fn) (a : DA) : DE := fun S => (a S).bind fun ds S1 => match F ds S1.h with
  | .ok d S2 => .ok d ⟨S1.loc, S2.h⟩
  | .exc e S2 => .exc e ⟨S1.loc, S2.h⟩
  | .stuck => .stuck
section
variable {X : Cx} {cm : Str → Value} {W : WX} {k : Nat} {f : Addr} {fd : FuncData} {ps : List Str} {sp : Sp} {x : Str} {p pos : Pos} {e : Expr} {es : List Expr} {F0 : Fn} {ga : DA} {np : Nat}
theorem run_g {pins : List (Addr × Obj)} {σ : L2.St} {H : Hp} {s : Shared} {Q : VK} {us : List Value} {vs : List V} {args : Args} (F : FnG X.prog X.w X.K X.mg X.base k f fd ps sp) (hr : Room k X.A) (hg : X.A.guards = some []) (tk : Takes X W)
    (hb : BindsTo s fd args (ps.zip us)) (I : Inv X pins σ H s) (r : Vals vs us) (h : sp vs H Q (WE W σ)) : codeAny (model X.prog X.w) X.A (.call (.ref f) args) (callEnd (EP X pins σ Q) X.xe) s := by
  refine codeAny_mono (F.run X.A X.stack s H args us vs Q (WE W σ) hr hg I.env0 hb r h) fun r' s' hq => ?_
  cases r' with
  | error er => exact passAt tk σ pins H s er s' I hq
  | ok fl =>
    cases fl with
    | ret u => exact I.after hq
    | next => exact hq.elim
    | brk => exact hq.elim
    | cont => exact hq.elim
/-- a call's reading over a promise -/
theorem rd_call {σ : L2.St} {H : Hp} {Q : VK} (q : rdE X.K cm W (dCall F0 ga) σ H Q) (hn : ∀ ds S S1, ga S = .ok ds S1 → ds.length = np) : rdA X.K cm W ga σ H (fun vs H1 => spD X.K cm np F0 vs H1 Q (WE W σ)) := by
  obtain ⟨L, S, a, q⟩ := q
  refine ⟨L, S, a, ?_⟩
  unfold dCall at q
  have hl : ∀ ds S1, ga S = .ok ds S1 → ds.length = _ := fun ds S1 h => hn ds S S1 h
  generalize hr : ga S = r at q hl
  cases r with
  | ok ds S1 =>
    intro L1 H1 vs e1 x1 r1
    refine ⟨L1, ds, S1.h, x1.bare, r1, hl _ _ rfl, ?_⟩
    rw [Res.bind_ok] at q
    have q1 := Aft.ext e1 q
    generalize F0 ds S1.h = z at q1
    cases z with
    | ok d S2 => exact fun L2 H2 v e2 x2 r2 => q1 L2 H2 v e2 ⟨x2.hp, x1.loc.mono e2⟩ r2
    | exc u S2 => exact fun L2 H2 c dx e2 x2 r2 => q1 L2 H2 c dx e2 ⟨x2.hp, x1.loc.mono e2⟩ r2
    | stuck => exact q1
  | exc u S1 => exact q
  | stuck => exact q
/-- how many values an argument list gives -/
def Cnt (ga : DA) (n : Nat) : Prop := ∀ ds S S1, ga S = .ok ds S1 → ds.length = n
theorem cnt_nil : Cnt dNil 0 := fun ds S S1 h => by
  cases h; rfl
theorem cnt_cons {fa : DE} {ga : DA} {n : Nat} (h : Cnt ga n) : Cnt (dCons fa ga) (n + 1) := fun ds S S1 q => by
  unfold dCons at q
  cases e1 : fa S with
  | ok d S2 =>
    rw [e1, Res.bind_ok] at q
    cases e2 : ga S2 with
    | ok es S3 =>
      rw [e2, Res.bind_ok] at q
      cases q
      rw [List.length_cons, h _ _ _ e2]
    | exc u S3 => rw [e2] at q; cases q
    | stuck => rw [e2] at q; cases q
  | exc u S2 => rw [e1] at q; cases q
  | stuck => rw [e1] at q; cases q
theorem e_call (F : FnG X.prog X.w X.K X.mg X.base k f fd ps (spD X.K cm np F0)) (hr : Room k X.A) (hg : X.A.guards = some []) (tk : Takes X W) (hx : Gl X x) (hm : X.mg x = some (.ref f)) (hk : PySem.W.keepIn X.K (.ref f) = true) (hb : Binds X.K fd ps [])
    (ha : PA X (e :: es) (rdA X.K cm W ga)) (hn : Cnt ga np) (hdb : (x == ("__debug__" : Str)) = false := by decide) (he : starEach (e :: es) X.env = (false, eval e X.env) :: starEach es X.env := by rfl) (hpl : (backTo pos (starEach es X.env)).any (·.1) = false := by rfl) :
    PE X (.Call (.Name x p) (e :: es) [] pos) (rdE X.K cm W (dCall F0 ga)) := by
  constructor
  intro pins s σ H Q I q
  apply wpAny_Call_Name_kw
  apply ld_glob I hx hm _ hdb
  apply PySem.W.callWith_K (h₀ := X.base) I.ok.mod.kin hk _ he hpl
  apply thn (ha.run pos pins s σ H _ I (rd_call q hn))
  intro us s1 h1
  obtain ⟨vs, H1, I1, r1, q1⟩ := h1
  have hl : us.length = ps.length := by rw [← r1.length]; exact F.len _ _ _ _ q1
  have b := hb s1 us I1.kIn (by simpa using hl)
  rw [List.append_nil] at b
  exact ⟨I1.kIn, wpAny_call (run_g F hr hg tk b I1 r1 q1)⟩
theorem e_call0 (F : FnG X.prog X.w X.K X.mg X.base k f fd ps (spD X.K cm 0 F0)) (hr : Room k X.A) (hg : X.A.guards = some []) (tk : Takes X W) (hx : Gl X x) (hm : X.mg x = some (.ref f)) (hk : PySem.W.keepIn X.K (.ref f) = true) (hb : Binds X.K fd ps [])
    (hdb : (x == ("__debug__" : Str)) = false := by decide) : PE X (.Call (.Name x p) [] [] pos) (rdE X.K cm W (dCall F0 dNil)) := by
  constructor
  intro pins s σ H Q I q
  apply wpAny_Call_Name_kw
  apply ld_glob I hx hm _ hdb
  obtain ⟨L, S, a, q1⟩ := rd_call (np := 0) q cnt_nil
  have q2 := q1.give a .nil
  have hl : ([] : List Value).length = ps.length := F.len _ _ _ _ q2
  have b := hb s [] I.kIn (by simpa using hl)
  exact PySem.W.callWith_K0 I.kIn hk (wpAny_call (run_g F hr hg tk b I .nil q2))
/-- values by their places -/
def pick {α : Type} (perm : List Nat) (l : List α) : List α := perm.filterMap fun i => l[i]?
theorem pick_reps {K : PySem.W.Frag} {L : List Addr} {H : Hp} {ds : List D} {vs : List V} (r : Reps K cm L H ds vs) : ∀ perm : List Nat, Reps K cm L H (pick perm ds) (pick perm vs)
  | [] => .nil
  | i :: p => by
    unfold pick
    rw [List.filterMap_cons, List.filterMap_cons]
    cases hd : ds[i]? with
    | none =>
      have hv : vs[i]? = none := by
        rw [List.getElem?_eq_none_iff] at hd ⊢
        rw [← r.length]; exact hd
      rw [hv]
      exact pick_reps r p
    | some d =>
      obtain ⟨v, hv, rv⟩ := r.get hd
      rw [hv]
      exact .cons rv (pick_reps r p)
theorem pick_vals {vs : List V} {us : List Value} (r : Vals vs us) : ∀ perm : List Nat, Vals (pick perm vs) (pick perm us)
  | [] => .nil
  | i :: p => by
    unfold pick
    rw [List.filterMap_cons, List.filterMap_cons]
    cases hv : vs[i]? with
    | none =>
      rw [r.none_of hv]
      exact pick_vals r p
    | some v =>
      obtain ⟨u, hu, ru⟩ := r.get hv
      rw [hu]
      exact .cons ru (pick_vals r p)
def dCallK (F : Fn) (perm : List Nat) (a z : DA) : DE := fun S => (a S).bind fun ds S1 => (z S1).bind fun es S2 => match F (pick perm (ds ++ es)) S2.h with
  | .ok d S3 => .ok d ⟨S2.loc, S3.h⟩
  | .exc e S3 => .exc e ⟨S2.loc, S3.h⟩
  | .stuck => .stuck
/-- keywords: n positional values, the keywords ks; where each parameter's value stands -/
def KB (fd : FuncData) (ps : List Str) (n : Nat) (ks : List Str) (perm : List Nat) : Prop := ∀ us ws : List Value, us.length = n → ws.length = ks.length → bindArgs fd ⟨us, ks.zip ws⟩ = pure (ps.zip (pick perm (us ++ ws)))
theorem kb_of {y qual : Str} {st : Stmt} {n : Nat} {ks : List Str} {perm : List Nat} {K : PySem.W.Frag} (F : Fun K y qual st f fd) (h : ∀ (kV doc pm : Value) (an : Option Addr) (cdv ct : Value) (us ws : List Value), us.length = n → ws.length = ks.length →
    bindArgs (PySem.W.fnOf y qual (defArgs st) (defBody st) (defScope st) .none kV doc pm an cdv ct) ⟨us, ks.zip ws⟩ = pure (ps.zip (pick perm (us ++ ws)))) : KB fd ps n ks perm := by
  obtain ⟨oc, od, kV, doc, pm, an, cdv, ct, osl, rfl, _, _⟩ := F.ex
  exact h kV doc pm an cdv ct
theorem k_nil : PK X [] (rdA X.K cm W dNil) := ⟨fun pos pins s σ H Q I q => pk_nil.run pos pins s σ H Q I (by
  obtain ⟨L, S, a, q⟩ := q
  exact q.give a .nil)⟩
theorem k_cons {nm : Option Str} {kpos : Pos} {kws : List Keyword} {fa : DE} (h : PE X e (rdE X.K cm W fa)) (hr : PK X kws (rdA X.K cm W ga)) : PK X (⟨nm, e, kpos⟩ :: kws) (rdA X.K cm W (dCons fa ga)) := ⟨fun pos pins s σ H Q I q => (pk_cons h hr).run pos pins s σ H Q I (by
  obtain ⟨L, S, a, q⟩ := q
  refine ⟨L, S, a, (Aft.step (R := Rep X.K cm) q).mono fun v H1 z => ?_⟩
  obtain ⟨L1, S1, d, e1, x1, r1, q1⟩ := z
  refine ⟨L1, S1, x1, (Aft.step (R := Reps X.K cm) q1).mono fun u H2 z => ?_⟩
  obtain ⟨L2, S2, d2, e2, x2, r2, q2⟩ := z
  exact q2.give x2 (.cons (r1.mono e2) r2))⟩
theorem rd_callK {gz : DA} {perm : List Nat} {σ : L2.St} {H : Hp} {Q : VK} {n m : Nat} (q : rdE X.K cm W (dCallK F0 perm ga gz) σ H Q) (hn : Cnt ga n) (hm : Cnt gz m) (hp : ∀ l : List D, l.length = n + m → (pick perm l).length = np) :
    rdA X.K cm W ga σ H (fun vs H1 => vs.length = n ∧ rdA X.K cm W gz σ H1 (fun zs H2 => zs.length = m ∧ spD X.K cm np F0 (pick perm (vs ++ zs)) H2 Q (WE W σ))) := by
  obtain ⟨L, S, a, q⟩ := q
  refine ⟨L, S, a, ?_⟩
  unfold dCallK at q
  have hl : ∀ ds S1, ga S = .ok ds S1 → ds.length = _ := fun ds S1 h => hn ds S S1 h
  generalize hr : ga S = r at q hl
  cases r with
  | ok ds S1 =>
    intro L1 H1 vs e1 x1 r1
    refine ⟨by rw [← r1.length]; exact hl _ _ rfl, L1, S1, x1, ?_⟩
    rw [Res.bind_ok] at q
    have q1 := Aft.ext e1 q
    have hl2 : ∀ es S2, gz S1 = .ok es S2 → es.length = _ := fun es S2 h => hm es S1 S2 h
    generalize hr2 : gz S1 = r at q1 hl2
    cases r with
    | ok es S2 =>
      intro L2 H2 zs e2 x2 r2
      refine ⟨by rw [← r2.length]; exact hl2 _ _ rfl, ?_⟩
      rw [Res.bind_ok] at q1
      have q2 := Aft.ext e2 q1
      refine ⟨L2, pick perm (ds ++ es), S2.h, x2.bare, pick_reps ((r1.mono e2).append r2) perm, hp _ (by rw [List.length_append, hl _ _ rfl, hl2 _ _ rfl]), ?_⟩
      generalize F0 (pick perm (ds ++ es)) S2.h = z at q2
      cases z with
      | ok d S3 => exact fun L3 H3 v e3 x3 r3 => q2 L3 H3 v e3 ⟨x3.hp, x2.loc.mono e3⟩ r3
      | exc u S3 => exact fun L3 H3 c dx e3 x3 r3 => q2 L3 H3 c dx e3 ⟨x3.hp, x2.loc.mono e3⟩ r3
      | stuck => exact q2
    | exc u S2 => exact q1
    | stuck => exact q1
  | exc u S1 => exact q
  | stuck => exact q
/-- f(e, .., k = v, ..) -/
theorem e_callK {gz : DA} {perm : List Nat} {n m : Nat} {ks : List Str} {kws : List Keyword} (F : FnG X.prog X.w X.K X.mg X.base k f fd ps (spD X.K cm np F0)) (hr : Room k X.A) (hg : X.A.guards = some []) (tk : Takes X W) (hx : Gl X x) (hm : X.mg x = some (.ref f)) (hk : PySem.W.keepIn X.K (.ref f) = true)
    (hb : KB fd ps n ks perm) (ha : PA X (e :: es) (rdA X.K cm W ga)) (hz : PK X kws (rdA X.K cm W gz)) (hn : Cnt ga n) (hmm : Cnt gz m) (hp : ∀ l : List D, l.length = n + m → (pick perm l).length = np) (hkm : ks.length = m := by rfl)
    (hall : (backToKw pos (keywordEach kws X.env)).all (·.1.isSome) = true := by rfl) (hks : (backToKw pos (keywordEach kws X.env)).filterMap (·.1) = ks := by rfl) (hdb : (x == ("__debug__" : Str)) = false := by decide)
    (he : starEach (e :: es) X.env = (false, eval e X.env) :: starEach es X.env := by rfl) (hpl : ((backTo pos (starEach (e :: es) X.env)).any (·.1) || (backToKw pos (keywordEach kws X.env)).any (·.1.isNone)) = false := by rfl) :
    PE X (.Call (.Name x p) (e :: es) kws pos) (rdE X.K cm W (dCallK F0 perm ga gz)) := by
  constructor
  intro pins s σ H Q I q
  apply wpAny_Call_Name_kw
  apply ld_glob I hx hm _ hdb
  apply PySem.W.callWith_KW (h₀ := X.base) I.ok.mod.kin hk hall _ hpl he
  apply thn (ha.run pos pins s σ H _ I (rd_callK q hn hmm hp))
  rintro us s1 ⟨vs, H1, I1, r1, l1, q1⟩
  apply thn (hz.run pos pins s1 σ H1 _ I1 q1)
  rintro ws s2 ⟨zs, H2, I2, r2, l2, q2⟩
  have b : BindsTo s2 fd ⟨us, ks.zip ws⟩ (ps.zip (pick perm (us ++ ws))) := .of_eq (hb us ws (by rw [← r1.length]; exact l1) (by rw [← r2.length, hkm]; exact l2))
  rw [hks]
  exact ⟨I2.kIn, wpAny_call (run_g F hr hg tk b I2 (pick_vals (r1.append r2) perm) q2)⟩
theorem e_callK0 {gz : DA} {perm : List Nat} {m : Nat} {ks : List Str} {kws : List Keyword} (F : FnG X.prog X.w X.K X.mg X.base k f fd ps (spD X.K cm np F0)) (hr : Room k X.A) (hg : X.A.guards = some []) (tk : Takes X W) (hx : Gl X x) (hm : X.mg x = some (.ref f)) (hk : PySem.W.keepIn X.K (.ref f) = true)
    (hb : KB fd ps 0 ks perm) (hz : PK X kws (rdA X.K cm W gz)) (hmm : Cnt gz m) (hp : ∀ l : List D, l.length = 0 + m → (pick perm l).length = np) (hkm : ks.length = m := by rfl)
    (hall : (backToKw pos (keywordEach kws X.env)).all (·.1.isSome) = true := by rfl) (hks : (backToKw pos (keywordEach kws X.env)).filterMap (·.1) = ks := by rfl) (hdb : (x == ("__debug__" : Str)) = false := by decide)
    (hpl : ((backTo pos (starEach [] X.env)).any (·.1) || (backToKw pos (keywordEach kws X.env)).any (·.1.isNone)) = false := by rfl) :
    PE X (.Call (.Name x p) [] kws pos) (rdE X.K cm W (dCallK F0 perm dNil gz)) := by
  constructor
  intro pins s σ H Q I q
  apply wpAny_Call_Name_kw
  apply ld_glob I hx hm _ hdb
  apply PySem.W.callWith_KW0 (h₀ := X.base) I.ok.mod.kin hk hall _ hpl
  obtain ⟨L, S, a, q0⟩ := rd_callK q cnt_nil hmm hp
  obtain ⟨_, q1⟩ := q0.give a .nil
  apply thn (hz.run pos pins s σ H _ I q1)
  rintro ws s2 ⟨zs, H2, I2, r2, l2, q2⟩
  have b : BindsTo s2 fd ⟨[], ks.zip ws⟩ (ps.zip (pick perm ([] ++ ws))) := .of_eq (hb [] ws rfl (by rw [← r2.length, hkm]; exact l2))
  rw [hks]
  exact ⟨I2.kIn, wpAny_call (run_g F hr hg tk b I2 (pick_vals (.append .nil r2) perm) q2)⟩
end
end Den

namespace Den
open PySem L2

/-! ### 11. built-in calls -/
theorem callR_or {X : Cx} {f : Value} {r r' : List V → Hp → VK → Prop} (h : CallR X f r) (h' : CallR X f r') : CallR X f (fun xs H Q => r xs H Q ∨ r' xs H Q) := by
  intro pins s σ H xs us Q I rv q
  rcases q with q | q
  · exact h pins s σ H xs us Q I rv q
  · exact h' pins s σ H xs us Q I rv q
section
variable (X : Cx) (cm : Str → Value) (W : WX)
def COp (r : List V → Hp → VK → Prop) (f : List D → DS → Res D) : Prop := ∀ {L : List Addr} {H : Hp} {S : DS} {σ : L2.St} {xs : List V} {ds : List D} {Q : VK}, AbS X.K cm L H S σ → Reps X.K cm L H ds xs →
  Aft X.K cm W (Rep X.K cm) L σ H (f ds S) Q → r xs H Q
/-- a method of a built-in's instance -/
def MOp (r : V → List V → Hp → VK → Prop) (f : D → List D → DS → Res D) : Prop := ∀ {L : List Addr} {H : Hp} {S : DS} {σ : L2.St} {x : V} {xs : List V} {d : D} {ds : List D} {Q : VK}, AbS X.K cm L H S σ → Rep X.K cm L H d x → Reps X.K cm L H ds xs →
  Aft X.K cm W (Rep X.K cm) L σ H (f d ds S) Q → r x xs H Q
end
def dCB (f : List D → DS → Res D) (a : DA) : DE := fun S => (a S).bind fun ds S1 => f ds S1
def cLen : List D → DS → Res D := fun ds S => match ds with
  | [.str x] => if x.length ≤ mxL then .ok (.int x.length) S else .stuck
  | [.tup xs] => .ok (.int xs.length) S
  | [.ro xs] => .ok (.int xs.length) S
  | [.ref n] => match S.h[n]? with
    | some (.lst xs) => .ok (.int xs.length) S
    | some (.dct kvs) => .ok (.int kvs.length) S
    | _ => .stuck
  | _ => .stuck
def cAbs : List D → DS → Res D := fun ds S => match ds with
  | [.int i] => .ok (.int (if i < 0 then -i else i)) S
  | _ => .stuck
def cInt : List D → DS → Res D := fun ds S => match ds with
  | [.int i] => .ok (.int i) S
  | [.bl b] => .ok (.int (if b then 1 else 0)) S
  | _ => .stuck
def cTuple : List D → DS → Res D := fun ds S => match ds with
  | [.tup xs] => .ok (.tup xs) S
  | [.ro xs] => .ok (.tup xs) S
  | [.ref n] => match S.h[n]? with
    | some (.lst xs) => .ok (.tup xs) S
    | _ => .stuck
  | _ => .stuck
def keyD : Key → D
  | .inl i => .int i
  | .inr x => .str x
def cList : List D → DS → Res D := fun ds S => match ds with
  | [.tup xs] => newO (.lst xs) S
  | [.ro xs] => newO (.lst xs) S
  | [.ref n] => match S.h[n]? with
    | some (.lst xs) => newO (.lst xs) S
    | some (.dct kvs) => newO (.lst (kvs.map fun kv => keyD kv.1)) S
    | _ => .stuck
  | _ => .stuck
/-- the built-in type's name -/
def tyName (S : DS) : D → Option String
  | .non => some "NoneType"
  | .bl _ => some "bool"
  | .int _ => some "int"
  | .str _ => some "str"
  | .tup _ => some "tuple"
  | .ro _ => some "list"
  | .ref n => match S.h[n]? with
    | some (.lst _) => some "list"
    | some (.dct _) => some "dict"
    | some (.fdct _) => some "dict"
    | none => none
  | _ => none
def isaB (a b : String) : Option Bool :=
  if ["NoneType", "bool", "int", "str", "tuple", "list", "dict"].contains a && ["bool", "int", "str", "tuple", "list", "dict"].contains b then some (a == b || (a == "bool" && b == "int")) else none
theorem isaB_ok {a b : String} {r : Bool} (h : isaB a b = some r) : kitB a b = some r := by
  unfold isaB at h
  split at h
  · rename_i hc
    obtain ⟨h1, h2⟩ := Bool.and_eq_true_iff.mp hc
    have m1 : a ∈ ["NoneType", "bool", "int", "str", "tuple", "list", "dict"] := by simpa using h1
    have m2 : b ∈ ["bool", "int", "str", "tuple", "list", "dict"] := by simpa using h2
    rw [← h]
    simp only [List.mem_cons, List.not_mem_nil, or_false] at m1 m2
    rcases m1 with rfl | rfl | rfl | rfl | rfl | rfl | rfl <;> rcases m2 with rfl | rfl | rfl | rfl | rfl | rfl <;> decide +kernel
  · cases h
def cIsi : List D → DS → Res D := fun ds S => match ds with
  | [d, .ty n] => match tyName S d with
    | some m => match isaB m n with
      | some b => .ok (.bl b) S
      | none => .stuck
    | none => .stuck
  | _ => .stuck
def cRepr : List D → DS → Res D := fun ds S => match ds with
  | [d] => match pyD S d with
    | some p => if PyData.showable p && !p.hasDict && decide (p.depth ≤ 30) && decide (p.shown.length ≤ mxL) then .ok (.str p.shown) S else .stuck
    | none => .stuck
  | _ => .stuck

section
variable {X : Cx} {cm : Str → Value} {W : WX} {e e1 e2 o : Expr} {es : List Expr} {x : Str} {p pos apos cpos : Pos} {fa fb fo : DE} {ga : DA}
theorem rd_cb {r : List V → Hp → VK → Prop} {f : List D → DS → Res D} (h : COp X cm W r f) {σ : L2.St} {H : Hp} {Q : VK} (q : rdE X.K cm W (dCB f ga) σ H Q) : tCB r (rdA X.K cm W ga) σ H Q := by
  obtain ⟨L, S, a, q⟩ := q
  refine ⟨L, S, a, (Aft.step (R := Reps X.K cm) q).mono fun v H1 z => ?_⟩
  obtain ⟨L1, S1, d, e1, x1, r1, q1⟩ := z
  exact h x1 r1 q1
theorem e_cb {id : String} {r : List V → Hp → VK → Prop} {f : List D → DS → Res D} (hc : CallR X (.builtin id) r) (h : COp X cm W r f) (hg : Gl X x) (hm : X.mg x = none) (hv : bootBuiltins x = some (.builtin id)) (ha : PA X (e :: es) (rdA X.K cm W ga))
    (hn : x ≠ "__name__" := by decide) (hdb : (x == ("__debug__" : Str)) = false := by decide) (he : starEach (e :: es) X.env = (false, eval e X.env) :: starEach es X.env := by rfl) (hpl : (backTo pos (starEach es X.env)).any (·.1) = false := by rfl) :
    PE X (.Call (.Name x p) (e :: es) [] pos) (rdE X.K cm W (dCB f ga)) := weakE (pe_callB hc hg hm hv ha hn hdb he hpl) fun _ _ _ => rd_cb h
theorem e_ct {T : String} {r : List V → Hp → VK → Prop} {f : List D → DS → Res D} (hc : CallR X (.type T) r) (h : COp X cm W r f) (hg : Gl X x) (hm : X.mg x = none) (hv : bootBuiltins x = some (.type T)) (ha : PA X (e :: es) (rdA X.K cm W ga))
    (hn : x ≠ "__name__" := by decide) (hdb : (x == ("__debug__" : Str)) = false := by decide) (he : starEach (e :: es) X.env = (false, eval e X.env) :: starEach es X.env := by rfl) (hpl : (backTo pos (starEach es X.env)).any (·.1) = false := by rfl) :
    PE X (.Call (.Name x p) (e :: es) [] pos) (rdE X.K cm W (dCB f ga)) := weakE (pe_callTy hc hg hm hv ha hn hdb he hpl) fun _ _ _ => rd_cb h
/-- a built-in class as a value -/
theorem e_ty {n : String} (hg : Gl X x) (hm : X.mg x = none) (hv : bootBuiltins x = some (.type n)) (hn : x ≠ "__name__" := by decide) (hd : (x == ("__debug__" : Str)) = false := by decide) : PE X (.Name x pos) (rdE X.K cm W (dC (.ty n))) :=
  weakE (pe_bltn (v := .ty n) hg hm hv rfl hn hd) fun _ _ _ => rd_c fun _ _ => .ty n
theorem repK_length {K : PySem.W.Frag} {L : List Addr} {H : Hp} : ∀ {ds : List (Key × D)} {vs : List (Key × V)}, RepK K cm L H ds vs → ds.length = vs.length
  | _, _, .nil => rfl
  | _, _, .cons _ t => by rw [List.length_cons, List.length_cons, repK_length t]
theorem co_len : COp X cm W (fun xs H Q => ((∃ z, xs = [.str z] ∧ z.length ≤ sizeLine ∧ Q (.int z.length) H) ∨ (∃ p ys, xs = [.ref p] ∧ (SqL X.K H p ys ∨ SqT X.K H p ys) ∧ Q (.int ys.length) H)) ∨ (∃ a kvs, xs = [V.ref a] ∧ H a = some (.dK kvs) ∧ Q (.int kvs.length) H)) cLen := by
  intro L H S σ xs ds Q a r q
  unfold cLen at q
  split at q
  · split at q
    · rename_i h
      cases r with
      | cons r1 r2 => cases r2; cases r1; exact .inl (.inl ⟨_, rfl, mx_line h, q.give a (.int _)⟩)
    · exact q.elim
  · cases r with
    | cons r1 r2 =>
      cases r2
      cases r1 with
      | tup h rr => exact .inl (.inr ⟨_, _, rfl, .inr h, by rw [← rr.length]; exact q.give a (.int _)⟩)
  · cases r with
    | cons r1 r2 =>
      cases r2
      cases r1 with
      | ro h rr => exact .inl (.inr ⟨_, _, rfl, .inl h.sq, by rw [← rr.length]; exact q.give a (.int _)⟩)
  · cases r with
    | cons r1 r2 =>
      cases r2
      split at q
      · rename_i h
        obtain ⟨p1, vs1, rfl, g1, e1, q1⟩ := a.lst r1 h
        exact .inl (.inr ⟨_, _, rfl, .inl (SqL.of e1), by rw [← q1.length]; exact q.give a (.int _)⟩)
      · rename_i h
        obtain ⟨p1, vs1, rfl, g1, e1, q1⟩ := a.dct r1 h
        exact .inr ⟨_, _, rfl, e1, by rw [← repK_length q1]; exact q.give a (.int _)⟩
      · exact q.elim
  · exact q.elim
theorem call_len_any : CallR X (.builtin "len") (fun xs H Q => ((∃ z, xs = [.str z] ∧ z.length ≤ sizeLine ∧ Q (.int z.length) H) ∨ (∃ p ys, xs = [.ref p] ∧ (SqL X.K H p ys ∨ SqT X.K H p ys) ∧ Q (.int ys.length) H)) ∨ (∃ a kvs, xs = [V.ref a] ∧ H a = some (.dK kvs) ∧ Q (.int kvs.length) H)) :=
  callR_or (callR_or call_len_str call_len_seq) call_lenD
theorem co_abs : COp X cm W (fun xs H Q => ∃ i, xs = [.int i] ∧ Q (.int (if i < 0 then -i else i)) H) cAbs := by
  intro L H S σ xs ds Q a r q
  unfold cAbs at q
  split at q
  · cases r with
    | cons r1 r2 => cases r2; cases r1; exact ⟨_, rfl, q.give a (.int _)⟩
  · exact q.elim
theorem co_int : COp X cm W (fun xs H Q => (∃ i, xs = [.int i] ∧ Q (.int i) H) ∨ ∃ k, xs = [.bl k] ∧ Q (.int (if k then 1 else 0)) H) cInt := by
  intro L H S σ xs ds Q a r q
  unfold cInt at q
  split at q
  · cases r with
    | cons r1 r2 => cases r2; cases r1; exact .inl ⟨_, rfl, q.give a (.int _)⟩
  · cases r with
    | cons r1 r2 => cases r2; cases r1; exact .inr ⟨_, rfl, q.give a (.int _)⟩
  · exact q.elim
theorem co_tuple : COp X cm W (fun xs H Q => ∃ p ys, xs = [.ref p] ∧ ((SqL X.K H p ys ∧ ∀ l, H l = none → Q (.ref l) (upd H l (.tup ys))) ∨ (SqT X.K H p ys ∧ Q (.ref p) H))) cTuple := by
  intro L H S σ xs ds Q a r q
  unfold cTuple at q
  split at q
  · cases r with
    | cons r1 r2 =>
      cases r2
      cases r1 with
      | tup h rr => exact ⟨_, _, rfl, .inr ⟨h, q.give a (.tup h rr)⟩⟩
  · cases r with
    | cons r1 r2 =>
      cases r2
      cases r1 with
      | ro h rr => exact ⟨_, _, rfl, .inl ⟨h.sq, fun l hl => q.giveE (Ext.beside hl) (a.beside hl) (.tup (.inl (.inl upd_same)) (rr.mono (Ext.beside hl)))⟩⟩
  · cases r with
    | cons r1 r2 =>
      cases r2
      split at q
      · rename_i h
        obtain ⟨p1, vs1, rfl, g1, e1, q1⟩ := a.lst r1 h
        exact ⟨_, _, rfl, .inl ⟨SqL.of e1, fun l hl => q.giveE (Ext.beside hl) (a.beside hl) (.tup (.inl (.inl upd_same)) (q1.mono (Ext.beside hl)))⟩⟩
      · exact q.elim
  · exact q.elim
theorem keys_reps {K : PySem.W.Frag} {L : List Addr} {H : Hp} : ∀ {ds : List (Key × D)} {vs : List (Key × V)}, RepK K cm L H ds vs → Reps K cm L H (ds.map fun kv => keyD kv.1) (vs.map fun kv => kV kv.1)
  | _, _, .nil => .nil
  | _, _, .cons (k := k) _ t => .cons (by cases k with
    | inl i => exact .int i
    | inr x => exact .str x) (keys_reps t)
theorem co_list : COp X cm W (fun xs H Q => (∃ p ys, xs = [.ref p] ∧ (SqL X.K H p ys ∨ SqT X.K H p ys) ∧ ∀ l, H l = none → Q (.ref l) (upd H l (.lst ys))) ∨ rListD xs H Q) cList := by
  intro L H S σ xs ds Q a r q
  unfold cList at q
  split at q
  · cases r with
    | cons r1 r2 =>
      cases r2
      cases r1 with
      | tup h rr => exact .inl ⟨_, _, rfl, .inr h, fun l hl => give_new a rr q hl⟩
  · cases r with
    | cons r1 r2 =>
      cases r2
      cases r1 with
      | ro h rr => exact .inl ⟨_, _, rfl, .inl h.sq, fun l hl => give_new a rr q hl⟩
  · cases r with
    | cons r1 r2 =>
      cases r2
      split at q
      · rename_i h
        obtain ⟨p1, vs1, rfl, g1, e1, q1⟩ := a.lst r1 h
        exact .inl ⟨_, _, rfl, .inl (SqL.of e1), fun l hl => give_new a q1 q hl⟩
      · rename_i h
        obtain ⟨p1, vs1, rfl, g1, e1, q1⟩ := a.dct r1 h
        exact .inr ⟨_, _, rfl, e1, fun l hl => give_new a (keys_reps q1) q hl⟩
      · exact q.elim
  · exact q.elim
theorem call_list_any (hc : X.calm = true) : CallR X (.type "list") (fun xs H Q => (∃ p ys, xs = [.ref p] ∧ (SqL X.K H p ys ∨ SqT X.K H p ys) ∧ ∀ l, H l = none → Q (.ref l) (upd H l (.lst ys))) ∨ rListD xs H Q) :=
  callR_or call_list_of (call_list_dK hc)
theorem ty_tup {K : PySem.W.Frag} {H : Hp} {a : Addr} {vs : List V} (h : SqT K H a vs) : TyX K H (.ref a) (.type "tuple") := by
  rcases h with (h | ⟨o, h⟩) | ⟨o, its, n, h, c, _⟩
  · exact .base (.tup h)
  · exact .fTuple h
  · exact .kTuple h c
theorem ty_lst {K : PySem.W.Frag} {H : Hp} {a : Addr} {vs : List V} (h : SqR K H a vs) : TyX K H (.ref a) (.type "list") := by
  rcases h with ⟨o, h⟩ | ⟨o, its, n, h, c, _⟩
  · exact .base (.frz h)
  · exact .kList h c
theorem ty_of {L : List Addr} {H : Hp} {S : DS} {σ : L2.St} {K : PySem.W.Frag} (a : AbS K cm L H S σ) {d : D} {v : V} (r : Rep K cm L H d v) {m : String} (h : tyName S d = some m) : TyX K H v (.type m) := by
  cases r with
  | non => cases h; exact .base .non
  | bl b => cases h; exact .base (.bl b)
  | int b => cases h; exact .base (.int b)
  | str b => cases h; exact .base (.str b)
  | ty n => cases h
  | cls n => cases h
  | tup hs _ => cases h; exact ty_tup hs
  | ro hs _ => cases h; exact ty_lst hs
  | @ref n p hL =>
    unfold tyName at h
    dsimp only at h
    split at h
    · rename_i xs hx
      cases h
      obtain ⟨vs, q, _⟩ := a.hp.obs _ _ _ hx hL
      exact .base (.lst q)
    · rename_i xs hx
      cases h
      obtain ⟨vs, q, _⟩ := a.hp.obs _ _ _ hx hL
      exact .base (.dK q)
    · rename_i xs hx
      cases h
      obtain ⟨o, vs, q, _⟩ := a.hp.obs _ _ _ hx hL
      exact .fDict q
    · cases h
theorem co_isi : COp X cm W (rIsi X.K) cIsi := by
  intro L H S σ xs ds Q a r q
  unfold cIsi at q
  split at q
  · split at q
    · rename_i m hm
      split at q
      · rename_i b hb
        cases r with
        | cons r1 r2 =>
          cases r2 with
          | cons r2 r3 =>
            cases r3
            cases r2
            exact ⟨_, _, _, _, b, rfl, .ty _, ty_of a r1 hm, kit_ty (isaB_ok hb), q.give a (.bl b)⟩
      · exact q.elim
    · exact q.elim
  · exact q.elim
/-- repr of data of any depth -/
def rReprD (K : PySem.W.Frag) : List V → Hp → VK → Prop := fun xs H Q => ∃ v p, xs = [v] ∧ Dp K H v p ∧ PyData.showable p = true ∧ p.hasDict = false ∧ p.depth ≤ 30 ∧ p.shown.length ≤ sizeLine ∧ Q (.str p.shown) H
theorem call_reprD (hu : X.A.units + 64 < cLine) (hg : X.A.guards = some []) : CallR X (.builtin "repr") (rReprD X.K) := by
  intro pins s σ H xs us Q I r h
  obtain ⟨v, p, rfl, hd, hs, hnd, hdp, hz, q⟩ := h
  obtain ⟨u, rfl, ru⟩ := vals1 r
  obtain ⟨as, rr⟩ := Dp.reads I p v u hd ru
  have big : ∀ a, Reads s.heap (.ref a) p as → wpAny (model X.prog X.w) X.A (call (.builtin "repr") [.ref a]) (EP X pins σ Q) X.xe s := fun a rr =>
    repr_of_reads' rr hs (PyData.noDict_hsm hnd) hg (by omega) (fun _ _ z => z) (fun h' t tk k => ⟨.str p.shown, H, I.kept k, ⟨_, rfl⟩, q⟩) hz
  cases rr with
  | none =>
    rw [PyData.shown_none] at q
    exact PySem.P.repr_of_none ⟨.str _, H, I.tok _, ⟨_, rfl⟩, q⟩
  | bool b =>
    rw [PyData.shown_bool] at q
    exact PySem.P.repr_of_bool ⟨.str _, H, I.tok _, ⟨_, rfl⟩, q⟩
  | int i t =>
    rw [PyData.shown_int] at q
    exact PySem.P.repr_of_int (by simpa [PyData.showable] using hs) ⟨.str _, H, I.tok _, ⟨_, rfl⟩, q⟩
  | str x t =>
    rw [PyData.shown_str] at q hz
    exact PySem.P.repr_of_str ⟨.str _, H, I.tok _, ⟨_, rfl⟩, q⟩ hz
  | list h1 h2 h3 h4 => exact big _ (.list h1 h2 h3 h4)
  | tuple h1 h2 h3 h4 => exact big _ (.tuple h1 h2 h3 h4)
  | dict h1 h2 h3 h4 h5 => exact big _ (.dict h1 h2 h3 h4 h5)
theorem co_repr : COp X cm W (rReprD X.K) cRepr := by
  intro L H S σ xs ds Q a r q
  unfold cRepr at q
  split at q
  · split at q
    · rename_i p hp
      split at q
      · rename_i h
        simp only [Bool.and_eq_true, Bool.not_eq_true', decide_eq_true_eq] at h
        obtain ⟨⟨⟨h1, h2⟩, h3⟩, h4⟩ := h
        cases r with
        | cons r1 r2 =>
          cases r2
          exact ⟨_, p, rfl, pyD_rep a r1 hp, h1, h2, h3, mx_line h4, q.give a (.str _)⟩
      · exact q.elim
    · exact q.elim
  · exact q.elim
end
end Den

namespace Den
open PySem L2

/-! ### 12. subscripts, slices, in -/
def oIx : D → D → DS → Res D := fun x y S => match x, y with
  | .tup xs, .int i => match atI xs i with
    | some d => .ok d S
    | none => .stuck
  | .ro xs, .int i => match atI xs i with
    | some d => .ok d S
    | none => .stuck
  | .str z, .int i => if z.length ≤ mxL then match atI z.cps.toList i with
    | some c => .ok (.str ⟨#[c]⟩) S
    | none => .stuck else .stuck
  | .ref n, y => match S.h[n]?, y with
    | some (.lst xs), .int i => match atI xs i with
      | some d => .ok d S
      | none => .stuck
    | some (.dct kvs), y => match keyOf y with
      | some k => match valD kvs k with
        | some d => .ok d S
        | none => .stuck
      | none => .stuck
    | some (.fdct kvs), y => match keyOf y with
      | some k => match valD kvs k with
        | some d => .ok d S
        | none => .stuck
      | none => .stuck
    | _, _ => .stuck
  | _, _ => .stuck
def rIxD : R2 := fun x y H Q => ∃ a v, x = .ref a ∧ DGet H a y (some v) ∧ Q v H
section
variable {X : Cx} {cm : Str → Value} {W : WX} {e e1 e2 o : Expr} {es : List Expr} {x : Str} {p pos apos cpos : Pos} {fa fb fo : DE} {ga : DA} {K : PySem.W.Frag} {L : List Addr} {H : Hp} {S : DS} {σ : L2.St}
theorem ix_dct (hu : X.A.units + 1 < cLine) : IxR X rIxD := by
  intro value slice pins s σ H x y v u Q I rx ry h hs
  obtain ⟨a, z, rfl, g, q⟩ := h
  cases rx
  exact PyProof.Rows.tail_any (dict_typeIs I g) PySem.F.slot_dict_getitem.lookup (d_getItem hu I g ry fun w' s3 I3 rw' => ⟨z, H, I3, rw', q⟩) hs
theorem reps_at {ds : List D} {vs : List V} {i : Int} {d : D} (r : Reps K cm L H ds vs) (h : atI ds i = some d) : ∃ v, atI vs i = some v ∧ Rep K cm L H d v := by
  unfold atI at h ⊢
  rw [← r.length]
  cases e : ixN ds.length i with
  | none => rw [e] at h; cases h
  | some j =>
    rw [e] at h
    exact r.get h
theorem repK_find {f : Key → Bool} : ∀ {ds : List (Key × D)} {vs : List (Key × V)}, RepK K cm L H ds vs → (∀ p, ds.find? (fun p => f p.1) = some p → ∃ q, vs.find? (fun p => f p.1) = some q ∧ q.1 = p.1 ∧ Rep K cm L H p.2 q.2) ∧ (ds.find? (fun p => f p.1) = none → vs.find? (fun p => f p.1) = none)
  | [], [], .nil => ⟨fun _ h => (by cases h), fun _ => rfl⟩
  | (j, d0) :: ds, (_, v0) :: vs, .cons r t => by
    obtain ⟨h1, h2⟩ := repK_find (f := f) t
    rw [List.find?_cons, List.find?_cons]
    cases f j with
    | true => exact ⟨fun p h => (by cases h; exact ⟨_, rfl, rfl, r⟩), fun h => (by cases h)⟩
    | false => exact ⟨h1, h2⟩
theorem repK_val {ds : List (Key × D)} {vs : List (Key × V)} (k : Key) (r : RepK K cm L H ds vs) : (∀ d, valD ds k = some d → ∃ v, valV vs k = some v ∧ Rep K cm L H d v) ∧ (valD ds k = none → valV vs k = none) := by
  obtain ⟨h1, h2⟩ := repK_find (f := fun j => decide (j = k)) r
  unfold valD valV
  refine ⟨fun d h => ?_, fun h => ?_⟩
  · obtain ⟨p, hp, rfl⟩ := Option.map_eq_some_iff.mp h
    obtain ⟨q, hq, _, rq⟩ := h1 p hp
    exact ⟨q.2, by rw [hq]; rfl, rq⟩
  · rw [h2 (Option.map_eq_none_iff.mp h)]
    rfl
theorem repK_any {f : Key → Bool} : ∀ {ds : List (Key × D)} {vs : List (Key × V)}, RepK K cm L H ds vs → ds.any (fun p => f p.1) = vs.any (fun p => f p.1)
  | _, _, .nil => rfl
  | _, _, .cons _ t => by rw [List.any_cons, List.any_cons, repK_any t]
theorem repK_append : ∀ {ds es : List (Key × D)} {vs ws : List (Key × V)}, RepK K cm L H ds vs → RepK K cm L H es ws → RepK K cm L H (ds ++ es) (vs ++ ws)
  | _, _, _, _, .nil, q => q
  | _, _, _, _, .cons r t, q => .cons r (repK_append t q)
theorem repK_map {k : Key} {d : D} {v : V} (r0 : Rep K cm L H d v) : ∀ {ds : List (Key × D)} {vs : List (Key × V)}, RepK K cm L H ds vs → RepK K cm L H (ds.map fun p => if p.1 = k then (p.1, d) else p) (vs.map fun p => if p.1 = k then (p.1, v) else p)
  | [], [], .nil => .nil
  | (j, d1) :: _, (_, v1) :: _, .cons r t => by
    rw [List.map_cons, List.map_cons]
    by_cases z : j = k
    · rw [if_pos (show (j, d1).1 = k from z), if_pos (show (j, v1).1 = k from z)]
      exact .cons r0 (repK_map r0 t)
    · rw [if_neg (show ¬ (j, d1).1 = k from z), if_neg (show ¬ (j, v1).1 = k from z)]
      exact .cons r (repK_map r0 t)
theorem repK_put {ds : List (Key × D)} {vs : List (Key × V)} {k : Key} {d : D} {v : V} (r : RepK K cm L H ds vs) (r0 : Rep K cm L H d v) : RepK K cm L H (putD ds k d) (putK vs k v) := by
  unfold putD putK hasD
  rw [repK_any (f := fun j => decide (j = k)) r]
  split
  · exact repK_map r0 r
  · exact repK_append r (.cons r0 .nil)
theorem keyOf_rep {d : D} {v : V} {k : Key} (r : Rep K cm L H d v) (h : keyOf d = some k) : v = kV k := by
  cases r <;> simp [keyOf] at h <;> subst h <;> rfl
theorem AbS.dget {n : Nat} {v : V} {kvs : List (Key × D)} (a : AbS K cm L H S σ) (r : Rep K cm L H (.ref n) v) (h : S.h[n]? = some (.dct kvs) ∨ S.h[n]? = some (.fdct kvs)) : ∃ p vs, v = .ref p ∧ Rd H p (.dK vs) ∧ RepK K cm L H kvs vs := by
  cases r with
  | ref ha =>
    rcases h with h | h
    · obtain ⟨vs, q, r⟩ := a.hp.obs _ _ _ h ha
      exact ⟨_, vs, rfl, .inl q, r⟩
    · obtain ⟨o, vs, q, r⟩ := a.hp.obs _ _ _ h ha
      exact ⟨_, vs, rfl, .inr ⟨o, q⟩, r⟩
theorem ro_ix : ROp X cm W (fun x y H Q => rIx X.K x y H Q ∨ rIxD x y H Q) oIx := by
  intro L H S σ x y d e Q a r1 r2 q
  unfold oIx at q
  split at q
  · split at q
    · rename_i h
      cases r1 with
      | tup hs rr =>
        cases r2
        obtain ⟨v, hv, rv⟩ := reps_at rr h
        exact .inl (.inr (.inl ⟨_, _, _, _, rfl, rfl, hs, hv, q.give a rv⟩))
    · exact q.elim
  · split at q
    · rename_i h
      cases r1 with
      | ro hs rr =>
        cases r2
        obtain ⟨v, hv, rv⟩ := reps_at rr h
        exact .inl (.inl ⟨_, _, _, _, rfl, rfl, hs.sq, hv, q.give a rv⟩)
    · exact q.elim
  · split at q
    · rename_i hz
      split at q
      · rename_i h
        cases r1; cases r2
        exact .inl (.inr (.inr ⟨_, _, _, rfl, rfl, mx_line hz, h, q.give a (.str _)⟩))
      · exact q.elim
    · exact q.elim
  · split at q
    · rename_i hx
      split at q
      · rename_i h
        obtain ⟨p1, vs1, rfl, g1, e1, q1⟩ := a.lst r1 hx
        cases r2
        obtain ⟨v, hv, rv⟩ := reps_at q1 h
        exact .inl (.inl ⟨_, _, _, _, rfl, rfl, SqL.of e1, hv, q.give a rv⟩)
      · exact q.elim
    · rename_i hx
      split at q
      · rename_i k hk
        split at q
        · rename_i h
          obtain ⟨p, vs, rfl, g, rr⟩ := a.dget r1 (.inl hx)
          obtain ⟨v, hv, rv⟩ := (repK_val k rr).1 _ h
          exact .inr ⟨p, v, rfl, .inl ⟨vs, k, g, keyOf_rep r2 hk, hv.symm⟩, q.give a rv⟩
        · exact q.elim
      · exact q.elim
    · rename_i hx
      split at q
      · rename_i k hk
        split at q
        · rename_i h
          obtain ⟨p, vs, rfl, g, rr⟩ := a.dget r1 (.inr hx)
          obtain ⟨v, hv, rv⟩ := (repK_val k rr).1 _ h
          exact .inr ⟨p, v, rfl, .inl ⟨vs, k, g, keyOf_rep r2 hk, hv.symm⟩, q.give a rv⟩
        · exact q.elim
      · exact q.elim
    · exact q.elim
  · exact q.elim
theorem e_ix (hu : X.A.units + 1 < cLine) (ha : PE X e1 (rdE X.K cm W fa)) (hb : PE X e2 (rdE X.K cm W fb)) (hs : PlainIx e2 := by exact fun _ _ => rfl) : PE X (.Subscript e1 e2 pos) (rdE X.K cm W (dBin oIx fa fb)) :=
  weakE (pe_ix (ix_seq.or (ix_dct hu)) ha hb hs) fun _ _ _ => rd_bin ro_ix
end
end Den

namespace Den
open PySem L2

/-! ### 13. slices -/
def cutD (xs : List D) (lo hi : Option Int) : List D := (xs.drop (HT.sIx xs.length 0 lo)).take (HT.sIx xs.length xs.length hi - HT.sIx xs.length 0 lo)
def dPN : DS → Res (Option Int) := fun S => .ok none S
def dPS (a : DE) : DS → Res (Option Int) := fun S => (a S).bind fun d S1 => match d with
  | .int i => .ok (some i) S1
  | _ => .stuck
def oSl : D → Option Int → Option Int → DS → Res D := fun x lo hi S => match x with
  | .str z => if z.length ≤ mxL then .ok (.str (cutS z lo hi)) S else .stuck
  | .tup xs => .ok (.tup (cutD xs lo hi)) S
  | .ro xs => newO (.lst (cutD xs lo hi)) S
  | .ref n => match S.h[n]? with
    | some (.lst xs) => newO (.lst (cutD xs lo hi)) S
    | _ => .stuck
  | _ => .stuck
def dSl (a : DE) (lo hi : DS → Res (Option Int)) : DE := fun S => (a S).bind fun x S1 => (lo S1).bind fun l S2 => (hi S2).bind fun u S3 => oSl x l u S3
/-- x in y -/
def inD : D → D → DS → Option Bool := fun x y S => match y with
  | .str b => match x with
    | .str a => some (!(Builtin.Str.occurrences b a 0 b.length 1).isEmpty)
    | _ => none
  | .tup ys => match pyD S x, ys.mapM (pyD S) with
    | some p, some ps => if SeqAt.shaped p && SeqAt.shaped (.tuple ps) then some (ps.any fun z => PyData.eqv z p) else none
    | _, _ => none
  | .ro ys => match pyD S x, ys.mapM (pyD S) with
    | some p, some ps => if SeqAt.shaped p && SeqAt.shaped (.list ps) then some (ps.any fun z => PyData.eqv z p) else none
    | _, _ => none
  | .ref n => match S.h[n]? with
    | some (.lst ys) => match pyD S x, ys.mapM (pyD S) with
      | some p, some ps => if SeqAt.shaped p && SeqAt.shaped (.list ps) then some (ps.any fun z => PyData.eqv z p) else none
      | _, _ => none
    | some (.dct kvs) => (keyOf x).map fun k => (valD kvs k).isSome
    | some (.fdct kvs) => (keyOf x).map fun k => (valD kvs k).isSome
    | none => none
  | _ => none
def oIn : D → D → DS → Res D := fun x y S => match inD x y S with
  | some b => .ok (.bl b) S
  | none => .stuck
def oNotIn : D → D → DS → Res D := fun x y S => match inD x y S with
  | some b => .ok (.bl (!b)) S
  | none => .stuck
section
variable {X : Cx} {cm : Str → Value} {W : WX} {e e1 e2 o : Expr} {es : List Expr} {x : Str} {p pos apos cpos p2 : Pos} {fa fb fo : DE} {ga : DA} {K : PySem.W.Frag} {L : List Addr} {H : Hp} {S : DS} {σ : L2.St} {lo hi : Option Expr} {gl gh : DS → Res (Option Int)}
theorem p_none : PO X none (rdO X.K cm W dPN) := ⟨fun pins s σ H Q I q => po_none.run pins s σ H Q I (by
  obtain ⟨L, S, a, q⟩ := q
  exact q.give a rfl)⟩
theorem p_some (h : PE X e (rdE X.K cm W fa)) : PO X (some e) (rdO X.K cm W (dPS fa)) := ⟨fun pins s σ H Q I q => (po_some h).run pins s σ H Q I (by
  obtain ⟨L, S, a, q⟩ := q
  refine ⟨L, S, a, (Aft.step (R := Rep X.K cm) q).mono fun v H1 z => ?_⟩
  obtain ⟨L1, S1, d, e1, x1, r1, q1⟩ := z
  split at q1
  · cases r1
    exact ⟨_, rfl, q1.give x1 rfl⟩
  · exact q1.elim)⟩
theorem cut_reps {ds : List D} {vs : List V} (r : Reps K cm L H ds vs) (lo hi : Option Int) : Reps K cm L H (cutD ds lo hi) (cutV vs lo hi) := by
  unfold cutD cutV
  rw [← r.length]
  exact (r.drop _).take _
theorem cut_whole {ds : List D} {lo hi : Option Int} (h : HT.sIx ds.length 0 lo = 0 ∧ HT.sIx ds.length ds.length hi = ds.length) : cutD ds lo hi = ds := by
  unfold cutD
  rw [h.1, h.2, List.drop_zero, Nat.sub_zero, List.take_length]
theorem e_slice (ha : PE X e (rdE X.K cm W fa)) (hl : PO X lo (rdO X.K cm W gl)) (hh : PO X hi (rdO X.K cm W gh)) : PE X (.Subscript e (.Slice lo hi none p2) pos) (rdE X.K cm W (dSl fa gl gh)) := weakE (pe_slice (SlR.or (SlR.or sl_list sl_tupA) sl_str) ha hl hh) fun σ H Q q => by
  obtain ⟨L, S, a, q⟩ := q
  refine ⟨L, S, a, (Aft.step (R := Rep X.K cm) q).mono fun v H1 z => ?_⟩
  obtain ⟨L1, S1, d, e1, x1, r1, q1⟩ := z
  refine ⟨L1, S1, x1, (Aft.step (R := fun _ _ (b c : Option Int) => b = c) q1).mono fun l H2 z => ?_⟩
  obtain ⟨L2, S2, l', e2, x2, rfl, q2⟩ := z
  refine ⟨L2, S2, x2, (Aft.step (R := fun _ _ (b c : Option Int) => b = c) q2).mono fun u H3 z => ?_⟩
  obtain ⟨L3, S3, u', e3, x3, rfl, q3⟩ := z
  have r3 := r1.mono (e2.trans e3)
  unfold oSl at q3
  split at q3
  · split at q3
    · rename_i h
      cases r3
      exact .inr ⟨_, rfl, mx_line h, q3.give x3 (.str _)⟩
    · exact q3.elim
  · cases r3 with
    | tup hs rr =>
      refine .inl (.inr ⟨_, _, rfl, hs, fun h => ?_, fun _ p hp => ?_⟩)
      · rw [← rr.length] at h
        rw [cut_whole h] at q3
        exact q3.give x3 (.tup hs rr)
      · exact q3.giveE (Ext.beside hp) (x3.beside hp) (.tup (.inl (.inl upd_same)) ((cut_reps rr _ _).mono (Ext.beside hp)))
  · cases r3 with
    | ro hs rr => exact .inl (.inl ⟨_, _, rfl, hs.sq, fun p hp => give_new x3 (cut_reps rr _ _) q3 hp⟩)
  · split at q3
    · rename_i hx
      obtain ⟨p1, vs1, rfl, g1, e1, rr⟩ := x3.lst r3 hx
      exact .inl (.inl ⟨_, _, rfl, SqL.of e1, fun p hp => give_new x3 (cut_reps rr _ _) q3 hp⟩)
    · exact q3.elim
  · exact q3.elim

/-- what in asks, by the values -/
def rInA (K : PySem.W.Frag) (g : Bool → Bool) : R2 := fun x y H Q =>
  ((∃ i j, x = .str i ∧ y = .str j ∧ Q (.bl (g (!(Builtin.Str.occurrences j i 0 j.length 1).isEmpty))) H) ∨ (∃ d ds, Dp K H x d ∧ Dp K H y (.list ds) ∧ SeqAt.shaped d = true ∧ SeqAt.shaped (.list ds) = true ∧ Q (.bl (g (ds.any fun z => PyData.eqv z d))) H)) ∨
  ((∃ d ds, Dp K H x d ∧ Dp K H y (.tuple ds) ∧ SeqAt.shaped d = true ∧ SeqAt.shaped (.tuple ds) = true ∧ Q (.bl (g (ds.any fun z => PyData.eqv z d))) H) ∨ ∃ a o, y = .ref a ∧ DGet H a x o ∧ Q (.bl (g o.isSome)) H)
theorem room_in {A : Around} {ps : List PyData} {p : PyData} (hu : A.units + 66 < cLine) (h : SeqAt.shaped p = true) : A.units + 1 + min (PyData.depthAll ps) p.depth < cLine := by
  have h1 := SeqAt.depth_of_shaped h
  have h2 : min (PyData.depthAll ps) p.depth ≤ p.depth := Nat.min_le_right _ _
  omega
theorem op_inA (hu : X.A.units + 66 < cLine) : OpR X (compareOp .In) (rInA X.K id) := by
  refine OpR.or (OpR.or op_in_str (op_inD (by omega))) (OpR.or ?_ ?_)
  · intro pins s σ H x y v u Q I rx ry h
    obtain ⟨d, ds, hd, he, sd, se, q⟩ := h
    obtain ⟨as, r1⟩ := Dp.reads I d x v hd rx
    obtain ⟨bs, r2⟩ := Dp.reads I (.tuple ds) y u he ry
    have cl : PyData.canLayAll0 ds = true := by simpa [PyData.canLay0] using SeqAt.canLay_of_shaped se
    exact SeqAt.in_tuple_reads r2 r1 cl (SeqAt.canLay_of_shaped sd) (room_in hu sd) ⟨.bl _, H, I, rfl, q⟩
  · intro pins s σ H x y v u Q I rx ry h
    obtain ⟨a, ov, rfl, g, q⟩ := h
    cases ry
    exact d_in (by omega) I g rx fun s' I' => ⟨.bl _, H, I', rfl, q⟩
theorem op_notInA (hu : X.A.units + 66 < cLine) : OpR X (compareOp .NotIn) (rInA X.K not) := by
  refine OpR.or (OpR.or op_notIn_str (op_notInD (by omega))) (OpR.or ?_ ?_)
  · intro pins s σ H x y v u Q I rx ry h
    obtain ⟨d, ds, hd, he, sd, se, q⟩ := h
    obtain ⟨as, r1⟩ := Dp.reads I d x v hd rx
    obtain ⟨bs, r2⟩ := Dp.reads I (.tuple ds) y u he ry
    have cl : PyData.canLayAll0 ds = true := by simpa [PyData.canLay0] using SeqAt.canLay_of_shaped se
    exact SeqAt.notIn_tuple_reads r2 r1 cl (SeqAt.canLay_of_shaped sd) (room_in hu sd) ⟨.bl _, H, I, rfl, q⟩
  · intro pins s σ H x y v u Q I rx ry h
    obtain ⟨a, ov, rfl, g, q⟩ := h
    cases ry
    exact d_notIn (by omega) I g rx fun s' I' => ⟨.bl _, H, I', rfl, q⟩
theorem in_core {x y : V} {d e : D} (a : AbS K cm L H S σ) (r1 : Rep K cm L H d x) (r2 : Rep K cm L H e y) {b : Bool} (h : inD d e S = some b) {g : Bool → Bool} {Q : VK} (q : Q (.bl (g b)) H) : rInA K g x y H Q := by
  unfold inD at h
  split at h
  · split at h
    · cases r1; cases r2; cases h
      exact .inl (.inl ⟨_, _, rfl, rfl, q⟩)
    · cases h
  · split at h
    · rename_i p ps h1 h2
      split at h
      · rename_i hs
        cases h
        obtain ⟨s1, s2⟩ := Bool.and_eq_true_iff.mp hs
        cases r2 with
        | tup ht rr => exact .inr (.inl ⟨p, ps, pyD_rep a r1 h1, .tup ht (toPys_rep (fun _ _ _ r e => pyD_rep a r e) rr h2), s1, s2, q⟩)
      · cases h
    · cases h
  · split at h
    · rename_i p ps h1 h2
      split at h
      · rename_i hs
        cases h
        obtain ⟨s1, s2⟩ := Bool.and_eq_true_iff.mp hs
        cases r2 with
        | ro ht rr => exact .inl (.inr ⟨p, ps, pyD_rep a r1 h1, .lst ht.sq (toPys_rep (fun _ _ _ r e => pyD_rep a r e) rr h2), s1, s2, q⟩)
      · cases h
    · cases h
  · split at h
    · rename_i hx
      split at h
      · rename_i p ps h1 h2
        split at h
        · rename_i hs
          cases h
          obtain ⟨s1, s2⟩ := Bool.and_eq_true_iff.mp hs
          obtain ⟨p1, vs1, rfl, g1, e1, rr⟩ := a.lst r2 hx
          exact .inl (.inr ⟨p, ps, pyD_rep a r1 h1, .lst (SqL.of e1) (toPys_rep (fun _ _ _ r e => pyD_rep a r e) rr h2), s1, s2, q⟩)
        · cases h
      · cases h
    · rename_i kvs hx
      obtain ⟨k, hk, rfl⟩ := Option.map_eq_some_iff.mp h
      obtain ⟨p, vs, rfl, gd, rr⟩ := a.dget r2 (.inl hx)
      refine .inr (.inr ⟨p, valV vs k, rfl, .inl ⟨vs, k, gd, keyOf_rep r1 hk, rfl⟩, ?_⟩)
      have e : (valV vs k).isSome = (valD kvs k).isSome := by
        cases z : valD kvs k with
        | none => rw [(repK_val k rr).2 z] <;> rfl
        | some d => obtain ⟨v, hv, _⟩ := (repK_val k rr).1 d z; rw [hv]; rfl
      rw [e]; exact q
    · rename_i kvs hx
      obtain ⟨k, hk, rfl⟩ := Option.map_eq_some_iff.mp h
      obtain ⟨p, vs, rfl, gd, rr⟩ := a.dget r2 (.inr hx)
      refine .inr (.inr ⟨p, valV vs k, rfl, .inl ⟨vs, k, gd, keyOf_rep r1 hk, rfl⟩, ?_⟩)
      have e : (valV vs k).isSome = (valD kvs k).isSome := by
        cases z : valD kvs k with
        | none => rw [(repK_val k rr).2 z] <;> rfl
        | some d => obtain ⟨v, hv, _⟩ := (repK_val k rr).1 d z; rw [hv]; rfl
      rw [e]; exact q
    · cases h
  · cases h
theorem ro_in : ROp X cm W (rInA X.K id) oIn := by
  intro L H S σ x y d e Q a r1 r2 q
  unfold oIn at q
  split at q
  · rename_i b h
    exact in_core a r1 r2 h (q.give a (.bl _))
  · exact q.elim
theorem ro_notIn : ROp X cm W (rInA X.K not) oNotIn := by
  intro L H S σ x y d e Q a r1 r2 q
  unfold oNotIn at q
  split at q
  · rename_i b h
    exact in_core a r1 r2 h (q.give a (.bl _))
  · exact q.elim
end

/-! ### 14. dicts made and stored, lists stored -/
def evPairs : List (DE × DE) → DS → Res (List (D × D))
  | [] => fun S => .ok [] S
  | p :: r => fun S => (p.1 S).bind fun x S1 => (p.2 S1).bind fun y S2 => (evPairs r S2).bind fun ps S3 => .ok ((x, y) :: ps) S3
def keyPairs : List (D × D) → Option (List (Key × D))
  | [] => some []
  | p :: r => (keyOf p.1).bind fun k => (keyPairs r).map fun ks => (k, p.2) :: ks
def mergeD (kvs more : List (Key × D)) : List (Key × D) := more.foldl (fun acc p => putD acc p.1 p.2) kvs
def dDict (fs : List (DE × DE)) : DE := fun S => (evPairs fs S).bind fun ps S1 => match keyPairs ps with
  | some ks => if ks.length ≤ 15 then newO (.dct (mergeD [] ks)) S1 else .stuck
  | none => .stuck
def oPut : D → D → D → DS → Option DS := fun o i v S => match o with
  | .ref n => match S.h[n]? with
    | some (.lst xs) => match i with
      | .int k => match ixN xs.length k with
        | some j => some { S with h := S.h.set n (.lst (xs.set j v)) }
        | none => none
      | _ => none
    | some (.dct kvs) => match keyOf i with
      | some k => if kvs.length < mxL then some { S with h := S.h.set n (.dct (putD kvs k v)) } else none
      | none => none
    | _ => none
  | _ => none
def sPut (v o i : DE) : DSt := fun S => (v S).bind fun d S1 => (o S1).bind fun x S2 => (i S2).bind fun k S3 => match oPut x k d S3 with
  | some S4 => .ok .next S4
  | none => .stuck
section
variable {X : Cx} {cm : Str → Value} {W : WX} {e e1 e2 o : Expr} {es : List Expr} {x : Str} {p pos apos cpos p2 : Pos} {fa fb fo : DE} {ga : DA} {K : PySem.W.Frag} {L : List Addr} {H : Hp} {S : DS} {σ : L2.St}
def trsOf (K : PySem.W.Frag) (cm : Str → Value) (W : WX) (fs : List (DE × DE)) : List (TE × TE) := fs.map fun p => (rdE K cm W p.1, rdE K cm W p.2)
inductive Rep2 (K : PySem.W.Frag) (cm : Str → Value) (L : List Addr) (H : Hp) : List (D × D) → List (V × V) → Prop
  | nil : Rep2 K cm L H [] []
  | cons {a b : D} {x y : V} {ds : List (D × D)} {vs : List (V × V)} : Rep K cm L H a x → Rep K cm L H b y → Rep2 K cm L H ds vs → Rep2 K cm L H ((a, b) :: ds) ((x, y) :: vs)
theorem rd_pairs : ∀ (fs : List (DE × DE)) {L : List Addr} {H : Hp} {S : DS} {Q : List (V × V) → Hp → Prop}, AbS K cm L H S σ → Aft K cm W (Rep2 K cm) L σ H (evPairs fs S) Q → tPairs (trsOf K cm W fs) σ H Q
  | [], L, H, S, Q, a, q => q.give a .nil
  | f :: fs, L, H, S, Q, a, q => by
    refine ⟨L, S, a, (Aft.step (R := Rep K cm) q).mono fun v H1 z => ?_⟩
    obtain ⟨L1, S1, d, e1, x1, r1, q1⟩ := z
    refine ⟨L1, S1, x1, (Aft.step (R := Rep K cm) q1).mono fun u H2 z => ?_⟩
    obtain ⟨L2, S2, d2, e2, x2, r2, q2⟩ := z
    refine rd_pairs fs x2 ((Aft.step (R := Rep2 K cm) q2).mono fun w H3 z => ?_)
    obtain ⟨L3, S3, d3, e3, x3, r3, q3⟩ := z
    exact q3.give x3 (.cons (r1.mono (e2.trans e3)) (r2.mono e3) r3)
theorem keyPairs_rep : ∀ {ps : List (D × D)} {vs : List (V × V)} {ks : List (Key × D)}, Rep2 K cm L H ps vs → keyPairs ps = some ks → ∃ kvs : List (Key × V), vs = kvs.map (fun kv => (kV kv.1, kv.2)) ∧ RepK K cm L H ks kvs
  | _, _, _, .nil, h => by
    cases h
    exact ⟨[], rfl, .nil⟩
  | _, _, _, .cons r1 r2 t, h => by
    unfold keyPairs at h
    obtain ⟨k, hk, h⟩ := Option.bind_eq_some_iff.mp h
    obtain ⟨ks, hks, rfl⟩ := Option.map_eq_some_iff.mp h
    obtain ⟨kvs, rfl, rr⟩ := keyPairs_rep t hks
    exact ⟨(k, _) :: kvs, by rw [List.map_cons, keyOf_rep r1 hk], .cons r2 rr⟩
theorem merge_rep : ∀ {ms : List (Key × D)} {ns : List (Key × V)} {ks : List (Key × D)} {vs : List (Key × V)}, RepK K cm L H ms ns → RepK K cm L H ks vs → RepK K cm L H (mergeD ks ms) (mergeK vs ns)
  | _, _, _, _, .nil, r => r
  | _, _, ks, vs, .cons (k := k) (d := d) (v := v) r0 t, r => by
    show RepK K cm L H (mergeD (putD ks k d) _) (mergeK (putK vs k v) _)
    exact merge_rep t (repK_put r r0)
theorem e_dict {keys : List (Option Expr)} {values : List Expr} {fs : List (DE × DE)} (h : PPs X pos keys values (trsOf X.K cm W fs)) (hall : keys.all (·.isSome) = true := by rfl) (hl : keys.length = values.length := by rfl) (h0 : keys ≠ [] := by exact fun z => by cases z) (h15 : keys.length ≤ 15 := by decide) :
    PE X (.Dict keys values pos) (rdE X.K cm W (dDict fs)) := weakE (pe_disp h hall hl h0 h15) fun σ H Q q => by
  obtain ⟨L, S, a, q⟩ := q
  intro p hp
  have a1 := a.beside (o := .dK []) hp
  have pf := a.hp.fresh hp
  refine rd_pairs fs a1 ?_
  unfold dDict at q
  generalize hr : evPairs fs S = r at q
  cases r with
  | ok ps S1 =>
    intro L1 H1 vs e1 x1 r1
    obtain ⟨np, h1, w1, ea⟩ := Ext.adopt (o2 := .dK []) hp pf e1 (.inr ⟨[], upd_same⟩)
    refine ⟨h1, ?_⟩
    rw [Res.bind_ok] at q
    split at q
    · rename_i ks hk
      obtain ⟨kvs, rfl, rk⟩ := keyPairs_rep r1 hk
      split at q
      · rename_i hz
        refine ⟨kvs, rfl, by rw [← repK_length rk]; exact hz, ?_⟩
        obtain ⟨_, _, _, eb⟩ := Ext.adopt (o2 := .dK (mergeK [] kvs)) hp pf e1 (.inr ⟨[], upd_same⟩)
        have mw : ExtW X.K L1 H1 (L1 ++ [p]) (upd H1 p (.dK (mergeK [] kvs))) := ExtW.adopt w1
        have hb : HAb X.K cm (L1 ++ [p]) (upd H1 p (.dK (mergeK [] kvs))) (S1.h ++ [.dct (mergeD [] ks)]) := x1.hp.adopt np w1 ⟨_, upd_same, (merge_rep rk .nil).monoW mw⟩
        exact q _ _ _ eb ⟨hb, x1.loc.monoW mw⟩ (.ref x1.hp.newIx)
      · exact q.elim
    · exact q.elim
  | exc u S1 =>
    intro L1 H1 c dx e1 x1 r1
    exact q L1 H1 c dx ((Ext.beside hp).trans e1) x1 r1
  | stuck => exact q
def rSetDk : V → V → V → Hp → (Hp → Prop) → Prop := fun o i v H Q => ∃ a H', o = .ref a ∧ DPut H a i v H' ∧ Q H'
theorem pset_any (hu : X.A.units + 1 < cLine) : PSet X (fun o i v H Q => rSetL o i v H Q ∨ rSetDk o i v H Q) := by
  intro pins s σ H o i v ov iv u Q I ro ri rv h
  rcases h with h | ⟨a, H', rfl, g, q⟩
  · exact set_list pins s σ H o i v ov iv u Q I ro ri rv h
  · cases ro
    exact d_setItem hu I g ri rv fun s' I' => ⟨H', I', q⟩
theorem s_put {pos' : Pos} (hu : X.A.units + 1 < cLine) (hv : PE X e (rdE X.K cm W fa)) (ho : PE X o (rdE X.K cm W fo)) (hi : PE X e2 (rdE X.K cm W fb)) (hs : swapsWithSole [.Subscript o e2 pos'] e pos.line X.env = pure false := by rfl) (hw : swappedStores [.Subscript o e2 pos'] e X.env = pure none := by rfl)
    (h1 : (assignEach [.Subscript o e2 pos'] X.env).map (·.2) = [assign (.Subscript o e2 pos') X.env] := by rfl)
    (ha : ∀ v, assign (.Subscript o e2 pos') X.env v = (do
      let ov ← holding [v] (eval o X.env)
      let iv ← holding [v, ov] (eval e2 X.env)
      standAt pos'
      holding [v, ov, iv] (setItem ov iv v)
      release [v, ov, iv] []) := by intro _; rfl) : PS X (.Assign [.Subscript o e2 pos'] e pos) (rdS X.K cm W (sPut fa fo fb)) := weakS (ps_asg hv (pg_sub ho hi (pset_any hu) ha) hs hw h1) fun E σ H q => by
  obtain ⟨L, S, a, q⟩ := q
  refine ⟨L, S, a, (AftS.step (R := Rep X.K cm) q).mono fun v H1 z => ?_⟩
  obtain ⟨L1, S1, d, e1, x1, r1, q1⟩ := z
  refine ⟨L1, S1, x1, (AftS.step (R := Rep X.K cm) q1).mono fun ov H2 z => ?_⟩
  obtain ⟨L2, S2, d2, e2, x2, r2, q2⟩ := z
  refine ⟨L2, S2, x2, (AftS.step (R := Rep X.K cm) q2).mono fun iv H3 z => ?_⟩
  obtain ⟨L3, S3, d3, e3, x3, r3, q3⟩ := z
  have rv := r1.mono (e2.trans e3)
  have ro := r2.mono e3
  split at q3
  · rename_i S4 h4
    unfold oPut at h4
    split at h4
    · split at h4
      · rename_i xs hx
        obtain ⟨p1, vs1, rfl, g1, h1, rr⟩ := x3.lst ro hx
        split at h4
        · split at h4
          · rename_i j hj
            cases h4
            cases r3
            have ep := Ext.put (o := .lst (vs1.set j v)) x3.hp g1 (.inl ⟨_, h1⟩)
            exact .inl ⟨_, _, _, j, rfl, rfl, h1, by rw [← rr.length]; exact hj, q3 L3 _ σ ep (x3.put g1 (.inl ⟨_, h1⟩) ⟨_, upd_same, ((Reps.set rv j rr).mono ep)⟩)⟩
          · cases h4
        · cases h4
      · rename_i kvs hx
        obtain ⟨p1, vs1, rfl, g1, h1, rr⟩ := x3.dct ro hx
        split at h4
        · rename_i k hk
          split at h4
          · rename_i hz
            cases h4
            have ep := Ext.put (o := .dK (putK vs1 k v)) x3.hp g1 (.inr ⟨_, h1⟩)
            exact .inr ⟨_, _, rfl, .inl ⟨vs1, k, h1, keyOf_rep r3 hk, by rw [← repK_length rr]; exact mx_lt hz, rfl⟩, q3 L3 _ σ ep (x3.put g1 (.inr ⟨_, h1⟩) ⟨_, upd_same, (repK_put rr rv).mono ep⟩)⟩
          · cases h4
        · cases h4
      · cases h4
    · cases h4
  · exact q3.elim
end
end Den

namespace Den
open PySem L2

/-! ### 15. methods of lists and texts -/
def dMt (f : D → List D → DS → Res D) (o : DE) (a : DA) : DE := fun S => (o S).bind fun x S1 => (a S1).bind fun ds S2 => f x ds S2
/-- the receiver a list of ours (or a dict), ahead of the arguments too -/
def isLst (S : DS) : D → Bool
  | .ref n => match S.h[n]? with
    | some (.lst _) => true
    | _ => false
  | _ => false
def dMtL (f : D → List D → DS → Res D) (o : DE) (a : DA) : DE := fun S => (o S).bind fun x S1 => if isLst S1 x then (a S1).bind fun ds S2 => f x ds S2 else .stuck
def isStr : D → Bool
  | .str _ => true
  | _ => false
def dMtS (f : D → List D → DS → Res D) (o : DE) (a : DE) : DE := fun S => (o S).bind fun x S1 => if isStr x then (a S1).bind fun d S2 => f x [d] S2 else .stuck
def dMtS0 (f : D → List D → DS → Res D) (o : DE) : DE := fun S => (o S).bind fun x S1 => if isStr x then f x [] S1 else .stuck
def mAppend : D → List D → DS → Res D := fun x ds S => match x, ds with
  | .ref n, [d] => match S.h[n]? with
    | some (.lst xs) => if xs.length < mxL then .ok .non { S with h := S.h.set n (.lst (xs ++ [d])) } else .stuck
    | _ => .stuck
  | _, _ => .stuck
def mPop : D → List D → DS → Res D := fun x ds S => match x, ds with
  | .ref n, [] => match S.h[n]? with
    | some (.lst xs) => match xs[xs.length - 1]? with
      | some d => .ok d { S with h := S.h.set n (.lst xs.dropLast) }
      | none => .stuck
    | _ => .stuck
  | _, _ => .stuck
def mSplit : D → List D → DS → Res D := fun x ds S => match x, ds with
  | .str a, [.str b] => if b.length ≠ 0 ∧ a.length + 2 ≤ mxL then newO (.lst ((Txt.split a b).map .str)) S else .stuck
  | _, _ => .stuck
def mPart : D → List D → DS → Res D := fun x ds S => match x, ds with
  | .str a, [.str b] => if b.length ≠ 0 ∧ a.length ≤ mxL then .ok (.tup [.str (Txt.partition a b).1, .str (Txt.partition a b).2.1, .str (Txt.partition a b).2.2]) S else .stuck
  | _, _ => .stuck
def mStarts : D → List D → DS → Res D := fun x ds S => match x, ds with
  | .str a, [.str b] => .ok (.bl (Txt.startswith a b)) S
  | _, _ => .stuck
def strsOf : List D → Option (List Str)
  | [] => some []
  | .str x :: r => (strsOf r).map fun ys => x :: ys
  | _ => none
def joinOk (a : Str) (ys : List Str) : Bool := decide ((ys.map (·.length)).sum + ys.length * a.length ≤ mxL)
def mJoin : D → List D → DS → Res D := fun x ds S => match x, ds with
  | .str a, [.tup xs] => match strsOf xs with
    | some ys => if joinOk a ys then .ok (.str (Txt.join a ys)) S else .stuck
    | none => .stuck
  | .str a, [.ref n] => match S.h[n]? with
    | some (.lst xs) => match strsOf xs with
      | some ys => if joinOk a ys then .ok (.str (Txt.join a ys)) S else .stuck
      | none => .stuck
    | _ => .stuck
  | _, _ => .stuck
section
variable {X : Cx} {cm : Str → Value} {W : WX} {e e1 e2 o : Expr} {es : List Expr} {x name : Str} {p pos apos cpos p2 : Pos} {fa fb fo : DE} {ga : DA} {K : PySem.W.Frag} {L : List Addr} {H : Hp} {S : DS} {σ : L2.St}
theorem mo_append : MOp X cm W rAppend mAppend := by
  intro L H S σ x xs d ds Q a r1 r2 q
  unfold mAppend at q
  split at q
  · split at q
    · rename_i hx
      obtain ⟨p1, vs1, rfl, g1, h1, rr⟩ := a.lst r1 hx
      split at q
      · rename_i hz
        cases r2 with
        | cons r2 r3 =>
          cases r3
          have ep := fun v : V => Ext.put (o := .lst (vs1 ++ [v])) a.hp g1 (.inl ⟨_, h1⟩)
          exact ⟨_, _, _, rfl, rfl, h1, by rw [← rr.length]; exact mx_lt hz, q.giveE (ep _) (a.put g1 (.inl ⟨_, h1⟩) ⟨_, upd_same, (rr.append (.cons r2 .nil)).mono (ep _)⟩) .non⟩
      · exact q.elim
    · exact q.elim
  · exact q.elim
theorem mo_pop : MOp X cm W rPop mPop := by
  intro L H S σ x xs d ds Q a r1 r2 q
  unfold mPop at q
  split at q
  · split at q
    · rename_i hx
      obtain ⟨p1, vs1, rfl, g1, h1, rr⟩ := a.lst r1 hx
      split at q
      · rename_i hz
        cases r2
        obtain ⟨v, hv, rv⟩ := rr.get hz
        rw [rr.length] at hv
        have ep := Ext.put (o := .lst vs1.dropLast) a.hp g1 (.inl ⟨_, h1⟩)
        refine ⟨_, _, v, rfl, rfl, h1, hv, q.giveE ep (a.put g1 (.inl ⟨_, h1⟩) ⟨_, upd_same, Reps.mono ep ?_⟩) (rv.mono ep)⟩
        rw [List.dropLast_eq_take, List.dropLast_eq_take, ← rr.length]
        exact rr.take _
      · exact q.elim
    · exact q.elim
  · exact q.elim
theorem strs_reps : ∀ ys : List Str, Reps K cm L H (ys.map D.str) (ys.map V.str)
  | [] => .nil
  | y :: ys => .cons (.str y) (strs_reps ys)
theorem mo_split : MOp X cm W (fun x xs H Q => ∃ a b, x = .str a ∧ xs = [.str b] ∧ (b.length == 0) = false ∧ a.length + 2 ≤ sizeLine ∧ rNewStrs (Txt.split a b) H Q) mSplit := by
  intro L H S σ x xs d ds Q a r1 r2 q
  unfold mSplit at q
  split at q
  · split at q
    · rename_i h
      cases r1
      cases r2 with
      | cons r2 r3 =>
        cases r3; cases r2
        exact ⟨_, _, rfl, rfl, by simpa using h.1, mx_line h.2, fun p hp => give_new a (strs_reps _) q hp⟩
    · exact q.elim
  · exact q.elim
theorem mo_part : MOp X cm W (fun x xs H Q => ∃ a b, x = .str a ∧ xs = [.str b] ∧ (b.length == 0) = false ∧ a.length ≤ sizeLine ∧
    ∀ p, H p = none → Q (.ref p) (upd H p (.tup [.str (Txt.partition a b).1, .str (Txt.partition a b).2.1, .str (Txt.partition a b).2.2]))) mPart := by
  intro L H S σ x xs d ds Q a r1 r2 q
  unfold mPart at q
  split at q
  · split at q
    · rename_i h
      cases r1
      cases r2 with
      | cons r2 r3 =>
        cases r3; cases r2
        exact ⟨_, _, rfl, rfl, by simpa using h.1, mx_line h.2, fun p hp => q.giveE (Ext.beside hp) (a.beside hp) (.tup (.inl (.inl upd_same)) (.cons (.str _) (.cons (.str _) (.cons (.str _) .nil))))⟩
    · exact q.elim
  · exact q.elim
theorem mo_starts : MOp X cm W (fun x xs H Q => ∃ a b, x = .str a ∧ xs = [.str b] ∧ Q (.bl (Txt.startswith a b)) H) mStarts := by
  intro L H S σ x xs d ds Q a r1 r2 q
  unfold mStarts at q
  split at q
  · cases r1
    cases r2 with
    | cons r2 r3 =>
      cases r3; cases r2
      exact ⟨_, _, rfl, rfl, q.give a (.bl _)⟩
  · exact q.elim
theorem strsOf_reps : ∀ {ds : List D} {vs : List V} {ys : List Str}, Reps K cm L H ds vs → strsOf ds = some ys → vs = ys.map V.str
  | _, _, _, .nil, h => by cases h; rfl
  | d :: ds, _, _, .cons r t, h => by
    cases d <;> first
      | (unfold strsOf at h
         obtain ⟨zs, hz, rfl⟩ := Option.map_eq_some_iff.mp h
         cases r
         rw [strsOf_reps t hz]; rfl)
      | (unfold strsOf at h; cases h)
theorem mo_join : MOp X cm W (fun x xs H Q => ∃ a p, ∃ ys : List Str, x = .str a ∧ xs = [.ref p] ∧ (SqL X.K H p (ys.map V.str) ∨ SqT X.K H p (ys.map V.str)) ∧
      (ys.map (·.length)).sum + ys.length * a.length ≤ 16777216 ∧ Q (.str (Txt.join a ys)) H) mJoin := by
  intro L H S σ x xs d ds Q a r1 r2 q
  unfold mJoin at q
  split at q
  · split at q
    · rename_i ys hy
      split at q
      · rename_i h
        cases r1
        cases r2 with
        | cons r2 r3 =>
          cases r3
          cases r2 with
          | tup hs rr => exact ⟨_, _, ys, rfl, rfl, .inr (by rw [← strsOf_reps rr hy]; exact hs), Nat.le_trans (of_decide_eq_true h) (by decide), q.give a (.str _)⟩
      · exact q.elim
    · exact q.elim
  · split at q
    · rename_i hx
      split at q
      · rename_i ys hy
        split at q
        · rename_i h
          cases r1
          cases r2 with
          | cons r2 r3 =>
            cases r3
            obtain ⟨p1, vs1, rfl, g1, h1, rr⟩ := a.lst r2 hx
            exact ⟨_, _, ys, rfl, rfl, .inl (by rw [← strsOf_reps rr hy]; exact SqL.of h1), Nat.le_trans (of_decide_eq_true h) (by decide), q.give a (.str _)⟩
        · exact q.elim
      · exact q.elim
    · exact q.elim
  · exact q.elim
theorem isLst_ty {v : V} {d : D} (a : AbS K cm L H S σ) (r : Rep K cm L H d v) (h : isLst S d = true) : tyV K "list" v H := by
  unfold isLst at h
  split at h
  · split at h
    · rename_i hx
      obtain ⟨p1, vs1, rfl, g1, h1, rr⟩ := a.lst r hx
      exact .inl ⟨rfl, _, SqL.of h1⟩
    · cases h
  · cases h
theorem e_mtL {id : String} {r : V → List V → Hp → VK → Prop} {f : D → List D → DS → Res D} (pa : PlainAttrs "list") (slot : Slot "list" name id) (hty : typeOf (.builtin id) = pure (.type "method_descriptor")) (hm : MtR X id r) (h : MOp X cm W r f)
    (ho : PE X o (rdE X.K cm W fo)) (ha : PA X (e :: es) (rdA X.K cm W ga)) (hbase : attributeBase o name X.env (eval o X.env) = eval o X.env := by rfl)
    (hfew : ((backTo cpos (starEach (e :: es) X.env)).all (fun x => !x.1) && (backToKw cpos (keywordEach [] X.env)).all (fun x => x.1.isSome)
      && decide ((e :: es).length + ([] : List Keyword).length + (if ([] : List Keyword).isEmpty then 0 else 1) < 30)) = true := by rfl)
    (hline : (apos.endLine == cpos.line) = true := by rfl) (hs : starEach (e :: es) X.env = (false, eval e X.env) :: starEach es X.env := by rfl) (hplain : (backTo cpos (starEach es X.env)).any (·.1) = false := by rfl) :
    PE X (.Call (.Attribute o name apos) (e :: es) [] cpos) (rdE X.K cm W (dMtL f fo ga)) := weakE (pe_bm pa slot hty hm ho ha hbase hfew hline hs hplain) fun σ H Q q => by
  obtain ⟨L, S, a, q⟩ := q
  refine ⟨L, S, a, (Aft.step (R := Rep X.K cm) q).mono fun v H1 z => ?_⟩
  obtain ⟨L1, S1, d, e1, x1, r1, q1⟩ := z
  split at q1
  · rename_i hl
    refine ⟨isLst_ty x1 r1 hl, L1, S1, x1, (Aft.step (R := Reps X.K cm) q1).mono fun vs H2 z => ?_⟩
    obtain ⟨L2, S2, d2, e2, x2, r2, q2⟩ := z
    exact h x2 (r1.mono e2) r2 q2
  · exact q1.elim
theorem e_mtL0 {id : String} {r : V → List V → Hp → VK → Prop} {f : D → List D → DS → Res D} (pa : PlainAttrs "list") (slot : Slot "list" name id) (hty : typeOf (.builtin id) = pure (.type "method_descriptor")) (hm : MtR X id r) (h : MOp X cm W r f)
    (ho : PE X o (rdE X.K cm W fo)) (hbase : attributeBase o name X.env (eval o X.env) = eval o X.env := by rfl)
    (hline : (apos.endLine == cpos.line) = true := by rfl) : PE X (.Call (.Attribute o name apos) [] [] cpos) (rdE X.K cm W (dMtL f fo dNil)) := weakE (pe_bm0 pa slot hty hm ho hbase hline) fun σ H Q q => by
  obtain ⟨L, S, a, q⟩ := q
  refine ⟨L, S, a, (Aft.step (R := Rep X.K cm) q).mono fun v H1 z => ?_⟩
  obtain ⟨L1, S1, d, e1, x1, r1, q1⟩ := z
  split at q1
  · rename_i hl
    exact ⟨isLst_ty x1 r1 hl, h x1 r1 .nil q1⟩
  · exact q1.elim
theorem e_mtS {id : String} {r : V → List V → Hp → VK → Prop} {f : D → List D → DS → Res D} (slot : Slot "str" name id) (hty : typeOf (.builtin id) = pure (.type "method_descriptor")) (hm : MtR X id r) (h : MOp X cm W r f) (ho : PE X o (rdE X.K cm W fo)) (ha : PE X e (rdE X.K cm W fa))
    (hs : starEach [e] X.env = [(false, eval e X.env)] := by rfl) (hbase : attributeBase o name X.env (eval o X.env) = eval o X.env := by rfl) (hline : (apos.endLine == pos.line) = true := by rfl) :
    PE X (.Call (.Attribute o name apos) [e] [] pos) (rdE X.K cm W (dMtS f fo fa)) := weakE (pe_m1 slot hty hm ho ha hs hbase hline) fun σ H Q q => by
  obtain ⟨L, S, a, q⟩ := q
  refine ⟨L, S, a, (Aft.step (R := Rep X.K cm) q).mono fun v H1 z => ?_⟩
  obtain ⟨L1, S1, d, e1, x1, r1, q1⟩ := z
  split at q1
  · rename_i hl
    refine ⟨?_, L1, S1, x1, (Aft.step (R := Rep X.K cm) q1).mono fun v2 H2 z => ?_⟩
    · unfold isStr at hl
      split at hl
      · cases r1; exact ⟨_, rfl⟩
      · cases hl
    · obtain ⟨L2, S2, d2, e2, x2, r2, q2⟩ := z
      exact h x2 (r1.mono e2) (.cons r2 .nil) q2
  · exact q1.elim

/-! ### 16. what a for walks -/
def iOf (d : D) (S : DS) : Res Iter0 := match d with
  | .tup xs => .ok (.vals xs) S
  | .ro xs => .ok (.vals xs) S
  | .str x => .ok (.vals (x.cps.toList.map fun c => .str ⟨#[c]⟩)) S
  | .ref n => match S.h[n]? with
    | some (.lst _) => .ok (.dyn (lstIt n)) S
    | _ => .stuck
  | _ => .stuck
def dIter (a : DE) : DS → Res Iter0 := fun S => (a S).bind iOf
def rgD (lo : Int) (n : Nat) : List D := (List.range n).map fun k => D.int (lo + (k : Nat))
def dRng (a : DA) : DS → Res Iter0 := fun S => (a S).bind fun ds S1 => match ds with
  | [.int j] => if -1000000 ≤ j ∧ j ≤ 1000000 then .ok (.vals (rgD 0 j.toNat)) S1 else .stuck
  | [.int i, .int j] => if (-1000000 ≤ i ∧ i ≤ 1000000) ∧ -1000000 ≤ j ∧ j ≤ 1000000 then .ok (.vals (rgD i (j - i).toNat)) S1 else .stuck
  | _ => .stuck
theorem pi_or {tg iter : Expr} {w1 w2 : TI} (h1 : PI X tg iter w1) (h2 : PI X tg iter w2) : PI X tg iter (fun σ H R => w1 σ H R ∨ w2 σ H R) := ⟨fun pins s σ H R I q => by
  rcases q with q | q
  · exact h1.run pins s σ H R I q
  · exact h2.run pins s σ H R I q⟩
theorem weakI {tg iter : Expr} {w w' : TI} (h : PI X tg iter w) (k : ∀ σ H R, w' σ H R → w σ H R) : PI X tg iter w' := ⟨fun pins s σ H R I q => h.run pins s σ H R I (k _ _ _ q)⟩
theorem walk_keep {xs : List D} {J : It} (go : ∀ L' H' i d, Ext K L H L' H' → xs[i]? = some d → J.go i H' ∧ ∀ x H2, J.yld i H' x H2 → H2 = H' ∧ Rep K cm L' H' d x) (st : ∀ L' H', Ext K L H L' H' → J.stop xs.length H') : Walks0 K cm L H xs J :=
  ⟨fun L' H' i d e h => ⟨(go L' H' i d e h).1, fun x H2 y => by
    obtain ⟨rfl, r⟩ := (go L' H' i d e h).2 x H2 y
    exact ⟨Ext.refl, fun _ z => z, r⟩⟩, st⟩
theorem walk_tup {xs : List D} {vs : List V} {a : Addr} (hs : SqT K H a vs) (r : Reps K cm L H xs vs) : Walks0 K cm L H xs (Itt K a) :=
  walk_keep (fun L' H' i d e h => by
    obtain ⟨v, hv, rv⟩ := r.get h
    exact ⟨⟨vs, v, e.tup _ _ hs, hv⟩, fun x H2 y => ⟨y.1, by
      have q := y.2 vs (e.tup _ _ hs)
      rw [hv] at q; cases q
      exact rv.mono e⟩⟩) fun L' H' e => ⟨vs, e.tup _ _ hs, by rw [r.length]; exact Nat.le_refl _⟩
theorem walk_ro {xs : List D} {vs : List V} {a : Addr} (hs : SqR K H a vs) (r : Reps K cm L H xs vs) : Walks0 K cm L H xs (Itl K a) :=
  walk_keep (fun L' H' i d e h => by
    obtain ⟨v, hv, rv⟩ := r.get h
    exact ⟨⟨vs, v, (e.rol _ _ hs).sq, hv⟩, fun x H2 y => ⟨y.1, by
      have q := y.2 vs (e.rol _ _ hs).sq
      rw [hv] at q; cases q
      exact rv.mono e⟩⟩) fun L' H' e => ⟨vs, (e.rol _ _ hs).sq, by rw [r.length]; exact Nat.le_refl _⟩
theorem walk_rng (lo : Int) (n : Nat) : Walks0 K cm L H (rgD lo n) (Itr lo n) :=
  walk_keep (fun L' H' i d e h => by
    unfold rgD at h
    rw [List.getElem?_map] at h
    cases z : (List.range n)[i]? with
    | none => rw [z] at h; cases h
    | some k =>
      rw [z] at h
      cases h
      obtain ⟨hi, rfl⟩ := List.getElem?_eq_some_iff.mp z
      rw [List.length_range] at hi
      refine ⟨hi, fun x H2 y => ⟨y.1, ?_⟩⟩
      rw [y.2, List.getElem_range]
      exact .int _) fun L' H' e => by
    unfold rgD
    rw [List.length_map, List.length_range]
    exact Nat.le_refl _
theorem walk_str (z : Str) : Walks0 K cm L H (z.cps.toList.map fun c => .str ⟨#[c]⟩) (Its z) :=
  walk_keep (fun L' H' i d e h => by
    rw [List.getElem?_map] at h
    cases q : z.cps.toList[i]? with
    | none => rw [q] at h; cases h
    | some c =>
      rw [q] at h
      cases h
      obtain ⟨hi, hc⟩ := List.getElem?_eq_some_iff.mp q
      refine ⟨show i < z.cps.size by simpa using hi, fun x H2 y => ⟨y.1, ?_⟩⟩
      obtain ⟨c', h1, h2⟩ := y.2
      rw [← Array.getElem?_toList, q] at h1
      cases h1
      rw [h2]
      exact .str _) fun L' H' e => by
    rw [List.length_map, Array.length_toList]
    exact Nat.le_refl _
theorem walk_lst {n : Nat} {a : Addr} (hL : L[n]? = some a) : WalksD K cm L H (lstIt n) (Itl K a) :=
  ⟨fun L' H' h i d e hb hf => by
    unfold lstIt at hf
    split at hf
    · rename_i xs hx
      obtain ⟨vs, hH, rr⟩ := hb.obs _ _ _ hx (e.ix hL)
      obtain ⟨v, hv, rv⟩ := rr.get (Option.some.inj hf)
      refine ⟨⟨vs, v, SqL.of hH, hv⟩, fun x H2 y => ?_⟩
      obtain ⟨rfl, hy⟩ := y
      have ev := hy vs (SqL.of hH)
      rw [hv] at ev
      cases ev
      exact ⟨Ext.refl, fun _ z => z, rv⟩
    · exact (nomatch hf), fun L' H' h i e hb hf => by
    unfold lstIt at hf
    split at hf
    · rename_i xs hx
      obtain ⟨vs, hH, rr⟩ := hb.obs _ _ _ hx (e.ix hL)
      refine ⟨vs, SqL.of hH, ?_⟩
      rw [← rr.length]
      exact List.getElem?_eq_none_iff.mp (Option.some.inj hf)
    · cases hf⟩
theorem i_any {tg iter : Expr} (he : PE X iter (rdE X.K cm W fa)) : PI X tg iter (rdI X.K cm W (dIter fa)) := weakI (pi_or (pi_or (pi_list he) (pi_tup he)) (pi_str he)) fun σ H R q => by
  obtain ⟨L, S, a, q⟩ := q
  unfold dIter at q
  generalize hr : fa S = r at q
  cases r with
  | ok d S1 =>
    rw [Res.bind_ok] at q
    unfold iOf at q
    split at q
    · refine .inl (.inr ⟨L, S, a, ?_⟩)
      rw [hr]
      intro L1 H1 v e1 x1 r1
      cases r1 with
      | tup hs rr => exact ⟨_, rfl, ⟨_, hs⟩, q L1 H1 _ e1 x1 (walk_tup hs rr)⟩
    · refine .inl (.inl ⟨L, S, a, ?_⟩)
      rw [hr]
      intro L1 H1 v e1 x1 r1
      cases r1 with
      | ro hs rr => exact ⟨_, rfl, ⟨_, hs.sq⟩, q L1 H1 _ e1 x1 (walk_ro hs rr)⟩
    · refine .inr ⟨L, S, a, ?_⟩
      rw [hr]
      intro L1 H1 v e1 x1 r1
      cases r1
      exact ⟨_, rfl, q L1 H1 _ e1 x1 (walk_str _)⟩
    · split at q
      · rename_i hx
        refine .inl (.inl ⟨L, S, a, ?_⟩)
        rw [hr]
        intro L1 H1 v e1 x1 r1
        obtain ⟨p1, vs1, rfl, g1, h1, rr⟩ := x1.lst r1 hx
        exact ⟨_, rfl, ⟨_, SqL.of h1⟩, q L1 H1 _ e1 x1 (walk_lst g1)⟩
      · exact q.elim
    · exact q.elim
  | exc u S1 =>
    refine .inl (.inl ⟨L, S, a, ?_⟩)
    rw [hr]
    exact q
  | stuck => exact q.elim
theorem rd_rng {ga : DA} {σ : L2.St} {H : Hp} {R : It → Hp → Prop} (q : rdI X.K cm W (dRng ga) σ H R) : rdA X.K cm W ga σ H fun vs H1 => (∀ j, vs = [V.int j] → -(2 ^ 62) ≤ j ∧ j < 2 ^ 62 ∧ R (Itr 0 j.toNat) H1) ∧
    (∀ i j, vs = [V.int i, V.int j] → (-(2 ^ 62) ≤ i ∧ i < 2 ^ 62 ∧ -(2 ^ 62) ≤ j ∧ j < 2 ^ 62) ∧ R (Itr i (j - i).toNat) H1) ∧ ((∃ j, vs = [V.int j]) ∨ ∃ i j, vs = [V.int i, V.int j]) := by
  obtain ⟨L, S, x, q⟩ := q
  refine ⟨L, S, x, (Aft.step (R := Reps X.K cm) q).mono fun v H1 z => ?_⟩
  obtain ⟨L1, S1, d, e1, x1, r1, q1⟩ := z
  split at q1
  · split at q1
    · rename_i h
      cases r1 with
      | cons r1 r2 =>
        cases r2; cases r1
        exact ⟨fun j e => (by cases e; exact ⟨by omega, by omega, q1.give x1 (walk_rng 0 _)⟩), fun i j e => (by cases e), .inl ⟨_, rfl⟩⟩
    · exact q1.elim
  · split at q1
    · rename_i h
      cases r1 with
      | cons r1 r2 =>
        cases r2 with
        | cons r2 r3 =>
          cases r3; cases r2; cases r1
          exact ⟨fun j e => (by cases e), fun i j e => (by cases e; exact ⟨⟨by omega, by omega, by omega, by omega⟩, q1.give x1 (walk_rng _ _)⟩), .inr ⟨_, _, rfl⟩⟩
    · exact q1.elim
  · exact q1.elim
theorem i_rng1 {tg a : Expr} {ga : DA} (hg : Gl X "range") (hm : X.mg "range" = none) (ha : PA X [a] (rdA X.K cm W ga)) (hc : Cnt ga 1) (hs : starEach [a] X.env = [(false, eval a X.env)] := by rfl) : PI X tg (.Call (.Name "range" p) [a] [] pos) (rdI X.K cm W (dRng ga)) :=
  weakI (pi_range1 hg hm ha hs) fun σ H R q => by
  have hl := hc
  obtain ⟨L, S, x, q⟩ := rd_rng q
  refine ⟨L, S, x, ?_⟩
  generalize hr : ga S = r at q
  cases r with
  | ok ds S1 =>
    intro L1 H1 vs e1 x1 r1
    obtain ⟨h1, h2, h3⟩ := q L1 H1 vs e1 x1 r1
    have n1 := hl _ _ _ hr
    rw [r1.length] at n1
    rcases h3 with ⟨j, rfl⟩ | ⟨i, j, rfl⟩
    · exact ⟨j, rfl, h1 j rfl⟩
    · cases n1
  | exc u S1 => exact q
  | stuck => exact q
theorem i_rng2 {tg a b : Expr} {ga : DA} (hg : Gl X "range") (hm : X.mg "range" = none) (ha : PA X [a, b] (rdA X.K cm W ga)) (hc : Cnt ga 2) (hs : starEach [a, b] X.env = [(false, eval a X.env), (false, eval b X.env)] := by rfl) (hs2 : starEach [b] X.env = [(false, eval b X.env)] := by rfl) :
    PI X tg (.Call (.Name "range" p) [a, b] [] pos) (rdI X.K cm W (dRng ga)) := weakI (pi_range2 hg hm ha hs hs2) fun σ H R q => by
  have hl := hc
  obtain ⟨L, S, x, q⟩ := rd_rng q
  refine ⟨L, S, x, ?_⟩
  generalize hr : ga S = r at q
  cases r with
  | ok ds S1 =>
    intro L1 H1 vs e1 x1 r1
    obtain ⟨h1, h2, h3⟩ := q L1 H1 vs e1 x1 r1
    have n1 := hl _ _ _ hr
    rw [r1.length] at n1
    rcases h3 with ⟨j, rfl⟩ | ⟨i, j, rfl⟩
    · cases n1
    · exact ⟨i, j, rfl, h2 i j rfl⟩
  | exc u S1 => exact q
  | stuck => exact q
end
end Den

namespace Den
open PySem L2

/-! ### 17. for k in d, the dict at a name -/
def sForK (i : Nat) (g : DG) (b : DSt) : DSt := fun S => match S.loc[i]? with
  | some (some (.ref n)) => match S.h[n]? with
    | some (.dct kvs) => match forV g b (kvs.map fun kv => keyD kv.1) { S with h := S.h.set n (.fdct kvs) } with
      | .ok f S3 => match S3.h[n]? with
        | some (.fdct _) => .ok f { S3 with h := S3.h.set n (.dct kvs) }
        | _ => .stuck
      | _ => .stuck
    | _ => .stuck
  | _ => .stuck
section
variable {X : Cx} {cm : Str → Value} {W : WX} {e e1 e2 o : Expr} {es : List Expr} {x name : Str} {p pos apos cpos p2 : Pos} {fa fb fo : DE} {ga : DA} {K : PySem.W.Frag} {L : List Addr} {H : Hp} {S : DS} {σ : L2.St}
theorem repK_get {ds : List (Key × D)} {vs : List (Key × V)} (r : RepK K cm L H ds vs) : ∀ {i : Nat} {d : D}, (ds.map fun kv => keyD kv.1)[i]? = some d → ∃ k v, vs[i]? = some (k, v) ∧ d = keyD k := by
  induction r with
  | nil => intro i d h; simp at h
  | @cons k d0 v0 ds vs r t ih =>
    intro i d h
    cases i with
    | zero => simp at h; exact ⟨k, v0, rfl, h.symm⟩
    | succ i =>
      obtain ⟨k', v', h1, h2⟩ := ih (i := i) (by simpa using h)
      exact ⟨k', v', by simpa using h1, h2⟩
theorem keyD_rep (k : Key) : Rep K cm L H (keyD k) (kV k) := by
  cases k with
  | inl i => exact .int i
  | inr x => exact .str x
theorem walk_keys {ds : List (Key × D)} {vs : List (Key × V)} {a : Addr} {o : Obj} (h : H a = some (.frz o (.dK vs))) (r : RepK K cm L H ds vs) : Walks0 K cm L H (ds.map fun kv => keyD kv.1) (Itk a o vs) :=
  walk_keep (fun L' H' i d e hd => by
    obtain ⟨k, v, hv, rfl⟩ := repK_get r hd
    refine ⟨⟨e.frz _ _ _ h, (List.getElem?_eq_some_iff.mp hv).1⟩, fun x H2 y => ⟨y.1, ?_⟩⟩
    obtain ⟨k', v', h1, h2⟩ := y.2
    rw [hv] at h1; cases h1
    rw [h2]
    exact keyD_rep k) fun L' H' e => ⟨e.frz _ _ _ h, by rw [List.length_map, repK_length r]; exact Nat.le_refl _⟩
theorem s_forK {tg : Expr} {body : List Stmt} {i : Nat} {g : DG} {b : DSt} (hp : PassesOwn (model X.prog X.w) X.A X.env X.xe) (hc : X.calm = true) (hN : X.N[i]? = some x) (hv : Vis X.env.scope x) (hg : PG X tg (rdG X.K cm g)) (hb : PSs X body (rdS X.K cm (fun _ _ _ _ => False) b))
    (hd : (x == ("__debug__" : Str)) = false := by decide) (hcd : (x == ("__classdict__" : Str)) = false := by decide) (hs : ∀ y, foldedSetIterable (.Name x p) X.env y = pure y := by intro _; rfl) :
    PS X (.For tg (.Name x p) body [] pos) (rdS X.K cm W (sForK i g b)) := weakS (ps_lock (ps_for hp hc (pi_keys (pe_var hN hv hd hcd)) hg hb hs)) fun E σ H q => by
  obtain ⟨L, S, a, q⟩ := q
  unfold sForK at q
  split at q
  · rename_i n hn
    split at q
    · rename_i kvs hk
      obtain ⟨v, hσ, rv⟩ := a.loc.2 _ _ hn
      obtain ⟨d, vs, rfl, hL, hH, rr⟩ := a.dct rv hk
      refine ⟨d, .dK vs, hH, True.intro, fun od => ?_⟩
      have lk : Ext X.K L H L (upd H d (.frz od (.dK vs))) := Ext.put a.hp hL (.inr ⟨_, hH⟩)
      have a1 : AbS X.K cm L (upd H d (.frz od (.dK vs))) { S with h := S.h.set n (.fdct kvs) } σ := a.put hL (.inr ⟨_, hH⟩) ⟨od, vs, upd_same, rr.mono lk⟩
      refine ⟨_, hσ, d, od, rfl, .inl ⟨vs, upd_same, ?_⟩⟩
      have wk : Walks0 X.K cm L (upd H d (.frz od (.dK vs))) (kvs.map fun kv => keyD kv.1) (Itk d od vs) := walk_keys upd_same (rr.mono lk)
      -- the loop over the locked dict, with the end that unlocks
      have un : ∀ {La : List Addr} {H2 : Hp} {S3 : DS} {σ2 : L2.St} {ks : List (Key × D)}, Ext X.K L (upd H d (.frz od (.dK vs))) La H2 → AbS X.K cm La H2 S3 σ2 → S3.h[n]? = some (.fdct ks) →
          H2 d = some (.frz od (.dK vs)) ∧ Ext X.K L H La (upd H2 d (.dK vs)) ∧ ExtW X.K La H2 La (upd H2 d (.dK vs)) ∧ AbS X.K cm La (upd H2 d (.dK vs)) { S3 with h := S3.h.set n (.dct kvs) } σ2 := by
        intro La H2 S3 σ2 ks e2 x2 h3
        have hd2 := e2.frz d od _ upd_same
        have hL2 := e2.ix hL
        have kw : ∀ b u, H2 b = some u → b ≠ d → upd H2 d (.dK vs) b = some u := fun b u e nb => by rw [upd_ne nb]; exact e
        have nd : ∀ b u, H2 b = some u → (∀ o ks, u ≠ .frz o (.dK ks)) → b ≠ d := fun b u e nk z => by
          rw [z, hd2] at e; cases e; exact nk _ _ rfl
        have ew : ExtW X.K La H2 La (upd H2 d (.dK vs)) := ⟨⟨[], by simp⟩, fun b ws h => by
            rcases h with (h | ⟨o, h⟩) | h
            · exact .inl (.inl (kw _ _ h (nd _ _ h fun _ _ z => nomatch z)))
            · exact .inl (.inr ⟨o, kw _ _ h (nd _ _ h fun _ _ z => nomatch z)⟩)
            · exact .inr h, fun b ws h => by
            rcases h with ⟨o, h⟩ | h
            · exact .inl ⟨o, kw _ _ h (nd _ _ h fun _ _ z => nomatch z)⟩
            · exact .inr h⟩
        have all := lk.trans e2
        refine ⟨hd2, ⟨all.pre, fun b ws h => ew.tup _ _ (all.tup _ _ h), fun b ws h => ew.rol _ _ (all.rol _ _ h), fun b u nb h => ?_, fun b u h => ?_, fun b o u h => ?_⟩, ew, ?_, x2.loc.monoW ew⟩
        · have z : b ≠ d := fun z => nb (z ▸ List.mem_of_getElem? hL)
          rw [upd_ne z]; exact all.oth b u nb h
        · by_cases z : b = d
          · subst z; exact ⟨_, upd_same⟩
          · rw [upd_ne z]; exact all.thr b u h
        · have z : b ≠ d := fun z => by rw [z, hH] at h; cases h
          rw [upd_ne z]; exact all.frz b o u h
        · refine ⟨x2.hp.nd, by rw [List.length_set]; exact x2.hp.len, fun m ob c m1 m2 => ?_⟩
          by_cases hm : m = n
          · subst hm
            rw [hL2] at m2
            cases m2
            have hlt : m < S3.h.length := by rw [← x2.hp.len]; exact (List.getElem?_eq_some_iff.mp hL2).1
            rw [show ({ S3 with h := S3.h.set m (.dct kvs) } : DS).h[m]? = some (.dct kvs) from List.getElem?_set_self hlt] at m1
            cases m1
            exact ⟨vs, upd_same, (rr.mono all).monoW ew⟩
          · rw [show ({ S3 with h := S3.h.set n (.dct kvs) } : DS).h[m]? = S3.h[m]? from List.getElem?_set_ne (Ne.symm hm)] at m1
            have nc : c ≠ d := fun z => by
              subst z
              obtain ⟨h1, q1⟩ := List.getElem?_eq_some_iff.mp m2
              obtain ⟨h2, q2⟩ := List.getElem?_eq_some_iff.mp hL2
              exact hm ((List.getElem_inj x2.hp.nd).mp (q1.trans q2.symm))
            exact (x2.hp.obs m ob c m1 m2).monoW ew fun u h => kw _ _ h nc
      -- the result of the loop, by the plain function
      have fin : AftS X.K cm (fun _ _ _ _ => False) L (upd H d (.frz od (.dK vs))) (forV g b (kvs.map fun kv => keyD kv.1) { S with h := S.h.set n (.fdct kvs) })
          ⟨fun σ' H' => H' d = some (.frz od (.dK vs)) ∧ E.nx σ' (upd H' d (.dK vs)), fun v H' => H' d = some (.frz od (.dK vs)) ∧ E.rt v (upd H' d (.dK vs)), fun σ' H' => H' d = some (.frz od (.dK vs)) ∧ E.bk σ' (upd H' d (.dK vs)), fun σ' H' => H' d = some (.frz od (.dK vs)) ∧ E.ct σ' (upd H' d (.dK vs))⟩ := by
        generalize forV g b (kvs.map fun kv => keyD kv.1) { S with h := S.h.set n (.fdct kvs) } = r at q
        cases r with
        | ok f S3 =>
          dsimp only at q
          split at q
          · rename_i ks h3
            cases f with
            | next =>
              intro L' H' σ' e' x'
              obtain ⟨u1, u2, u3, u4⟩ := un e' x' h3
              exact ⟨u1, q _ _ _ u2 u4⟩
            | brk =>
              intro L' H' σ' e' x'
              obtain ⟨u1, u2, u3, u4⟩ := un e' x' h3
              exact ⟨u1, q _ _ _ u2 u4⟩
            | cont =>
              intro L' H' σ' e' x'
              obtain ⟨u1, u2, u3, u4⟩ := un e' x' h3
              exact ⟨u1, q _ _ _ u2 u4⟩
            | ret dd =>
              intro L' H' σ' v' e' x' r'
              obtain ⟨u1, u2, u3, u4⟩ := un e' x' h3
              exact ⟨u1, q _ _ _ v' u2 u4 (r'.monoW u3)⟩
          · exact q.elim
        | exc u S3 => exact q.elim
        | stuck => exact q.elim
      exact for_vals wk a1 fin
    · exact q.elim
  · exact q.elim
end
end Den

namespace Den
open PySem L2

/-! ### 18. comprehensions -/
section
variable {cm : Str → Value} {K : PySem.W.Frag} {L L1 : List Addr} {H H1 : Hp} {S : DS} {σ : L2.St} {h : List Ob}
theorem ExtW.chg {p : Addr} {o : HO} (hw : Wr H p) : ExtW K L H L (upd H p o) :=
  ⟨⟨[], by simp⟩, (ExtW.adopt (L := L) hw).tup, (ExtW.adopt (L := L) hw).rol⟩
theorem HAb.chg {p : Addr} {o : HO} (x : HAb K cm L H h) (np : p ∉ L) (hw : Wr H p) : HAb K cm L (upd H p o) h :=
  ⟨x.nd, x.len, fun n ob a e1 e2 => (x.obs n ob a e1 e2).monoW (ExtW.chg hw) fun u q => by rw [upd_ne (fun z : a = p => np (by rw [← z]; exact List.mem_of_getElem? e2))]; exact q⟩
theorem AbS.chg {p : Addr} {o : HO} (x : AbS K cm L H S σ) (np : p ∉ L) (hw : Wr H p) : AbS K cm L (upd H p o) S σ := ⟨x.hp.chg np hw, x.loc.monoW (ExtW.chg hw)⟩
theorem Ext.chg {p : Addr} {o : HO} (hp : H p = none) (e : Ext K L H L1 H1) (hw : Wr H1 p) : Ext K L H L1 (upd H1 p o) := by
  have w : ExtW K L1 H1 L1 (upd H1 p o) := ExtW.chg hw
  have ne : ∀ a u, H a = some u → a ≠ p := fun a u q z => by rw [z, hp] at q; cases q
  exact ⟨e.pre, fun a vs q => w.tup a vs (e.tup a vs q), fun a vs q => w.rol a vs (e.rol a vs q), fun a u na q => by rw [upd_ne (ne a u q)]; exact e.oth a u na q, fun a u q => by rw [upd_ne (ne a u q)]; exact e.thr a u q, fun a u v q => by rw [upd_ne (ne a _ q)]; exact e.frz a u v q⟩
theorem Ext.out {p : Addr} {u : HO} (e : Ext K L H L1 H1) (np : p ∉ L) (hp : H p = some u) : p ∉ L1 ∧ H1 p = some u := by
  refine ⟨fun q => ?_, e.oth p u np hp⟩
  obtain ⟨M, e1, nM⟩ := e.pre
  rw [e1] at q
  rcases List.mem_append.mp q with q | q
  · exact np q
  · rw [nM p q] at hp; cases hp
theorem upd_id {p : Addr} {o : HO} (hp : H p = some o) : upd H p o = H := by
  funext b
  by_cases z : b = p
  · subst z; rw [upd_same, hp]
  · rw [upd_ne z]
theorem Ext.own {p : Addr} (e : Ext K L H L1 H1) (hp : H p = none) : Ext K L H (L1 ++ [p]) H1 := by
  obtain ⟨M, e1, nM⟩ := e.pre
  refine ⟨⟨M ++ [p], by rw [e1, List.append_assoc], fun a ha => ?_⟩, e.tup, e.rol, e.oth, e.thr, e.frz⟩
  rcases List.mem_append.mp ha with z | z
  · exact nM a z
  · rw [List.mem_singleton.mp z]; exact hp
end
def Res.only {α β : Type} (r : Res α) (k : α → DS → Res β) : Res β := match r with
  | .ok a S => k a S
  | _ => .stuck
@[simp] theorem Res.only_ok {α β : Type} (a : α) (S : DS) (k : α → DS → Res β) : (Res.ok a S).only k = k a S := rfl
/-- one turn's test and element -/
def compT (t : DT) (e : DE) (S : DS) (acc : List D) : Res (List D) := (t S).only fun c S1 => if c then (e S1).only fun y S2 => if acc.length < mxL then .ok (acc ++ [y]) S2 else .stuck else .ok acc S1
def compV (g : DG) (t : DT) (e : DE) (w : List (Option D)) : List D → List D → List Ob → Res (List D)
  | [], acc, h => .ok acc ⟨w, h⟩
  | d :: ds, acc, h => match g d ⟨w, h⟩ with
    | some S0 => (compT t e S0 acc).only fun acc2 S1 => compV g t e w ds acc2 S1.h
    | none => .stuck
def compO (it : List Ob → Nat → Option (Option D)) (g : DG) (t : DT) (e : DE) (w : List (Option D)) : Nat → Nat → List D → List Ob → Res (List D)
  | 0, _, _, _ => .stuck
  | k + 1, i, acc, h => match it h i with
    | some none => .ok acc ⟨w, h⟩
    | some (some d) => match g d ⟨w, h⟩ with
      | some S0 => (compT t e S0 acc).only fun acc2 S1 => compO it g t e w k (i + 1) acc2 S1.h
      | none => .stuck
    | none => .stuck
def wipeD (ls : List (Option D)) : List Nat → List (Option D)
  | [] => ls
  | v :: vs => (wipeD ls vs).set v none
def dComp (vs : List Nat) (it : DS → Res Iter0) (g : DG) (t : DT) (e : DE) : DE := fun S => (it S).bind fun I S1 => match (match I with
    | .vals xs => compV g t e (wipeD S1.loc vs) xs [] S1.h
    | .dyn f => compO f g t e (wipeD S1.loc vs) 100000 0 [] S1.h) with
  | .ok acc S2 => newO (.lst acc) ⟨S1.loc, S2.h⟩
  | _ => .stuck
def tTrue : DT := fun S => .ok true S
section
variable {X : Cx} {cm : Str → Value} {W : WX} {K : PySem.W.Frag} {L : List Addr} {H : Hp} {S : DS} {σ : L2.St}
theorem loc_wipe {ls : List (Option D)} (r : LocR K cm L H ls σ) : ∀ vs : List Nat, LocR K cm L H (wipeD ls vs) (wipe σ vs)
  | [] => r
  | v :: vs => by
    have ih := loc_wipe r vs
    unfold wipeD wipe
    refine ⟨by rw [List.length_set, List.length_set]; exact ih.1, fun i d q => ?_⟩
    by_cases hi : v = i
    · subst hi
      by_cases hl : v < (wipeD ls vs).length
      · rw [List.getElem?_set_self hl] at q; cases q
      · rw [List.getElem?_eq_none (by rw [List.length_set]; omega)] at q; cases q
    · rw [List.getElem?_set_ne hi] at q
      rw [List.getElem?_set_ne hi]
      exact ih.2 i d q
/-- the target of a comprehension, by its slots -/
def TgOk (K : PySem.W.Frag) (cm : Str → Value) (vs : List Nat) (g : TG) (f : DG) : Prop := ∀ {L : List Addr} {H : Hp} {S : DS} {σ : L2.St} {d : D} {x : V} {S0 : DS} {Q : L2.St → Hp → Prop}, AbS K cm L H S (wipe σ vs) → Rep K cm L H d x → f d S = some S0 →
  (∀ σ2, AbS K cm L H S0 σ2 → wipe σ2 vs = wipe σ vs → Q σ2 H) → g x (wipe σ vs) H Q
theorem tg_one (i : Nat) : TgOk K cm [i] (gName i) (gN i) := fun {L H S σ d x S0 Q} a r e k => by
  cases e
  refine k _ (a.set r i) ?_
  show ((σ.set i none).set i (some x)).set i none = σ.set i none
  rw [List.set_set, List.set_set]
theorem tg_two (i j : Nat) (hij : i ≠ j) : TgOk K cm [i, j] (L2.gTup K 2 (L2.gCons (gName i) (L2.gCons (gName j) L2.gNil))) (gTup 2 (gCons (gN i) (gCons (gN j) gNil))) := fun {L H S σ d x S0 Q} a r e k => by
  unfold gTup at e
  split at e
  · rename_i xs
    split at e
    · rename_i hl
      cases r with
      | @tup xs vs p hs rr =>
        cases rr with
        | nil => cases hl
        | @cons d1 ds v1 vs r1 rr =>
          cases rr with
          | nil => cases hl
          | @cons d2 ds v2 vs r2 rr =>
            cases rr with
            | cons _ _ => cases hl
            | nil =>
              refine ⟨p, _, rfl, hs, rfl, v1, _, rfl, v2, _, rfl, rfl, ?_⟩
              cases e
              refine k _ ((a.set r1 i).set r2 j) ?_
              show ((((((σ.set j none).set i none).set i (some v1)).set j (some v2))).set j none).set i none = (σ.set j none).set i none
              rw [List.set_set, List.set_comm _ _ hij, List.set_comm none (some v1) (Ne.symm hij)]
              simp only [List.set_set, List.set_comm _ _ hij]
    · cases e
  · cases e
/-- what stands in the middle of a comprehension -/
structure Mid (K : PySem.W.Frag) (cm : Str → Value) (L1 : List Addr) (H1 : Hp) (p : Addr) (w : List (Option D)) (σw : L2.St) (La : List Addr) (Ha : Hp) (acc : List D) (h : List Ob) : Prop where
  ab : AbS K cm La Ha ⟨w, h⟩ σw
  ext : Ext K L1 H1 La Ha
  out : p ∉ La
  acc : ∃ vs, Ha p = some (.lst vs) ∧ Reps K cm La Ha acc vs
def W0 : WX := fun _ _ _ _ => False
theorem only_ok {α β : Type} {r : Res α} {k : α → DS → Res β} {y : β} {S' : DS} (h : r.only k = .ok y S') : ∃ a S, r = .ok a S ∧ k a S = .ok y S' := by
  cases r with
  | ok a S => exact ⟨a, S, rfl, h⟩
  | exc e S => cases h
  | stuck => cases h
/-- the test and the element of one turn -/
theorem turn_ok {tt : DT} {fe : DE} {L1 La : List Addr} {H1 Ha : Hp} {p : Addr} {w : List (Option D)} {σw σ2 : L2.St} {acc acc2 : List D} {S0 S1 : DS} (hp : H1 p = none) (e0 : Ext K L1 H1 La Ha) (out : p ∉ La) (ha : ∃ vs, Ha p = some (.lst vs) ∧ Reps K cm La Ha acc vs) (a : AbS K cm La Ha S0 σ2) (hl : LocR K cm La Ha w σw)
    (h : compT tt fe S0 acc = .ok acc2 S1) {Q : Hp → Prop} (q : ∀ Lb Hb, Mid K cm L1 H1 p w σw Lb Hb acc2 S1.h → Q Hb) :
    rdT K cm W0 tt σ2 Ha fun b H3 => if b = true then rdE K cm W0 fe σ2 H3 fun y H4 => ∃ ac, H4 p = some (.lst ac) ∧ ac.length < sizeLine ∧ Q (upd H4 p (.lst (ac ++ [y]))) else Q H3 := by
  obtain ⟨vs, hv, rv⟩ := ha
  obtain ⟨c, S2, h1, h2⟩ := only_ok h
  refine ⟨La, S0, a, ?_⟩
  rw [h1]
  rintro L3 H3 b e3 x3 rfl
  obtain ⟨out3, hv3⟩ := e3.out out hv
  cases c with
  | true =>
    rw [if_pos rfl] at h2 ⊢
    obtain ⟨y, S3, h3, h4⟩ := only_ok h2
    refine ⟨L3, S2, x3, ?_⟩
    rw [h3]
    intro L4 H4 v e4 x4 r4
    obtain ⟨out4, hv4⟩ := e4.out out3 hv3
    split at h4
    · rename_i hz
      cases h4
      refine ⟨vs, hv4, by rw [← rv.length]; exact mx_lt hz, q L4 _ ⟨?_, Ext.chg hp ((e0.trans e3).trans e4) (.inl ⟨vs, hv4⟩), out4, _, upd_same, ?_⟩⟩
      · have x5 : AbS K cm L4 H4 ⟨w, S1.h⟩ σw := ⟨x4.hp, hl.mono (e3.trans e4)⟩
        exact x5.chg out4 (.inl ⟨vs, hv4⟩)
      · exact ((rv.mono (e3.trans e4)).append (.cons r4 .nil)).monoW (ExtW.chg (.inl ⟨vs, hv4⟩))
    · cases h4
  | false =>
    rw [if_neg (by decide)] at h2 ⊢
    cases h2
    exact q L3 H3 ⟨⟨x3.hp, hl.mono e3⟩, e0.trans e3, out3, vs, hv3, rv.mono e3⟩
/-- the whole -/
theorem comp_core {it : DS → Res Iter0} {g : TG} {f : DG} {tt : DT} {fe : DE} {vs : List Nat} (tg : TgOk X.K cm vs g f) {σ : L2.St} {H : Hp} {Q : VK} (q : rdE X.K cm W (dComp vs it f tt fe) σ H Q) :
    tLc (rdI X.K cm W it) g (rdT X.K cm W0 tt) (rdE X.K cm W0 fe) vs σ H Q := by
  obtain ⟨L, S, a, q⟩ := q
  refine ⟨L, S, a, (Aft.step (R := ItR X.K cm) q).mono fun J H1 z => ?_⟩
  obtain ⟨L1, S1, I, e1, x1, r1, q1⟩ := z
  intro p hp
  have hl := loc_wipe x1.loc vs
  have mid0 : Mid X.K cm L1 H1 p (wipeD S1.loc vs) (wipe σ vs) L1 (upd H1 p (.lst [])) [] S1.h :=
    ⟨⟨x1.hp.beside hp, hl.mono (Ext.beside hp)⟩, Ext.beside hp, x1.hp.fresh hp, [], upd_same, .nil⟩
  -- the end
  have fin : ∀ {acc : List D} {S2 : DS} {La : List Addr} {Ha : Hp}, Mid X.K cm L1 H1 p (wipeD S1.loc vs) (wipe σ vs) La Ha acc S2.h → Aft X.K cm W (Rep X.K cm) L1 σ H1 (newO (.lst acc) ⟨S1.loc, S2.h⟩) Q → Q (.ref p) Ha := fun {acc S2 La Ha} m q => by
    obtain ⟨ws, hv, rv⟩ := m.acc
    have eo := m.ext.own hp
    have ew : ExtW X.K La Ha (La ++ [p]) (upd Ha p (.lst ws)) := ExtW.adopt (.inl ⟨ws, hv⟩)
    have hb := m.ab.hp.adopt (ob := .lst acc) m.out (.inl ⟨ws, hv⟩) ⟨ws, upd_same, rv.monoW ew⟩
    rw [upd_id hv] at hb
    exact q _ _ _ eo ⟨hb, x1.loc.mono eo⟩ (.ref m.ab.hp.newIx)
  cases I with
  | vals xs =>
    have wk : Walks0 X.K cm L1 H1 xs J := r1
    dsimp only at q1
    refine ⟨fun i m Ha => m = xs.length - i ∧ i ≤ xs.length ∧ ∃ La acc h S2 acc2, Mid X.K cm L1 H1 p (wipeD S1.loc vs) (wipe σ vs) La Ha acc h ∧ compV f tt fe (wipeD S1.loc vs) (xs.drop i) acc h = .ok acc2 S2 ∧ Aft X.K cm W (Rep X.K cm) L1 σ H1 (newO (.lst acc2) ⟨S1.loc, S2.h⟩) Q, ?_, ?_⟩
    · generalize hr : compV f tt fe (wipeD S1.loc vs) xs [] S1.h = r at q1
      cases r with
      | ok acc2 S2 => exact ⟨xs.length, by simp, Nat.zero_le _, L1, [], S1.h, S2, acc2, mid0, by simpa using hr, q1⟩
      | exc u S2 => exact q1.elim
      | stuck => exact q1.elim
    · rintro i m Ha ⟨rfl, hi, La, acc, h, S2, acc2, md, hc, qf⟩
      by_cases hlt : i < xs.length
      · obtain ⟨go, yl⟩ := wk.go La Ha i xs[i] md.ext (by simp [hlt])
        rw [List.drop_eq_getElem_cons hlt] at hc
        unfold compV at hc
        split at hc
        · rename_i S0 h0
          obtain ⟨acc3, S3, h3, h4⟩ := only_ok hc
          refine .inr ⟨go, fun Hb => i + 1 ≤ xs.length ∧ ∃ Lb, Mid X.K cm L1 H1 p (wipeD S1.loc vs) (wipe σ vs) Lb Hb acc3 S3.h, fun Hb ⟨z1, Lb, z2⟩ => ⟨xs.length - (i + 1), by omega, rfl, z1, Lb, acc3, S3.h, S2, acc2, z2, h4, qf⟩, fun x Hb y => ?_⟩
          obtain ⟨eb, hb, rx⟩ := yl x Hb y
          obtain ⟨ws, hv, rv⟩ := md.acc
          obtain ⟨outb, hvb⟩ := eb.out md.out hv
          have lb := md.ab.loc.mono eb
          refine tg ⟨hb _ md.ab.hp, lb⟩ rx h0 fun σ2 a2 ew => ⟨ew, ?_⟩
          exact turn_ok hp (md.ext.trans eb) outb ⟨ws, hvb, rv.mono eb⟩ a2 lb h3 fun Lb Hc mc => ⟨hlt, Lb, mc⟩
        · cases hc
      · have e0 : i = xs.length := by omega
        subst e0
        rw [List.drop_length] at hc
        cases hc
        exact .inl ⟨wk.stop La Ha md.ext, fin (S2 := ⟨wipeD S1.loc vs, h⟩) md qf⟩
  | dyn n =>
    have wk : WalksD X.K cm L1 H1 n J := r1
    dsimp only at q1
    refine ⟨fun i m Ha => ∃ La acc h S2 acc2, Mid X.K cm L1 H1 p (wipeD S1.loc vs) (wipe σ vs) La Ha acc h ∧ compO n f tt fe (wipeD S1.loc vs) m i acc h = .ok acc2 S2 ∧ Aft X.K cm W (Rep X.K cm) L1 σ H1 (newO (.lst acc2) ⟨S1.loc, S2.h⟩) Q, ?_, ?_⟩
    · generalize hr : compO n f tt fe (wipeD S1.loc vs) 100000 0 [] S1.h = r at q1
      cases r with
      | ok acc2 S2 => exact ⟨100000, L1, [], S1.h, S2, acc2, mid0, hr, q1⟩
      | exc u S2 => exact q1.elim
      | stuck => exact q1.elim
    · rintro i m Ha ⟨La, acc, h, S2, acc2, md, hc, qf⟩
      cases m with
      | zero => cases hc
      | succ m =>
        unfold compO at hc
        split at hc
        · rename_i hn
          cases hc
          exact .inl ⟨wk.stop La Ha _ i md.ext md.ab.hp hn, fin (S2 := ⟨wipeD S1.loc vs, h⟩) md qf⟩
        · rename_i d hd
          obtain ⟨go, yl⟩ := wk.go La Ha _ i d md.ext md.ab.hp hd
          split at hc
          · rename_i S0 h0
            obtain ⟨acc3, S3, h3, h4⟩ := only_ok hc
            refine .inr ⟨go, fun Hb => ∃ Lb, Mid X.K cm L1 H1 p (wipeD S1.loc vs) (wipe σ vs) Lb Hb acc3 S3.h, fun Hb ⟨Lb, z2⟩ => ⟨m, Nat.lt_succ_self _, Lb, acc3, S3.h, S2, acc2, z2, h4, qf⟩, fun x Hb y => ?_⟩
            obtain ⟨eb, hb, rx⟩ := yl x Hb y
            obtain ⟨ws, hv, rv⟩ := md.acc
            obtain ⟨outb, hvb⟩ := eb.out md.out hv
            have lb := md.ab.loc.mono eb
            refine tg ⟨hb _ md.ab.hp, lb⟩ rx h0 fun σ2 a2 ew => ⟨ew, ?_⟩
            exact turn_ok hp (md.ext.trans eb) outb ⟨ws, hvb, rv.mono eb⟩ a2 lb h3 fun Lb Hc mc => ⟨Lb, mc⟩
          · cases hc
        · cases hc
variable {elt tg iter : Expr} {ifs : List Expr} {scope : Scope} {own : List (Str × Nat)} {pos p : Pos}
theorem ts_nil : PTs X [] (rdT X.K cm W tTrue) := ⟨fun pins s σ H Q I q => pts_nil.run pins s σ H Q I (by
  obtain ⟨L, S, a, q⟩ := q
  exact q.give a rfl)⟩
theorem ts_one {c : Expr} {t : DT} (h : PT X c (rdT X.K cm W t)) : PTs X [c] (rdT X.K cm W t) := pts_one h
theorem e_comp {it : DS → Res Iter0} {g : TG} {f : DG} {tt : DT} {fe : DE} (hc : X.calm = true) (hN : X.N.Nodup) (hi : PI X tg iter (rdI X.K cm W it)) (ok : BlkOk X.N X.env.scope scope own) (tgo : TgOk X.K cm (own.map (·.2)) g f)
    (hg : ∀ (s : Shared) (H : Hp) (C : Addr) (cl : List (Str × Addr)) (fp : List Addr), PG (X.blk s H scope (compEnvC scope cl C X.env) fp) tg g)
    (ht : ∀ (s : Shared) (H : Hp) (C : Addr) (cl : List (Str × Addr)) (fp : List Addr), PTs (X.blk s H scope (compEnvC scope cl C X.env) fp) ifs (rdT X.K cm W0 tt))
    (he : ∀ (s : Shared) (H : Hp) (C : Addr) (cl : List (Str × Addr)) (fp : List Addr), PE (X.blk s H scope (compEnvC scope cl C X.env) fp) elt (rdE X.K cm W0 fe)) (hs : ∀ x, foldedSetIterable iter X.env x = pure x := by intro _; rfl) :
    PE X (.ListComp elt [⟨tg, iter, ifs, 0⟩] scope pos) (rdE X.K cm W (dComp (own.map (·.2)) it f tt fe)) := weakE (pe_lc hc hN hi ok hg ht he hs) fun _ _ _ => comp_core tgo
/-- name = [..] on one line -/
theorem s_setC {i : Nat} {y : Str} {py spos : Pos} {it : DS → Res Iter0} {g : TG} {f : DG} {tt : DT} {fe : DE} (hc : X.calm = true) (hN : X.N.Nodup) (hy : X.N[i]? = some y) (hyl : X.env.scope.names.lookup y = some .local)
    (hsw : swapsWith (.ListComp elt [⟨tg, iter, ifs, 0⟩] scope pos) (some (.Name y py)) spos.line X.env = pure true) (hi : PI X tg iter (rdI X.K cm W it)) (ok : BlkOk X.N X.env.scope scope own) (tgo : TgOk X.K cm (own.map (·.2)) g f)
    (hg : ∀ (s : Shared) (H : Hp) (C : Addr) (cl : List (Str × Addr)) (fp : List Addr), PG (X.blk s H scope (compEnvC scope cl C X.env) fp) tg g)
    (ht : ∀ (s : Shared) (H : Hp) (C : Addr) (cl : List (Str × Addr)) (fp : List Addr), PTs (X.blk s H scope (compEnvC scope cl C X.env) fp) ifs (rdT X.K cm W0 tt))
    (he : ∀ (s : Shared) (H : Hp) (C : Addr) (cl : List (Str × Addr)) (fp : List Addr), PE (X.blk s H scope (compEnvC scope cl C X.env) fp) elt (rdE X.K cm W0 fe)) (hs : ∀ x, foldedSetIterable iter X.env x = pure x := by intro _; rfl) :
    PS X (.Assign [.Name y py] (.ListComp elt [⟨tg, iter, ifs, 0⟩] scope pos) spos) (rdS X.K cm W (sAsg (dComp (own.map (·.2)) it f tt fe) (gN i))) := weakS (ps_setLc hc hN hy hyl hsw hi ok hg ht he hs) fun E σ H q => by
  obtain ⟨L, S, a, q⟩ := q
  refine comp_core tgo ⟨L, S, a, (AftS.step (R := Rep X.K cm) q).mono fun v H1 z => ?_⟩
  obtain ⟨L1, S1, d, e1, x1, r1, q1⟩ := z
  exact q1 L1 H1 _ Ext.refl (x1.set r1 i)
end
end Den

namespace Den
open PySem L2

/-! ### 18. raise -/
/-- an __init__ that keeps its one value -/
def spI (K : PySem.W.Frag) (C : Addr) (f : Str) : Sp := fun vs H Q _ => ∃ a v, vs = [.ref a, v] ∧ OexC K C ∧ PySem.W.findIn K (.ref C) f = some none ∧ H a = some (exo a C none) ∧ ∀ dx, H dx = none → dx ≠ a → Q .non (upd (upd H dx (exd dx [(f, v)])) a (exo a C (some dx)))
def sRaise1 (cls f : Str) (a : DA) : DSt := fun S => (a S).bind fun ds S1 => match ds with
  | [d] => .exc ⟨cls, [(f, d)]⟩ S1
  | _ => .stuck
def sRaise0 (cls : Str) : DSt := fun S => .exc ⟨cls, []⟩ S
section
variable {X : Cx} {cm : Str → Value} {W : WX} {e : Expr} {x f cls : Str} {p p2 pos pos2 : Pos} {ga : DA} {C fI : Addr} {k : Nat} {fd : FuncData} {K : PySem.W.Frag} {L : List Addr} {H : Hp} {S : DS} {σ : L2.St}
theorem spI_len {n0 n1 : Str} : ∀ vs H Q E, spI K C f vs H Q E → vs.length = [n0, n1].length := fun _ _ _ _ h => by
  obtain ⟨_, _, rfl, _⟩ := h
  rfl
theorem spI_body {X : Cx} {D : Ends} {vs : List V} {H : Hp} {Q : VK} {E : XK} (h : spI X.K C f vs H Q E) (hD : D.nx = fun _ H' => Q .non H') : tOst X.K f (tVar 0) (tVar 1) D (vs.map some) H := by
  obtain ⟨a, v, rfl, T, hno, ea, q⟩ := h
  refine ⟨v, rfl, .ref a, rfl, a, C, rfl, T, hno, .inl ⟨ea, fun dx h1 h2 => ?_⟩⟩
  rw [hD]
  exact q dx h1 h2
theorem look_one {α : Type} {f g : Str} {y : α} : List.lookup g [(f, y)] = if g = f then some y else none := by
  by_cases h : g = f
  · subst h; simp [List.lookup]
  · have e : (g == f) = false := by simpa using h
    rw [if_neg h]; simp [List.lookup, e]
theorem s_raise1 {n0 n1 : Str} (hc : X.calm = true) (tk : Takes X W) (T : OexC X.K C) (hno : PySem.W.findIn X.K (.ref C) f = some none) (hcl : cm cls = .ref C) (iC : PySem.W.findIn X.K (.ref C) "__init__" = some (some (.ref fI))) (tI : PySem.W.typeIn X.K (.ref fI) = some (.type "function"))
    (F1 : FnOk X.prog X.w X.K X.mg X.base (L2.CX X.prog X.w) k fI fd [n0, n1] (spI X.K C f)) (hr : Room (k + 1) X.A) (hb : Binds X.K fd [n0, n1] []) (hg : Gl X x) (hm : X.mg x = some (.ref C)) (ha : PA X [e] (rdA X.K cm W ga))
    (hdb : (x == ("__debug__" : Str)) = false := by decide) (he : starEach [e] X.env = (false, eval e X.env) :: starEach [] X.env := by rfl) (hpl : (backTo pos (starEach [] X.env)).any (·.1) = false := by rfl) :
    PS X (.Raise (some (.Call (.Name x p) [e] [] pos)) none pos2) (rdS X.K cm W (sRaise1 cls f ga)) := weakS (ps_raise hc tk (pmk_oex (dvs := []) T iC tI F1 hr hb .nil passL hg hm ha hdb he hpl)) fun E σ H q => by
  obtain ⟨L, S, a, q⟩ := q
  refine ⟨L, S, a, (AftS.step (R := Reps X.K cm) q).mono fun vs H1 z => ?_⟩
  obtain ⟨L1, S1, ds, e1, x1, r1, q1⟩ := z
  split at q1
  · rename_i d
    cases r1 with
    | cons r1 r2 =>
      cases r2
      rename_i v
      refine ⟨by show 1 ≤ 1000; omega, fun o ho => ⟨o, v, rfl, T, hno, upd_same, fun dx h1 h2 => ⟨rfl, dx, [(f, v)], upd_same, ?_, ?_, ?_⟩⟩⟩
      · rw [upd_ne h2, upd_same]
      · rw [upd_ne h2] at h1; exact h1
      · rw [upd_ne h2] at h1
        have eq : upd (del (upd (upd (upd H1 o (exo o C none)) dx (exd dx [(f, v)])) o (exo o C (some dx))) o) dx (HO.xd [(f, v)]) = upd H1 dx (.xd [(f, v)]) := by
          funext b
          by_cases z1 : b = dx
          · subst z1; rw [upd_same, upd_same]
          · rw [upd_ne z1, upd_ne z1]
            by_cases z2 : b = o
            · subst z2; rw [del_same, ho]
            · rw [del_ne z2, upd_ne z2, upd_ne z1, upd_ne z2]
        rw [eq]
        refine q1 L1 _ σ (.ref C) (some dx) (Ext.beside h1) (x1.beside h1) ⟨hcl.symm, .inr ⟨dx, [(f, v)], rfl, upd_same, fun g y hy => ?_⟩⟩
        rw [look_one] at hy ⊢
        split at hy
        · rename_i hg; cases hy
          exact ⟨v, by rw [if_pos hg], r1.mono (Ext.beside h1)⟩
        · cases hy
  · exact q1.elim
/-- C(), C without an own __init__ -/
theorem pmk_own0 {bmB : List Value} {B newId initId : String} (F : ExcBaseFacts B newId initId bmB) (q : PySem.W.excIn X.K C bmB newId = true) (gC : X.mg x = some (.ref C)) (kC : PySem.W.keepIn X.K (.ref C) = true) (r : Raises X (.ref C)) (hg : Gl X x)
    (hdb : (x == ("__debug__" : Str)) = false := by decide) : PMk X (.Call (.Name x p) [] [] pos) (fun _ H Q => Q (.ref C) none H) := by
  intro pins s σ H Q I h
  apply wpAny_Call_Name_kw
  apply ld_glob I hg gC _ hdb
  apply PySem.W.callWith_K0 I.kIn kC
  show wpAny _ _ (call (.ref C) []) _ _ _
  obtain ⟨bm, N, nm, qn, bs, hdct, sn, sub, ab, col, dd, k0, k1, k2, k3, k5, mN, hC, hN, hni, T⟩ := exc_obj I.kIn q
  apply wpAny_call_exc_subT F T hC hN hni
  · intro h' o hm
    exact mk_of I hm r h (I.hok.gone hm.new)
theorem s_raise0 (hc : X.calm = true) (tk : Takes X W) (hcl : cm cls = .ref C) (h : PMk X e (fun _ H Q => Q (.ref C) none H)) : PS X (.Raise (some e) none pos2) (rdS X.K cm W (sRaise0 cls)) := weakS (ps_raise hc tk h) fun E σ H q => by
  obtain ⟨L, S, a, q⟩ := q
  exact q L H σ (.ref C) none Ext.refl a ⟨hcl.symm, .inl ⟨rfl, rfl⟩⟩
end

/-! ### 19. try -/
def sTry1 (sub : Str → Option Bool) (b : DSt) (h : Xn → DSt) : DSt := fun S => match b S with
  | .exc e S1 => match sub e.cls with
    | some true => match h e S1 with
      | .ok f S2 => .ok f S2
      | _ => .stuck
    | some false => .exc e S1
    | none => .stuck
  | r => r
def sRetX (i : Nat) (f : Xn → DE) : Xn → DSt := fun e S => if i < S.loc.length then sRet (f e) { S with loc := S.loc.set i none } else .stuck
section
variable (K : PySem.W.Frag) (cm : Str → Value) (i : Nat) (a : Addr) (cls : Value) (dx : Option Addr)
/-- a reading in an except suite, over the exception at a, whose name is slot i's -/
def rdX {α β : Type} (R : List Addr → Hp → α → β → Prop) (f : Xn → DS → Res α) : L2.St → Hp → (β → Hp → Prop) → Prop := fun σ H Q =>
  σ[i]? = some (some (.ref a)) ∧ ∃ L S e, AbS K cm L H S σ ∧ XnR K cm L H e cls dx ∧ Aft K cm W0 R L σ H (f e S) Q
end
def xFld (cn f : Str) : Xn → DE := fun e S => if e.cls = cn then match e.fs.lookup f with
  | some d => .ok d S
  | none => .stuck else .stuck
def xIsi (cn : Str) (b : Bool) : Xn → DE := fun e S => if e.cls = cn then .ok (.bl b) S else .stuck
def xC (f : DE) : Xn → DE := fun _ => f
def xNil : Xn → DA := fun _ => dNil
def xCons (f : Xn → DE) (g : Xn → DA) : Xn → DA := fun e => dCons (f e) (g e)
def xLst (g : Xn → DA) : Xn → DE := fun e => dLst (g e)
theorem XnR.mono {K : PySem.W.Frag} {cm : Str → Value} {L L1 : List Addr} {H H1 : Hp} {S : DS} {σ : L2.St} {e : Xn} {c : Value} {dx : Option Addr} (x : XnR K cm L H e c dx) (a : AbS K cm L H S σ) (ex : Ext K L H L1 H1) : XnR K cm L1 H1 e c dx := by
  obtain ⟨h1, h2⟩ := x
  refine ⟨h1, ?_⟩
  rcases h2 with h2 | ⟨d, vs, rfl, hd, hf⟩
  · exact .inl h2
  · refine .inr ⟨d, vs, rfl, ex.oth d _ (fun hm => ?_) hd, fun f y hy => ?_⟩
    · obtain ⟨n, hn, en⟩ := List.getElem_of_mem hm
      have hl : n < S.h.length := by rw [← a.hp.len]; exact hn
      have q := a.hp.obs n S.h[n] d (by simp [hl]) (by rw [List.getElem?_eq_getElem hn, en])
      generalize S.h[n] = ob at q
      cases ob with
      | lst ds => obtain ⟨vs, e, _⟩ := q; rw [hd] at e; cases e
      | dct ds => obtain ⟨vs, e, _⟩ := q; rw [hd] at e; cases e
      | fdct ds => obtain ⟨o, vs, e, _⟩ := q; rw [hd] at e; cases e
    · obtain ⟨v, hv, r⟩ := hf f y hy
      exact ⟨v, hv, r.mono ex⟩
section
variable {X : Cx} {cm : Str → Value} {W : WX} {i : Nat} {a C : Addr} {cls : Value} {dx : Option Addr} {oe : Obj} {pn : List (Addr × Obj)} {e : Expr} {es : List Expr} {pos p np pos' : Pos} {n x cn f : Str} {L : List Addr} {H : Hp} {S : DS} {σ : L2.St}
theorem rdX.at {K : PySem.W.Frag} {α β : Type} {R : List Addr → Hp → α → β → Prop} {f : Xn → DS → Res α} {Q : β → Hp → Prop} (h : rdX K cm i a cls dx R f σ H Q) : tVar i σ H fun v H1 => v = .ref a ∧ H1 = H := ⟨_, h.1, rfl, rfl⟩
theorem x_of {f : DE} (h : PE (X.suite a pn) e (rdE X.K cm W0 f)) : PE (X.suite a pn) e (rdX X.K cm i a cls dx (Rep X.K cm) (xC f)) := weakE h fun σ H Q q => by
  obtain ⟨_, L, S, e, ab, _, q⟩ := q
  exact ⟨L, S, ab, q⟩
theorem x_fld (T : XfC X.K C) (hcn : cm cn = .ref C) (hno : PySem.W.findIn X.K (.ref C) f = some none) (hz : Zc cls dx oe) (hf : ∃ vs, oe.data = .fields vs) (hN : X.N[i]? = some n := by rfl) (hv : Vis X.env.scope n := by first | exact Or.inl rfl | exact Or.inr (Or.inl rfl) | exact Or.inr (Or.inr rfl))
    (hd : (n == ("__debug__" : Str)) = false := by decide) (hcd : (n == ("__classdict__" : Str)) = false := by decide) (hb : attributeBase (.Name n p) f X.env (eval (.Name n p) X.env) = eval (.Name n p) X.env := by rfl) :
    PE (X.suite a ((a, oe) :: pn)) (.Attribute (.Name n p) f pos) (rdX X.K cm i a cls dx (Rep X.K cm) (xFld cn f)) := weakE (pe_xf (X := X) T hno hz hf (pe_var (X := X.suite a ((a, oe) :: pn)) hN hv hd hcd) hb) fun σ H Q q => by
  obtain ⟨hs, L, S, e, ab, xr, q⟩ := q
  refine ⟨_, hs, rfl, ?_⟩
  unfold xFld at q
  split at q
  · rename_i hc
    split at q
    · rename_i d hl
      obtain ⟨e1, e2⟩ := xr
      refine ⟨by rw [e1, hc, hcn], ?_⟩
      rcases e2 with ⟨e2, _⟩ | ⟨dd, vs, rfl, hdd, hfs⟩
      · rw [e2] at hl; cases hl
      · obtain ⟨v, hv, r⟩ := hfs f d hl
        exact ⟨dd, vs, v, rfl, hdd, hv, q.give ab r⟩
    · exact q.elim
  · exact q.elim
/-- isinstance of the exception -/
def rIsX (K : PySem.W.Frag) (a : Addr) (cls : Value) (dx : Option Addr) (D : Addr) (cv : Value) (b : Bool) : List V → Hp → VK → Prop := fun xs H Q => ∃ c, xs = [.ref a, c] ∧ (∀ u, RelV c u → u = cv) ∧ cls = .ref D ∧ (dx = none ∨ ∃ dd fs, dx = some dd ∧ H dd = some (.xd fs)) ∧ Q (.bl b) H
structure IsC (K : PySem.W.Frag) (D : Addr) : Prop where
  cl : (PySem.W.clsIn K D).isSome = true
  ga : PySem.W.findIn K (.ref D) "__getattribute__" = some (some (.builtin "BaseException.__getattribute__"))
  gt : PySem.W.findIn K (.ref D) "__getattr__" = some none
  sub : PySem.W.subIn K (.ref D) (.type "BaseException") = some true
  cc : PySem.W.findIn K (.ref D) "__class__" = some (some (.builtin "object.__class__"))
  nn : PySem.W.specialIn K (.builtin "object.__class__") "__get__" = some (some (.builtin "getset_descriptor.__get__"))
  tk : PySem.W.takesIn K (.builtin "object.__class__") = some true
  mo : PySem.W.mroIn K D (.type "object") = some true
theorem call_isX {D : Addr} {cv : Value} {b : Bool} (I0 : IsC X.K D) (kb : PySem.W.kitOne X.K (.ref D) cv = some b) (hz : Zc cls dx oe) (hf : ∃ vs, oe.data = .fields vs) : CallR (X.suite a ((a, oe) :: pn)) (.builtin "isinstance") (rIsX X.K a cls dx D cv b) := by
  intro pins s σ H xs us Q I r h
  obtain ⟨c, rfl, hcv, rfl, hdx, q⟩ := h
  cases r with
  | cons rx rr =>
    cases rr with
    | cons rt rr =>
      cases rr
      cases rx
      have ec := hcv _ rt
      subst ec
      obtain ⟨hget, _⟩ := I.pin (a, oe) (List.mem_append.mpr (.inl List.mem_cons_self))
      obtain ⟨vs, hv⟩ := hf
      obtain ⟨od, J⟩ : ∃ od, PySem.W.InstAt s.heap a oe D od := by
        rcases hdx with rfl | ⟨dd, fs, rfl, hdd⟩
        · exact ⟨none, hget, hz.1, by unfold PySem.W.notCls; rw [hv] <;> rfl, by rw [hz.2]; trivial⟩
        · have hx : ObjOk X.prog X.w H s.heap dd (.xd fs) := I.hok dd _ hdd
          obtain ⟨mA, ⟨o, es, ep, ho, hr⟩, _⟩ := hx
          exact ⟨some o, hget, hz.1, by unfold PySem.W.notCls; rw [hv] <;> rfl, by rw [hz.2]; exact ho⟩
      exact PySem.W.kia_one (PySem.W.kitx_exc I0.cl I0.ga I0.gt I0.sub I0.cc I0.nn I0.tk I0.mo) I.kIn J kb (fun z => nomatch z) fun tk => ⟨.bl b, H, I.kept (t' := tk) fun _ _ z => z, rfl, q⟩
theorem x_isi {cv : Value} {b : Bool} {D : Addr} {y : Str} {p1 p2 p3 : Pos} {v : V} (I0 : IsC X.K D) (kb : PySem.W.kitOne X.K (.ref D) cv = some b) (hcn : cm cn = .ref D) (hz : Zc cls dx oe) (hf : ∃ vs, oe.data = .fields vs) (hg : Gl X "isinstance") (hm : X.mg "isinstance" = none)
    (hgy : Gl X y) (hmy : X.mg y = some cv) (rv : RelV v cv) (hv1 : ∀ u, RelV v u → u = cv) (hy : (y == ("__debug__" : Str)) = false := by decide) (hN : X.N[i]? = some n := by rfl) (hv : Vis X.env.scope n := by first | exact Or.inl rfl | exact Or.inr (Or.inl rfl) | exact Or.inr (Or.inr rfl))
    (hd : (n == ("__debug__" : Str)) = false := by decide) (hcd : (n == ("__classdict__" : Str)) = false := by decide) :
    PE (X.suite a ((a, oe) :: pn)) (.Call (.Name "isinstance" p1) [.Name n p2, .Name y p3] [] pos) (rdX X.K cm i a cls dx (Rep X.K cm) (xIsi cn b)) :=
  weakE (pe_callB (X := X.suite a ((a, oe) :: pn)) (call_isX I0 kb hz hf) hg hm rfl (pa_cons (pe_var (X := X.suite a ((a, oe) :: pn)) hN hv hd hcd) (pa_cons (pe_glob (X := X.suite a ((a, oe) :: pn)) hgy hmy rv hy) pa_nil)) (by decide) (by decide)) fun σ H Q q => by
    obtain ⟨hs, L, S, e, ab, xr, q⟩ := q
    unfold xIsi at q
    split at q
    · rename_i hc
      obtain ⟨e1, e2⟩ := xr
      refine ⟨_, hs, v, rfl, hv1, by rw [e1, hc, hcn], ?_, q.give ab (.bl b)⟩
      rcases e2 with ⟨_, e2⟩ | ⟨dd, vs, e2, hdd, _⟩
      · exact .inl e2
      · exact .inr ⟨dd, vs, e2, hdd⟩
    · exact q.elim
theorem xa_nil : PA (X.suite a pn) [] (rdX X.K cm i a cls dx (Reps X.K cm) xNil) := weakA pa_nil fun σ H Q q => by
  obtain ⟨_, L, S, e, ab, _, q⟩ := q
  exact q.give ab .nil
theorem xa_cons {ff : Xn → DE} {gg : Xn → DA} (h : PE (X.suite a pn) e (rdX X.K cm i a cls dx (Rep X.K cm) ff)) (hr : PA (X.suite a pn) es (rdX X.K cm i a cls dx (Reps X.K cm) gg)) (hs : starEach (e :: es) X.env = (false, eval e X.env) :: starEach es X.env := by rfl) :
    PA (X.suite a pn) (e :: es) (rdX X.K cm i a cls dx (Reps X.K cm) (xCons ff gg)) := weakA (pa_cons h hr hs) fun σ H Q q => by
  obtain ⟨hs, L, S, e, ab, xr, q⟩ := q
  refine ⟨hs, L, S, e, ab, xr, (Aft.step (R := Rep X.K cm) q).mono fun v H1 z => ?_⟩
  obtain ⟨L1, S1, d, e1, x1, r1, q1⟩ := z
  refine ⟨hs, L1, S1, e, x1, xr.mono ab e1, (Aft.step (R := Reps X.K cm) q1).mono fun u H2 z => ?_⟩
  obtain ⟨L2, S2, d2, e2, x2, r2, q2⟩ := z
  exact q2.give x2 (.cons (r1.mono e2) r2)
theorem x_lst {gg : Xn → DA} (h : PA (X.suite a pn) es (rdX X.K cm i a cls dx (Reps X.K cm) gg)) : PE (X.suite a pn) (.List es pos) (rdX X.K cm i a cls dx (Rep X.K cm) (xLst gg)) := weakE (pe_lst h) fun σ H Q q => by
  obtain ⟨hs, L, S, e, ab, xr, q⟩ := q
  refine ⟨hs, L, S, e, ab, xr, (Aft.step (R := Reps X.K cm) q).mono fun v H1 z => ?_⟩
  obtain ⟨L1, S1, d, e1, x1, r1, q1⟩ := z
  split at q1
  · rename_i h
    exact ⟨mx_line (by rw [← r1.length]; exact h), fun p hp => give_new x1 r1 q1 hp⟩
  · exact q1.elim
theorem LocR.unset {K : PySem.W.Frag} {ls : List (Option D)} {v : Option V} (r : LocR K cm L H ls σ) (i : Nat) : LocR K cm L H (ls.set i none) (σ.set i v) := by
  refine ⟨by rw [List.length_set, List.length_set]; exact r.1, fun j d q => ?_⟩
  by_cases hi : i = j
  · subst hi
    by_cases hl : i < ls.length
    · rw [List.getElem?_set_self hl] at q; cases q
    · rw [List.getElem?_eq_none (by rw [List.length_set]; omega)] at q; cases q
  · rw [List.getElem?_set_ne hi] at q
    rw [List.getElem?_set_ne hi]
    exact r.2 j d q
theorem s_try_as {c : Value} {sub : Str → Option Bool} {body : List Stmt} {e0 : Expr} {pr : Pos} {b : DSt} {ff : Xn → DE} (hs : X.stack = X.env :: X.outer) (hf : X.env.frame = some X.env.locals) (hN : X.N.Nodup) (hi : X.N[i]? = some n) (hln : X.env.kindOf n = some .local) (hc : Names X x c) (tk : Takes X W)
    (hsub : ∀ m r, sub m = some r → PySem.W.exmOne X.K (cm m) c = some r)
    (hb : ∀ (W : WX) (pn : List (Addr × Obj)) (xe : Value → Shared → Prop), Takes (X.tr pn xe) W → PassesOwn (model X.prog X.w) X.A X.env xe → PSs (X.tr pn xe) body (rdS X.K cm W b))
    (hsu : ∀ (a : Addr) (oe : Obj) (cls : Value) (d : Option Addr) (pn : List (Addr × Obj)), Zc cls d oe → (∃ vs, oe.data = .fields vs) → PE (X.suite a ((a, oe) :: pn)) e0 (rdX X.K cm i a cls d (Rep X.K cm) ff)) :
    PS X (.Try body [.ExceptHandler (some (.Name x np)) (some n) [.Return (some e0) pr] pos'] [] [] pos) (rdS X.K cm W (sTry1 sub b (sRetX i ff))) :=
  weakS (ps_try_as (ts := fun a cls d => tRet (rdX X.K cm i a cls d (Rep X.K cm) ff)) hs hf hN hi hln hc tk hb fun a oe cls d pn h1 h2 => pss_one (ps_ret (hsu a oe cls d pn h1 h2))) fun D σ H q => by
    obtain ⟨L, S, ab, q⟩ := q
    refine ⟨L, S, ab, ?_⟩
    unfold sTry1 at q
    generalize b S = r at q
    cases r with
    | ok f S1 => cases f <;> exact q
    | stuck => exact q
    | exc u S1 =>
      dsimp only at q
      intro L1 H1 σ1 cl dx e1 x1 xr
      split at q
      · rename_i hsb
        refine ⟨true, ?_, fun _ a ha => ?_, fun z => by cases z⟩
        · rw [xr.1]; exact hsub _ _ hsb
        · have q1 := AftS.ext e1 q
          unfold sRetX sRet at q1
          by_cases hlt : i < S1.loc.length
          · rw [if_pos hlt] at q1
            refine ⟨by rw [List.getElem?_set_self (by rw [← x1.loc.1]; exact hlt)], L1, { S1 with loc := S1.loc.set i none }, u, ⟨x1.hp, x1.loc.unset i⟩, xr, ?_⟩
            generalize ff u { S1 with loc := S1.loc.set i none } = w at q1
            cases w with
            | ok d S2 => exact fun L' H' v ex xx rr => q1 L' H' (σ1.set i (some (.ref a))) v ex xx rr
            | exc _ _ => exact q1.elim
            | stuck => exact q1.elim
          · rw [if_neg hlt] at q1
            exact q1.elim
      · rename_i hsb
        refine ⟨false, ?_, fun z => (by cases z), fun _ => ?_⟩
        · rw [xr.1]; exact hsub _ _ hsb
        · exact (AftS.ext e1 q) L1 H1 σ1 cl dx Ext.refl x1 xr
      · exact q.elim
end
end Den

namespace Den
open PySem L2

/-! ### 20. x[::-1] -/
def revS (z : Str) : Str := ⟨z.cps.reverse⟩
def oRev : D → DS → Res D := fun x S => match x with
  | .str z => if z.length ≤ mxL then .ok (.str (revS z)) S else .stuck
  | .ro xs => newO (.lst xs.reverse) S
  | .ref n => match S.h[n]? with
    | some (.lst xs) => newO (.lst xs.reverse) S
    | _ => .stuck
  | _ => .stuck
def dRev (a : DE) : DE := fun S => (a S).bind oRev
def tRevA (K : PySem.W.Frag) (te : TE) : TE := fun σ H Q => te σ H fun x H1 => (∃ z, x = .str z ∧ z.length ≤ sizeLine ∧ Q (.str (revS z)) H1) ∨ ∃ a xs, x = .ref a ∧ SqL K H1 a xs ∧ ∀ p, H1 p = none → Q (.ref p) (upd H1 p (.lst xs.reverse))
theorem rev_ix (n : Nat) : Builtin.Str.strSliceIndices none none (-1) n = (List.range n).reverse := by
  rw [← PySem.W.krv_range, ← PySem.W.krv_sliceRange]
  rfl
section
variable {X : Cx} {cm : Str → Value} {W : WX} {e : Expr} {fa : DE} {te : TE} {k : Nat} {p1 p2 p3 pos : Pos}
theorem revS_size (z : Str) : (revS z).length = z.length := by
  show (z.cps.reverse).size = z.cps.size
  exact Array.size_reverse
theorem pe_revA (he : PE X e te) : PE X (.Subscript e (.Slice none none (some (.UnaryOp .USub (.Constant (.int 1) k p1) p2)) p3) pos) (tRevA X.K te) := by
  constructor
  intro pins s σ H Q I hh
  apply PyProof.Rows.Subscript_
  apply thn (he.run pins s σ H _ I hh)
  rintro v s1 ⟨x, H1, I1, rx, hq⟩
  have step1 : PO X (some (.UnaryOp .USub (.Constant (.int 1) k p1) p2)) (tPart (tUn (rU fun i => .int (-i)) (tC (.int 1)))) := po_some (pe_un un_neg pe_int)
  apply wpAny_Slice
  apply thn (po_none.run pins s1 σ H1 (fun o G => o = none ∧ G = H1) I1 ⟨rfl, rfl⟩)
  rintro vl s2 ⟨l, H2, I2, pl, rfl, rfl⟩
  apply thn (po_none.run pins s2 σ H2 (fun o G => o = none ∧ G = H2) I2 ⟨rfl, rfl⟩)
  rintro vu s3 ⟨u, H3, I3, pu, rfl, rfl⟩
  apply thn (step1.run pins s3 σ H3 (fun o G => o = some (-1) ∧ G = H3) I3 ⟨1, rfl, -1, rfl, rfl, rfl⟩)
  rintro vs s4 ⟨o, H4, I4, ps, rfl, rfl⟩
  have J : Inv X pins σ H4 { s4 with heap := s4.heap.push { cls := .type "slice", data := .fields #[vl, vu, vs] } } := I4.kept (t' := s4.toks) fun b ob q => Heap.get?_push_of_some _ q
  rcases hq with ⟨z, rfl, hz, hq⟩ | ⟨a, xs, rfl, hx, hq⟩
  · obtain ⟨t, rfl⟩ := rx
    obtain ⟨l, rfl, hl⟩ := IsPart.raw pl
    obtain ⟨u, rfl, hu⟩ := IsPart.raw pu
    obtain ⟨st, rfl, hst⟩ := IsPart.raw ps
    show wpAny (model X.prog X.w) X.A (PyProof.Rows.subscriptTail e (.Slice none none (some (.UnaryOp .USub (.Constant (.int 1) k p1) p2)) p3) (.str z t) (.ref s4.heap.objs.size)) (EP X pins σ Q) X.xe { s4 with heap := s4.heap.push { cls := .type "slice", data := .fields #[partValue l, partValue u, partValue st] } }
    apply PyProof.Rows.tail_any (T := "str") (ops := [.str z t, .ref s4.heap.objs.size]) (typeIs_str _ z t) F.slot_str_getitem.lookup _ (by with_unfolding_all rfl)
    apply wpAny_getItem_str_slice (l := l) (u := u) (st := st) ⟨_, Heap.get?_push_size _ rfl, rfl, rfl⟩ (by rw [hst]; rfl)
    have e0 : slicePicked z l u st = (List.range z.length).reverse := by
      unfold slicePicked
      rw [hl, hu, hst]
      exact rev_ix z.length
    have c0 : ((st.map (·.1)).getD 1 == 1 && (slicePicked z l u st).length == z.length) = false := by rw [hst]; rfl
    unfold sliceMade
    rw [if_neg (by rw [c0]; decide), e0]
    have e1 : (⟨((List.range z.length).reverse.filterMap (z.cps[·]?)).toArray⟩ : Str) = revS z := by
      unfold revS
      rw [List.filterMap_reverse, show z.length = z.cps.size from rfl, PySem.W.krv_all, ← Array.toList_reverse]
    rw [e1]
    exact ⟨by rw [revS_size]; exact hz, .str _, H4, J.tok _, ⟨_, rfl⟩, hq⟩
  · cases rx
    obtain ⟨its, r, ht, hz⟩ := J.list hx
    have hn := r.length
    show wpAny (model X.prog X.w) X.A (PyProof.Rows.subscriptTail e (.Slice none none (some (.UnaryOp .USub (.Constant (.int 1) k p1) p2)) p3) (.ref a) (.ref s4.heap.objs.size)) (EP X pins σ Q) X.xe { s4 with heap := s4.heap.push { cls := .type "slice", data := .fields #[vl, vu, vs] } }
    apply PyProof.Rows.tail_any (ops := [.ref a, .ref s4.heap.objs.size]) ht.isList.typeIs PySem.slot_list_getitem.lookup _ (by with_unfolding_all rfl)
    apply wpAny_getItem_list_slice ht.isList (Heap.IsSliceOf.new _ vl vu vs) pl pu ps (by decide) _ (by rw [List.size_toArray]; omega)
    rw [PySem.W.krv_pick]
    exact ⟨.ref _, _, J.laid (t' := s4.toks) (o := .lst xs.reverse) (fun b ob q => Heap.get?_push_of_some _ q) (Nat.le_refl _) ⟨by rw [List.length_reverse]; exact hz, _, 0, r.reverse, Heap.get?_push_size _ rfl⟩, rfl, hq _ (J.hok.fresh (Nat.le_refl _))⟩
theorem reps_rev {K : PySem.W.Frag} {L : List Addr} {H : Hp} : ∀ {ds : List D} {vs : List V}, Reps K cm L H ds vs → Reps K cm L H ds.reverse vs.reverse
  | _, _, .nil => .nil
  | _, _, .cons r t => by
    rw [List.reverse_cons, List.reverse_cons]
    exact (reps_rev t).append (.cons r .nil)
theorem e_rev (he : PE X e (rdE X.K cm W fa)) : PE X (.Subscript e (.Slice none none (some (.UnaryOp .USub (.Constant (.int 1) k p1) p2)) p3) pos) (rdE X.K cm W (dRev fa)) := weakE (pe_revA he) fun σ H Q q => by
  obtain ⟨L, S, a, q⟩ := q
  refine ⟨L, S, a, (Aft.step (R := Rep X.K cm) q).mono fun v H1 z => ?_⟩
  obtain ⟨L1, S1, d, e1, x1, r1, q1⟩ := z
  unfold oRev at q1
  split at q1
  · split at q1
    · rename_i h
      cases r1
      exact .inl ⟨_, rfl, mx_line h, q1.give x1 (.str _)⟩
    · exact q1.elim
  · cases r1 with
    | ro hs rr => exact .inr ⟨_, _, rfl, hs.sq, fun p hp => give_new x1 (reps_rev rr) q1 hp⟩
  · split at q1
    · rename_i hx
      obtain ⟨p1, vs1, rfl, g1, e1, rr⟩ := x1.lst r1 hx
      exact .inr ⟨_, _, rfl, SqL.of e1, fun p hp => give_new x1 (reps_rev rr) q1 hp⟩
    · exact q1.elim
  · exact q1.elim

/-! ### 21. {} and x * n -/
def dNew0 : DE := newO (.dct [])
theorem e_dict0 : PE X (.Dict [] [] pos) (rdE X.K cm W dNew0) := weakE pe_dnewK fun σ H Q q => by
  obtain ⟨L, S, a, q⟩ := q
  exact fun p hp => q.giveE (Ext.new hp) (a.new hp ⟨[], upd_same, .nil⟩) (.ref a.hp.newIx)
def repS (z : Str) (n : Int) : Str := if n < 1 then Str.empty else if (n == 1 || z.length == 0) = true then z else ⟨(List.replicate n.toNat z.cps).foldl (· ++ ·) #[]⟩
def oMulA : D → D → DS → Res D := fun x y S => match x, y with
  | .int i, .int j => if (-(2 ^ 64) < i ∧ i < 2 ^ 64) ∨ (-(2 ^ 64) < j ∧ j < 2 ^ 64) then .ok (.int (i * j)) S else .stuck
  | .str z, .int j => if -1000000 ≤ j ∧ j ≤ 1000000 ∧ z.length * j.toNat ≤ mxL ∧ (repS z j).length ≤ mxL then .ok (.str (repS z j)) S else .stuck
  | .ref n, .int j => match S.h[n]? with
    | some (.lst xs) => if -1000000 ≤ j ∧ j ≤ 1000000 ∧ xs.length * j.toNat ≤ mxL then newO (.lst (List.replicate j.toNat xs).flatten) S else .stuck
    | _ => .stuck
  | _, _ => .stuck
def rStrRep : R2 := fun x y H Q => ∃ z j, x = .str z ∧ y = .int j ∧ -1000000 ≤ j ∧ j ≤ 1000000 ∧ z.length * j.toNat ≤ mxL ∧ (repS z j).length ≤ mxL ∧ Q (.str (repS z j)) H
theorem op_strRep : OpR X (binaryOp .Mult) rStrRep := by
  intro pins s σ H x y v u Q I rx ry h
  obtain ⟨z, j, rfl, rfl, h1, h2, h3, h4, q⟩ := h
  obtain ⟨t, rfl⟩ := rx
  obtain ⟨t2, rfl⟩ := ry
  apply PySem.P.mul_str
  · rw [decide_eq_false (by omega), decide_eq_false (by omega)]; rfl
  · intro a1 a2 a3
    have hj : (z.length : Int) * j ≤ 2 ^ 63 - 1 := by
      have e : (z.length : Int) * j = ((z.length * j.toNat : Nat) : Int) := by rw [Int.natCast_mul, Int.toNat_of_nonneg (by omega)]
      rw [e]
      unfold mxL at h3
      omega
    have := (Int.le_ediv_iff_mul_le (by omega : 0 < j)).mpr hj
    omega
  · intro _ _
    exact decide_eq_false (by have := mx_line h3; omega)
  · unfold repS at q h4
    split
    · rename_i c
      rw [if_pos c] at q
      exact ⟨by decide, .str _, H, I.tok _, ⟨_, rfl⟩, q⟩
    · rename_i c
      rw [if_neg c] at q h4
      split
      · rename_i c2
        rw [if_pos c2] at q
        exact ⟨.str _, H, I, ⟨_, rfl⟩, q⟩
      · rename_i c2
        rw [if_neg c2] at q h4
        exact ⟨mx_line h4, .str _, H, I.tok _, ⟨_, rfl⟩, q⟩
theorem reps_repl {K : PySem.W.Frag} {L : List Addr} {H : Hp} {ds : List D} {vs : List V} (r : Reps K cm L H ds vs) : ∀ n : Nat, Reps K cm L H (List.replicate n ds).flatten (List.replicate n vs).flatten
  | 0 => .nil
  | n + 1 => by
    rw [List.replicate_succ, List.replicate_succ, List.flatten_cons, List.flatten_cons]
    exact r.append (reps_repl r n)
theorem ro_mulA : ROp X cm W (fun x y H Q => (rI CMul (fun i j => .int (i * j)) x y H Q ∨ rStrRep x y H Q) ∨ rRep x y H Q) oMulA := by
  intro L H S σ x y d e Q a r1 r2 q
  unfold oMulA at q
  split at q
  · split at q
    · rename_i h
      cases r1; cases r2
      exact .inl (.inl ⟨_, _, rfl, rfl, h, q.give a (.int _)⟩)
    · exact q.elim
  · split at q
    · rename_i h
      cases r1; cases r2
      exact .inl (.inr ⟨_, _, rfl, rfl, h.1, h.2.1, h.2.2.1, h.2.2.2, q.give a (.str _)⟩)
    · exact q.elim
  · split at q
    · rename_i hx
      split at q
      · rename_i h
        obtain ⟨p1, vs1, rfl, g1, e1, rr⟩ := a.lst r1 hx
        cases r2
        refine .inr ⟨_, _, _, rfl, rfl, e1, by omega, by omega, mx_line (by rw [← rr.length]; exact h.2.2), fun p hp => give_new a ?_ q hp⟩
        exact reps_repl rr _
      · exact q.elim
    · exact q.elim
  · exact q.elim
end
end Den

namespace Den
open PySem L2 PySem.Spec PyProof.Rows

/-! ### 22. the law's call, the walk -/
theorem guards_caller : callerA.guards = some [] := rfl
theorem bare_start {K : PySem.W.Frag} {cm : Str → Value} {H : Hp} : AbS K cm [] H ⟨[], []⟩ [] :=
  ⟨⟨List.nodup_nil, rfl, fun n ob a h _ => by simp at h⟩, rfl, fun i d h => by simp at h⟩
section
variable {P : Program} {w : World} {K : PySem.W.Frag} {mg mb : Str → Option Value} {k : Nat} {fa a : Addr} {fd : FuncData} {x : Str} {s1 : Shared} {vs : List Value} {ns : List Int} {cm : Str → Value}
/-- what a def gives in the caller's place, over a heap in which nothing but the script may be tracked -/
theorem call_from {F0 : Fn} {S' : DS} {H : Hp} (KX : K.In s1.heap) (nm : s1.heap.Ns mainGlobals mg) (nb : s1.heap.Ns builtinsNs mb) (hb : ∀ y : Str, y ≠ "__name__" → mb y = bootBuiltins y) (lim : s1.heap.NoLimit) (g0 : s1.gens = #[]) (hr : Room k callerA)
    (F : ∀ base : Heap, K.In base → FnG P w K mg base k fa fd [x] (spD K cm 1 F0)) (bd : ∀ (s : Shared) (u : Value), BindsTo s fd ⟨[u], []⟩ [(x, u)]) (hF : F0 [.ro (ns.map D.int)] [] = .ok (.bl true) S')
    (hS : SqR K H a (ns.map V.int)) (hok : HOk P w H s1.heap) (only : ∀ b, H b = none ∨ (b = a ∧ K.lookup b = none ∧ ∃ o xs, H b = some (.frz o (.lst xs)) ∧ ∃ c n sl, o = (⟨.type "list", none, .seq c n, sl⟩ : Obj))) :
    codeAny (model P w) callerA (.call (.ref fa) ⟨[.ref a], []⟩) (fun r s' => r = .ok (.ret (.bool true)) ∧ OldK s1.heap s'.heap ∧ s'.os = s1.os ∧ AllBare s'.gens) s1 := by
  -- the base: what isn't tracked
  have seen : ∀ {b : Addr} {o : Obj}, s1.heap.get? b = some o → H b = none → (hidT s1.heap H).get? b = some o := fun e n => hidT_get e n
  have free : ∀ {b : Addr} {o : Obj} {es : Array DictEntry} {ep : Nat}, s1.heap.get? b = some o → o.data = .dict es ep → H b = none := by
    intro b o es ep e d
    rcases only b with n | ⟨_, _, o2, xs, h2, c, m, sl, rfl⟩
    · exact n
    · obtain ⟨e2, _⟩ := hok b _ h2
      rw [e] at e2
      cases e2
      cases d
  have ns' : ∀ {b : Addr} {m : Str → Option Value}, s1.heap.Ns b m → (hidT s1.heap H).Ns b m := by
    rintro b m ⟨o, es, ep, e, d, r⟩
    exact ⟨o, es, ep, seen e (free e d), d, r⟩
  have inB : K.In (hidT s1.heap H) := by
    intro b o e
    rcases only b with n | ⟨_, hk, _⟩
    · exact seen (KX b o e) n
    · rw [hk] at e; cases e
  have M : Mod K mg (hidT s1.heap H) := ⟨inB, ns' nm, ⟨mb, ns' nb, hb⟩, by obtain ⟨mc, q1, q2⟩ := lim; exact ⟨mc, ns' q1, q2⟩⟩
  have E0 : Env0 P w K mg (hidT s1.heap H) callerA [] s1 H := ⟨rfl, M, fun b o e => of_hidT e, Nat.le_of_eq (hidT_size _ _), trivial, fun b hb => absurd (show b ∈ ([] : List Addr) from hb) (by simp), hok, .of_eq g0⟩
  have promise : spD K cm 1 F0 [.ref a] H (fun v _ => v = .bl true) fun _ _ _ => False := by
    refine ⟨[], [.ro (ns.map D.int)], [], bare_start, .cons (.ro hS (ints_reps ns)) .nil, rfl, ?_⟩
    rw [hF]
    intro L' H' v _ _ r
    cases r
    rfl
  apply codeAny_mono ((F _ inB).run callerA [] s1 H ⟨[.ref a], []⟩ [.ref a] [.ref a] _ _ hr guards_caller E0 (bd s1 (.ref a)) (.cons rfl .nil) promise)
  intro r s' h
  cases r with
  | error e =>
    obtain ⟨_, _, _, _, _, _, _, _, _, _, _, _, z⟩ := h
    exact z.elim
  | ok fl =>
    cases fl with
    | next => exact h.elim
    | brk => exact h.elim
    | cont => exact h.elim
    | ret u =>
      obtain ⟨v, H', os, bare, un, hok', rv, rfl⟩ := h
      obtain rfl : u = Value.bool true := rv
      refine ⟨rfl, OldK.of_keep ?_, os, bare⟩
      intro b o e
      rcases only b with n | ⟨_, _, o2, xs, h2, _⟩
      · exact un.keep b o e n (fun z => absurd (show b ∈ ([] : List Addr) from z) (by simp)) (by simp)
      · obtain ⟨e1, _⟩ := hok b _ h2
        obtain ⟨e2, _⟩ := hok' b _ (un.frzs b _ _ h2)
        rw [e] at e1
        cases e1
        exact e2
theorem call_law {F0 : Fn} {S' : DS} (KX : K.In s1.heap) (nm : s1.heap.Ns mainGlobals mg) (nb : s1.heap.Ns builtinsNs mb) (hb : ∀ y : Str, y ≠ "__name__" → mb y = bootBuiltins y) (lim : s1.heap.NoLimit) (g0 : s1.gens = #[]) (hr : Room k callerA)
    (ha : s1.heap.get? a = some { cls := .type "list", data := .seq vs.toArray }) (hi : IntsAre vs ns) (hl : ns.length ≤ sizeLine)
    (F : ∀ base : Heap, K.In base → FnG P w K mg base k fa fd [x] (spD K cm 1 F0)) (bd : ∀ (s : Shared) (u : Value), BindsTo s fd ⟨[u], []⟩ [(x, u)]) (hF : F0 [.ro (ns.map D.int)] [] = .ok (.bl true) S') :
    codeAny (model P w) callerA (.call (.ref fa) ⟨[.ref a], []⟩) (fun r s' => r = .ok (.ret (.bool true)) ∧ OldK s1.heap s'.heap ∧ s'.os = s1.os ∧ AllBare s'.gens) s1 := by
  have rv := vals_ints hi
  have same : vs.length = ns.length := hi.length
  cases hk : K.lookup a with
  | some o =>
    have e := KX a o hk
    rw [ha] at e
    cases e
    apply call_from (H := fun _ => none) KX nm nb hb lim g0 hr F bd hF
    · exact .inr ⟨_, vs.toArray, _, hk, rfl, rfl, rfl, by rw [List.size_toArray, same]; exact hl, by simpa using rv⟩
    · intro b u z; cases z
    · exact fun b => .inl rfl
  | none =>
    have at_ : ∀ b, b = a → (fun b => if b = a then some (HO.frz { cls := .type "list", data := .seq vs.toArray } (.lst (ns.map V.int))) else none) b = some (HO.frz { cls := .type "list", data := .seq vs.toArray } (.lst (ns.map V.int))) := fun b h => if_pos h
    apply call_from (H := fun b => if b = a then some (.frz { cls := .type "list", data := .seq vs.toArray } (.lst (ns.map V.int))) else none) KX nm nb hb lim g0 hr F bd hF
    · exact .inl ⟨_, at_ a rfl⟩
    · intro b u z
      by_cases e : b = a
      · rw [at_ b e] at z
        cases z
        subst e
        exact ⟨ha, by rw [List.length_map]; exact hl, vs, _, rv, ha⟩
      · rw [show (fun b => if b = a then some (HO.frz { cls := .type "list", data := .seq vs.toArray } (.lst (ns.map V.int))) else none) b = none from if_neg e] at z
        cases z
    · intro b
      by_cases e : b = a
      · subst e
        exact .inr ⟨rfl, hk, _, _, at_ b rfl, _, _, _, rfl⟩
      · exact .inl (if_neg e)
end
theorem walk_den {l : PySem.W.OpenLaw} {n k : Nat} {q : Program} {loose : List Str} {XP : (Str → Option Value) → Heap → Prop} {YP : World → Heap → Prop} {d : DefRec} {K : Params → PySem.W.Frag} {x : Str} {F0 : Fn}
    (hn : l.most = some n) (hn2 : n ≤ sizeLine) (hd0 : d.params.defaults = []) (hr : Room k callerA) (hY : ∀ (w : World) (h : Heap), YP w h → (K w.params).In h)
    (F : ∀ (w : World) (mg : Str → Option Value) (fa : Addr) (h : Heap), (K w.params).In h → h.Ns mainGlobals mg → mg d.name = some (.ref fa) →
      ∃ (fd : FuncData) (cm : Str → Value), (∀ (s : Shared) (u : Value), BindsTo s fd ⟨[u], []⟩ [(x, u)]) ∧ ∀ base : Heap, (K w.params).In base → FnG l.prog w (K w.params) mg base k fa fd [x] (spD (K w.params) cm 1 F0))
    (hF : ∀ ns : List Int, ns.length ≤ n → ∃ S', F0 [.ro (ns.map D.int)] [] = .ok (.bl true) S') :
    PySem.W.WalkO q loose XP YP l.row.toRowW d [] (fun f vs => PySem.call f vs) := by
  apply Att.attach_call hn hd0
  intro w s0 s1 mg mb fa o pm cd doc a vs ns G Y ho hd hcd hmg hobj hints hlen hg
  obtain ⟨fd, cm, bd, hG⟩ := F w mg fa _ (hY w _ Y) G.T.g hmg
  obtain ⟨S', hS⟩ := hF ns hlen
  exact call_law (hY w _ Y) G.T.g G.T.b G.T.builtins G.T.nolimit hg hr hobj hints (Nat.le_trans hlen hn2) hG bd hS
end Den

namespace Den
open PySem L2

/-! ### 23. short forms -/
theorem kit_true {K : PySem.W.Frag} {C D : Addr} (cl : PySem.W.isClsIn K D = true) (ty : PySem.W.typeIn K (.ref D) = some (.type "type")) (h : PySem.W.subIn K (.ref C) (.ref D) = some true) : PySem.W.kitOne K (.ref C) (.ref D) = some true := by
  unfold PySem.W.kitOne
  split
  · rfl
  · show (if ((PySem.W.clsIn K D).isSome && PySem.W.typeIn K (.ref D) == some (.type "type")) = true then PySem.W.subIn K (.ref C) (.ref D) else none) = some true
    have c : (PySem.W.clsIn K D).isSome = true := cl
    rw [c, ty, if_pos (by rfl)]
    exact h
section
variable {X : Cx} {cm : Str → Value} {W : WX} {a b : Expr} {pos : Pos} {fa fb : DE}
theorem hu66 {A : Around} {k : Nat} (r : Room k A) : A.units + 66 < cLine := by have := r.un; omega
theorem hu1 {A : Around} {k : Nat} (r : Room k A) : A.units + 1 < cLine := by have := r.un; omega
theorem hu64 {A : Around} {k : Nat} (r : Room k A) : A.units + 64 < cLine := by have := r.un; omega
theorem b_add (ha : PE X a (rdE X.K cm W fa)) (hb : PE X b (rdE X.K cm W fb)) : PE X (.BinOp a .Add b pos) (rdE X.K cm W (dBin oAdd fa fb)) := e_op ((op_add.or op_add_str).or (op_catA.or op_cat)) ro_add ha hb
theorem b_sub (ha : PE X a (rdE X.K cm W fa)) (hb : PE X b (rdE X.K cm W fb)) : PE X (.BinOp a .Sub b pos) (rdE X.K cm W (dBin oSub fa fb)) := e_op op_sub ro_sub ha hb
theorem b_mul (ha : PE X a (rdE X.K cm W fa)) (hb : PE X b (rdE X.K cm W fb)) : PE X (.BinOp a .Mult b pos) (rdE X.K cm W (dBin oMulA fa fb)) := e_op ((op_mul.or op_strRep).or op_rep) ro_mulA ha hb
theorem b_mod (ha : PE X a (rdE X.K cm W fa)) (hb : PE X b (rdE X.K cm W fb)) : PE X (.BinOp a .Mod b pos) (rdE X.K cm W (dBin oMod fa fb)) := e_op op_mod ro_mod ha hb
theorem b_div (ha : PE X a (rdE X.K cm W fa)) (hb : PE X b (rdE X.K cm W fb)) : PE X (.BinOp a .FloorDiv b pos) (rdE X.K cm W (dBin oDiv fa fb)) := e_op op_fdiv ro_div ha hb
theorem b_pow (ha : PE X a (rdE X.K cm W fa)) (hb : PE X b (rdE X.K cm W fb)) : PE X (.BinOp a .Pow b pos) (rdE X.K cm W (dBin oPow fa fb)) := e_op op_pow ro_pow ha hb
theorem c_eq {k : Nat} (r : Room k X.A) (ha : PE X a (rdE X.K cm W fa)) (hb : PE X b (rdE X.K cm W fb)) : PE X (.Compare a [.Eq] [b] pos) (rdE X.K cm W (dBin oEq fa fb)) := e_cmp (op_eqD (hu64 r)) ro_eq (nomark _) ha hb
theorem c_ne {k : Nat} (r : Room k X.A) (ha : PE X a (rdE X.K cm W fa)) (hb : PE X b (rdE X.K cm W fb)) : PE X (.Compare a [.NotEq] [b] pos) (rdE X.K cm W (dBin oNe fa fb)) := e_cmp (op_neD (hu64 r)) ro_ne (nomark _) ha hb
theorem c_lt (ha : PE X a (rdE X.K cm W fa)) (hb : PE X b (rdE X.K cm W fb)) : PE X (.Compare a [.Lt] [b] pos) (rdE X.K cm W (dBin oLt fa fb)) := e_cmp op_lt ro_lt (nomark _) ha hb
theorem c_le (ha : PE X a (rdE X.K cm W fa)) (hb : PE X b (rdE X.K cm W fb)) : PE X (.Compare a [.LtE] [b] pos) (rdE X.K cm W (dBin oLe fa fb)) := e_cmp op_le ro_le (nomark _) ha hb
theorem c_gt (ha : PE X a (rdE X.K cm W fa)) (hb : PE X b (rdE X.K cm W fb)) : PE X (.Compare a [.Gt] [b] pos) (rdE X.K cm W (dBin oGt fa fb)) := e_cmp op_gt ro_gt (nomark _) ha hb
theorem c_ge (ha : PE X a (rdE X.K cm W fa)) (hb : PE X b (rdE X.K cm W fb)) : PE X (.Compare a [.GtE] [b] pos) (rdE X.K cm W (dBin oGe fa fb)) := e_cmp op_ge ro_ge (nomark _) ha hb
theorem c_is (ha : PE X a (rdE X.K cm W fa)) (hb : PE X b (rdE X.K cm W fb)) : PE X (.Compare a [.Is] [b] pos) (rdE X.K cm W (dBin oIsN fa fb)) := e_cmp op_isN ro_isN (nomark _) ha hb
theorem c_isn (ha : PE X a (rdE X.K cm W fa)) (hb : PE X b (rdE X.K cm W fb)) : PE X (.Compare a [.IsNot] [b] pos) (rdE X.K cm W (dBin oNotN fa fb)) := e_cmp op_notN ro_notN (nomark _) ha hb
theorem c_in {k : Nat} (r : Room k X.A) (ha : PE X a (rdE X.K cm W fa)) (hb : PE X b (rdE X.K cm W fb)) (hm : behindInMarks .In b = false := by rfl) : PE X (.Compare a [.In] [b] pos) (rdE X.K cm W (dBin oIn fa fb)) := e_cmp (op_inA (hu66 r)) ro_in hm ha hb
theorem c_nin {k : Nat} (r : Room k X.A) (ha : PE X a (rdE X.K cm W fa)) (hb : PE X b (rdE X.K cm W fb)) (hm : behindInMarks .NotIn b = false := by rfl) : PE X (.Compare a [.NotIn] [b] pos) (rdE X.K cm W (dBin oNotIn fa fb)) := e_cmp (op_notInA (hu66 r)) ro_notIn hm ha hb
theorem t_eq {k : Nat} (r : Room k X.A) (ha : PE X a (rdE X.K cm W fa)) (hb : PE X b (rdE X.K cm W fb)) : PT X (.Compare a [.Eq] [b] pos) (rdT X.K cm W (tV (dBin oEq fa fb))) := t_cmp (op_eqD (hu64 r)) ro_eq (nomark _) ha hb
theorem t_ne {k : Nat} (r : Room k X.A) (ha : PE X a (rdE X.K cm W fa)) (hb : PE X b (rdE X.K cm W fb)) : PT X (.Compare a [.NotEq] [b] pos) (rdT X.K cm W (tV (dBin oNe fa fb))) := t_cmp (op_neD (hu64 r)) ro_ne (nomark _) ha hb
theorem t_lt (ha : PE X a (rdE X.K cm W fa)) (hb : PE X b (rdE X.K cm W fb)) : PT X (.Compare a [.Lt] [b] pos) (rdT X.K cm W (tV (dBin oLt fa fb))) := t_cmp op_lt ro_lt (nomark _) ha hb
theorem t_le (ha : PE X a (rdE X.K cm W fa)) (hb : PE X b (rdE X.K cm W fb)) : PT X (.Compare a [.LtE] [b] pos) (rdT X.K cm W (tV (dBin oLe fa fb))) := t_cmp op_le ro_le (nomark _) ha hb
theorem t_gt (ha : PE X a (rdE X.K cm W fa)) (hb : PE X b (rdE X.K cm W fb)) : PT X (.Compare a [.Gt] [b] pos) (rdT X.K cm W (tV (dBin oGt fa fb))) := t_cmp op_gt ro_gt (nomark _) ha hb
theorem t_ge (ha : PE X a (rdE X.K cm W fa)) (hb : PE X b (rdE X.K cm W fb)) : PT X (.Compare a [.GtE] [b] pos) (rdT X.K cm W (tV (dBin oGe fa fb))) := t_cmp op_ge ro_ge (nomark _) ha hb
theorem t_is (ha : PE X a (rdE X.K cm W fa)) (hb : PE X b (rdE X.K cm W fb)) : PT X (.Compare a [.Is] [b] pos) (rdT X.K cm W (tV (dBin oIsN fa fb))) := t_cmp op_isN ro_isN (nomark _) ha hb
theorem t_isn (ha : PE X a (rdE X.K cm W fa)) (hb : PE X b (rdE X.K cm W fb)) : PT X (.Compare a [.IsNot] [b] pos) (rdT X.K cm W (tV (dBin oNotN fa fb))) := t_cmp op_notN ro_notN (nomark _) ha hb
theorem t_in {k : Nat} (r : Room k X.A) (ha : PE X a (rdE X.K cm W fa)) (hb : PE X b (rdE X.K cm W fb)) (hm : behindInMarks .In b = false := by rfl) : PT X (.Compare a [.In] [b] pos) (rdT X.K cm W (tV (dBin oIn fa fb))) := t_cmp (op_inA (hu66 r)) ro_in hm ha hb
theorem t_nin {k : Nat} (r : Room k X.A) (ha : PE X a (rdE X.K cm W fa)) (hb : PE X b (rdE X.K cm W fb)) (hm : behindInMarks .NotIn b = false := by rfl) : PT X (.Compare a [.NotIn] [b] pos) (rdT X.K cm W (tV (dBin oNotIn fa fb))) := t_cmp (op_notInA (hu66 r)) ro_notIn hm ha hb
theorem e_ixR {k : Nat} (r : Room k X.A) (ha : PE X a (rdE X.K cm W fa)) (hb : PE X b (rdE X.K cm W fb)) (hs : PlainIx b := by exact fun _ _ => rfl) : PE X (.Subscript a b pos) (rdE X.K cm W (dBin oIx fa fb)) := e_ix (hu1 r) ha hb hs
/-- a tuple of the module -/
theorem ro_line {K : PySem.W.Frag} {p : Addr} {c : Nat} {its : List Value} {sl : Array (Option Value)} {ds : List D} {vs : List V} (h : K.lookup p = some ⟨.type "tuple", none, .seq its.toArray c, sl⟩) (rv : Vals vs its) (hz : its.length ≤ sizeLine) (r : ∀ L H, Reps K cm L H ds vs) (L : List Addr) (H : Hp) : Rep K cm L H (.tup ds) (.ref p) :=
  .tup (.inr ⟨_, its.toArray, c, h, rfl, rfl, by rw [List.size_toArray]; exact hz, by simpa using rv⟩) (r L H)

/-- a, b = x, y -/
def sPar (i j : Nat) (a : DA) : DSt := fun S => (a S).bind fun ds S1 => match ds with
  | [d, e] => .ok .next { S1 with loc := (S1.loc.set i (some d)).set j (some e) }
  | _ => .stuck
def sPar3 (i j l : Nat) (a : DA) : DSt := fun S => (a S).bind fun ds S1 => match ds with
  | [d, e, f] => .ok .next { S1 with loc := ((S1.loc.set i (some d)).set j (some e)).set l (some f) }
  | _ => .stuck
variable {c : Expr} {ga : DA} {x y z : Str} {px py pz pt : Pos}
theorem s_par {i j : Nat} {kt k2 pt2} (hc : X.calm = true) (hN : X.N.Nodup) (hi : X.N[i]? = some x) (hj : X.N[j]? = some y) (hij : i ≠ j) (hx : X.env.scope.names.lookup x = some .local) (hy : X.env.scope.names.lookup y = some .local) (ha : PA X [a, b] (rdA X.K cm W ga))
    (hw : swappedStores [.Tuple [.Name x px, .Name y py] kt pt] (.Tuple [a, b] k2 pt2) X.env = pure (some [x, y]) := by rfl) (hs : swapsWithSole [.Tuple [.Name x px, .Name y py] kt pt] (.Tuple [a, b] k2 pt2) pos.line X.env = pure false := by rfl) :
    PS X (.Assign [.Tuple [.Name x px, .Name y py] kt pt] (.Tuple [a, b] k2 pt2) pos) (rdS X.K cm W (sPar i j ga)) := weakS (ps_par hc hN hi hj hij hx hy ha hw hs) fun E σ H q => by
  obtain ⟨L, S, ab, q⟩ := q
  refine ⟨L, S, ab, (AftS.step (R := Reps X.K cm) q).mono fun vs H1 z => ?_⟩
  obtain ⟨L1, S1, ds, e1, x1, r1, q1⟩ := z
  split at q1
  · cases r1 with
    | cons r1 r2 =>
      cases r2 with
      | cons r2 r3 =>
        cases r3
        exact ⟨_, _, rfl, q1 L1 H1 _ Ext.refl ((x1.set r1 i).set r2 j)⟩
  · exact q1.elim
theorem s_par3 {i j l : Nat} {kt k2 pt2} (hc : X.calm = true) (hN : X.N.Nodup) (hi : X.N[i]? = some x) (hj : X.N[j]? = some y) (hl : X.N[l]? = some z) (hij : i ≠ j) (hil : i ≠ l) (hjl : j ≠ l) (hx : X.env.scope.names.lookup x = some .local) (hy : X.env.scope.names.lookup y = some .local) (hz : X.env.scope.names.lookup z = some .local)
    (ha : PA X [a, b, c] (rdA X.K cm W ga)) (hw : swappedStores [.Tuple [.Name x px, .Name y py, .Name z pz] kt pt] (.Tuple [a, b, c] k2 pt2) X.env = pure (some [x, y, z]) := by rfl) (hs : swapsWithSole [.Tuple [.Name x px, .Name y py, .Name z pz] kt pt] (.Tuple [a, b, c] k2 pt2) pos.line X.env = pure false := by rfl) :
    PS X (.Assign [.Tuple [.Name x px, .Name y py, .Name z pz] kt pt] (.Tuple [a, b, c] k2 pt2) pos) (rdS X.K cm W (sPar3 i j l ga)) := weakS (ps_par3 hc hN hi hj hl hij hil hjl hx hy hz ha hw hs) fun E σ H q => by
  obtain ⟨L, S, ab, q⟩ := q
  refine ⟨L, S, ab, (AftS.step (R := Reps X.K cm) q).mono fun vs H1 z => ?_⟩
  obtain ⟨L1, S1, ds, e1, x1, r1, q1⟩ := z
  split at q1
  · cases r1 with
    | cons r1 r2 =>
      cases r2 with
      | cons r2 r3 =>
        cases r3 with
        | cons r3 r4 =>
          cases r4
          exact ⟨_, _, _, rfl, q1 L1 H1 _ Ext.refl (((x1.set r1 i).set r2 j).set r3 l)⟩
  · exact q1.elim
end
end Den

namespace Den
open PySem L2

/-! ### 30. truth, chains, all, any, sum, str, int of a text, extend, a tuple times a number -/
def toTru : D → DS → Res Bool := fun d S => match d with
  | .non => .ok false S
  | .bl b => .ok b S
  | .int i => .ok (i != 0) S
  | .str y => if y.length ≤ mxL then .ok ((y.length : Int) != 0) S else .stuck
  | .tup xs => .ok (!xs.isEmpty) S
  | .ro xs => .ok (!xs.isEmpty) S
  | .ref n => match S.h[n]? with
    | some (.lst xs) => .ok (!xs.isEmpty) S
    | some (.dct kvs) => .ok (!kvs.isEmpty) S
    | _ => .stuck
  | _ => .stuck
def tTr (a : DE) : DT := fun S => (a S).bind toTru
def dChain (f g : D → D → DS → Res D) (a b c : DE) : DE := fun S => (a S).bind fun x S1 => (b S1).bind fun y S2 => (f x y S2).bind fun k S3 => (toB k S3).bind fun k S4 => if k then (c S4).bind fun z S5 => g y z S5 else .ok (.bl false) S4
def blsOf : List D → Option (List Bool)
  | [] => some []
  | .bl b :: r => (blsOf r).map fun bs => b :: bs
  | _ => none
def intsOf : List D → Option (List Int)
  | [] => some []
  | .int b :: r => (intsOf r).map fun bs => b :: bs
  | _ => none
def cAll : List D → DS → Res D := fun ds S => match ds with
  | [.ref n] => match S.h[n]? with
    | some (.lst xs) => match blsOf xs with
      | some bs => .ok (.bl (bs.all id)) S
      | none => .stuck
    | _ => .stuck
  | _ => .stuck
def cAny : List D → DS → Res D := fun ds S => match ds with
  | [.ref n] => match S.h[n]? with
    | some (.lst xs) => match blsOf xs with
      | some bs => .ok (.bl (bs.any id)) S
      | none => .stuck
    | _ => .stuck
  | _ => .stuck
def cSum : List D → DS → Res D := fun ds S => match ds with
  | [.ref n] => match S.h[n]? with
    | some (.lst xs) => match intsOf xs with
      | some bs => .ok (.int bs.sum) S
      | none => .stuck
    | _ => .stuck
  | _ => .stuck
def cStr : List D → DS → Res D := fun ds S => match ds with
  | [.int i] => if i.natAbs.log2 < 1920 then .ok (.str (toString i)) S else .stuck
  | [.str x] => .ok (.str x) S
  | _ => .stuck
def cIntA : List D → DS → Res D := fun ds S => match ds with
  | [.int i] => .ok (.int i) S
  | [.bl b] => .ok (.int (if b then 1 else 0)) S
  | [.str a] => if a.length ≤ 640 then match PySem.intText? a with
    | some n => .ok (.int n) S
    | none => .stuck else .stuck
  | _ => .stuck
def mExtend : D → List D → DS → Res D := fun x ds S => match x, ds with
  | .ref n, [.ref m] => match S.h[n]?, S.h[m]? with
    | some (.lst xs), some (.lst zs) => if xs.length + zs.length ≤ mxL then .ok .non { S with h := S.h.set n (.lst (xs ++ zs)) } else .stuck
    | _, _ => .stuck
  | _, _ => .stuck
def oMulB : D → D → DS → Res D := fun x y S => match x, y with
  | .tup xs, .int j => if xs ≠ [] ∧ 2 ≤ j ∧ j ≤ 1000 ∧ xs.length ≤ 1000 then .ok (.tup (List.replicate j.toNat xs).flatten) S else .stuck
  | x, y => oMulA x y S
def dNeg (a : DE) : DE := fun S => (a S).bind fun d S1 => match d with
  | .int i => .ok (.int (-i)) S1
  | _ => .stuck
section
variable {X : Cx} {cm : Str → Value} {W : WX} {e e1 e2 a b c o : Expr} {es : List Expr} {x : Str} {p pos apos cpos : Pos} {fa fb fc : DE} {ga : DA} {K : PySem.W.Frag} {L : List Addr} {H : Hp} {S : DS} {σ : L2.St}
theorem t_tr (he : PE X e (rdE X.K cm W fa)) (hp : ∀ whole, isTrue e X.env whole = (do let v ← whole; standAt e.pos; holding [v] (truthy v)) := by intro _; rfl) : PT X e (rdT X.K cm W (tTr fa)) := weakT (pt_truth he hp) fun σ H Q q => by
  obtain ⟨L, S, a, q⟩ := q
  refine ⟨L, S, a, (Aft.step (R := Rep X.K cm) q).mono fun v H1 z => ?_⟩
  obtain ⟨L1, S1, d, e1, x1, r1, q1⟩ := z
  unfold toTru at q1
  split at q1
  · cases r1; exact ⟨_, rfl, q1.give x1 rfl⟩
  · cases r1; exact ⟨_, rfl, q1.give x1 rfl⟩
  · cases r1; exact ⟨_, rfl, q1.give x1 rfl⟩
  · split at q1
    · rename_i h
      cases r1; exact ⟨_, ⟨mx_line h, rfl⟩, q1.give x1 rfl⟩
    · exact q1.elim
  · cases r1 with
    | tup hs rr =>
      refine ⟨_, .inr (.inl ⟨_, hs, ?_⟩), q1.give x1 rfl⟩
      cases rr <;> rfl
  · cases r1 with
    | ro hs rr =>
      refine ⟨_, .inl ⟨_, hs.sq, ?_⟩, q1.give x1 rfl⟩
      cases rr <;> rfl
  · split at q1
    · rename_i hx
      obtain ⟨p1, vs1, rfl, g1, h1, rr⟩ := x1.lst r1 hx
      refine ⟨_, .inl ⟨_, SqL.of h1, ?_⟩, q1.give x1 rfl⟩
      cases rr <;> rfl
    · rename_i hx
      obtain ⟨p1, vs1, rfl, g1, h1, rr⟩ := x1.dct r1 hx
      refine ⟨_, .inr (.inr ⟨_, h1, ?_⟩), q1.give x1 rfl⟩
      cases rr <;> rfl
    · exact q1.elim
  · exact q1.elim
theorem rd_chain {r r' : R2} {f g : D → D → DS → Res D} (h : ROp X cm W r f) (h' : ROp X cm W r' g) {σ : L2.St} {H : Hp} {Q : VK} (q : rdE X.K cm W (dChain f g fa fb fc) σ H Q) : tChain r r' (rdE X.K cm W fa) (rdE X.K cm W fb) (rdE X.K cm W fc) σ H Q := by
  obtain ⟨L, S, a, q⟩ := q
  refine ⟨L, S, a, (Aft.step (R := Rep X.K cm) q).mono fun v H1 z => ?_⟩
  obtain ⟨L1, S1, d, e1, x1, r1, q1⟩ := z
  refine ⟨L1, S1, x1, (Aft.step (R := Rep X.K cm) q1).mono fun u H2 z => ?_⟩
  obtain ⟨L2, S2, d2, e2, x2, r2, q2⟩ := z
  refine h x2 (r1.mono e2) r2 ((Aft.step (R := Rep X.K cm) q2).mono fun k H3 z => ?_)
  obtain ⟨L3, S3, d3, e3, x3, r3, q3⟩ := z
  unfold toB at q3
  split at q3
  · rename_i kb
    cases r3
    refine ⟨_, rfl, ?_⟩
    rw [Res.bind_ok] at q3
    cases kb with
    | true =>
      rw [if_pos rfl] at q3 ⊢
      refine ⟨L3, S3, x3, (Aft.step (R := Rep X.K cm) q3).mono fun w H4 z => ?_⟩
      obtain ⟨L4, S4, d4, e4, x4, r4, q4⟩ := z
      exact h' x4 (r2.mono (e3.trans e4)) r4 q4
    | false =>
      rw [if_neg (by decide)] at q3 ⊢
      exact q3.give x3 (.bl false)
  · exact q3.elim
theorem e_chain {op op' : CmpOp} {r r' : R2} {f g : D → D → DS → Res D} (ho : OpR X (compareOp op) r) (ho' : OpR X (compareOp op') r') (h : ROp X cm W r f) (h' : ROp X cm W r' g) (ha : PE X a (rdE X.K cm W fa)) (hb : PE X b (rdE X.K cm W fb)) (hc : PE X c (rdE X.K cm W fc))
    (hm : lastMarks [op, op'] [b, c] = false := by with_unfolding_all rfl) : PE X (.Compare a [op, op'] [b, c] pos) (rdE X.K cm W (dChain f g fa fb fc)) := weakE (pe_chain ho ho' ha hb hc hm) fun _ _ _ => rd_chain h h'
theorem t_chain {op op' : CmpOp} {r r' : R2} {f g : D → D → DS → Res D} (ho : OpR X (compareOp op) r) (ho' : OpR X (compareOp op') r') (h : ROp X cm W r f) (h' : ROp X cm W r' g) (ha : PE X a (rdE X.K cm W fa)) (hb : PE X b (rdE X.K cm W fb)) (hc : PE X c (rdE X.K cm W fc))
    (hm : lastMarks [op, op'] [b, c] = false := by with_unfolding_all rfl) : PT X (.Compare a [op, op'] [b, c] pos) (rdT X.K cm W (tV (dChain f g fa fb fc))) := weakT (pt_chain ho ho' ha hb hc hm) fun _ _ _ => rd_test fun _ _ _ => rd_chain h h'
theorem bls_reps : ∀ {ds : List D} {vs : List V} {bs : List Bool}, Reps K cm L H ds vs → blsOf ds = some bs → vs = bs.map V.bl
  | _, _, _, .nil, h => by cases h; rfl
  | d :: _, _, _, .cons r t, h => by
    cases d <;> simp only [blsOf, Option.map_eq_some_iff] at h <;> first | cases h; done | skip
    obtain ⟨bs', h1, rfl⟩ := h
    cases r
    rw [List.map_cons, bls_reps t h1]
theorem ints_repsOf : ∀ {ds : List D} {vs : List V} {bs : List Int}, Reps K cm L H ds vs → intsOf ds = some bs → vs = bs.map V.int
  | _, _, _, .nil, h => by cases h; rfl
  | d :: _, _, _, .cons r t, h => by
    cases d <;> simp only [intsOf, Option.map_eq_some_iff] at h <;> first | cases h; done | skip
    obtain ⟨bs', h1, rfl⟩ := h
    cases r
    rw [List.map_cons, ints_repsOf t h1]
theorem co_all : COp X cm W (rAll X.K) cAll := by
  intro L H S σ xs ds Q a r q
  unfold cAll at q
  split at q
  · split at q
    · rename_i hx
      split at q
      · rename_i bs hb
        cases r with
        | cons r1 r2 =>
          cases r2
          obtain ⟨p1, vs1, rfl, g1, h1, rr⟩ := a.lst r1 hx
          exact ⟨p1, bs, rfl, by rw [← bls_reps rr hb]; exact SqL.of h1, q.give a (.bl _)⟩
      · exact q.elim
    · exact q.elim
  · exact q.elim
theorem co_any : COp X cm W (rAny X.K) cAny := by
  intro L H S σ xs ds Q a r q
  unfold cAny at q
  split at q
  · split at q
    · rename_i hx
      split at q
      · rename_i bs hb
        cases r with
        | cons r1 r2 =>
          cases r2
          obtain ⟨p1, vs1, rfl, g1, h1, rr⟩ := a.lst r1 hx
          exact ⟨p1, bs, rfl, by rw [← bls_reps rr hb]; exact SqL.of h1, q.give a (.bl _)⟩
      · exact q.elim
    · exact q.elim
  · exact q.elim
theorem co_sum : COp X cm W (rSum X.K) cSum := by
  intro L H S σ xs ds Q a r q
  unfold cSum at q
  split at q
  · split at q
    · rename_i hx
      split at q
      · rename_i bs hb
        cases r with
        | cons r1 r2 =>
          cases r2
          obtain ⟨p1, vs1, rfl, g1, h1, rr⟩ := a.lst r1 hx
          exact ⟨p1, bs, rfl, by rw [← ints_repsOf rr hb]; exact SqL.of h1, q.give a (.int _)⟩
      · exact q.elim
    · exact q.elim
  · exact q.elim
theorem co_str : COp X cm W (fun xs H Q => (∃ i, xs = [.int i] ∧ i.natAbs.log2 < 1920 ∧ Q (.str (toString i)) H) ∨ ∃ a, xs = [.str a] ∧ Q (.str a) H) cStr := by
  intro L H S σ xs ds Q a r q
  unfold cStr at q
  split at q
  · split at q
    · rename_i h
      cases r with
      | cons r1 r2 => cases r2; cases r1; exact .inl ⟨_, rfl, h, q.give a (.str _)⟩
    · exact q.elim
  · cases r with
    | cons r1 r2 => cases r2; cases r1; exact .inr ⟨_, rfl, q.give a (.str _)⟩
  · exact q.elim
theorem call_strA : CallR X (.type "str") (fun xs H Q => (∃ i, xs = [.int i] ∧ i.natAbs.log2 < 1920 ∧ Q (.str (toString i)) H) ∨ ∃ a, xs = [.str a] ∧ Q (.str a) H) := callR_or call_str_int SkE.call_str_str
theorem co_intA : COp X cm W (fun xs H Q => ((∃ i, xs = [.int i] ∧ Q (.int i) H) ∨ ∃ k, xs = [.bl k] ∧ Q (.int (if k then 1 else 0)) H) ∨ ∃ a n, xs = [.str a] ∧ PySem.intText? a = some n ∧ a.length ≤ 640 ∧ Q (.int n) H) cIntA := by
  intro L H S σ xs ds Q a r q
  unfold cIntA at q
  split at q
  · cases r with
    | cons r1 r2 => cases r2; cases r1; exact .inl (.inl ⟨_, rfl, q.give a (.int _)⟩)
  · cases r with
    | cons r1 r2 => cases r2; cases r1; exact .inl (.inr ⟨_, rfl, q.give a (.int _)⟩)
  · split at q
    · rename_i hl
      split at q
      · rename_i n hn
        cases r with
        | cons r1 r2 => cases r2; cases r1; exact .inr ⟨_, _, rfl, hn, hl, q.give a (.int _)⟩
      · exact q.elim
    · exact q.elim
  · exact q.elim
theorem call_intA : CallR X (.type "int") (fun xs H Q => ((∃ i, xs = [.int i] ∧ Q (.int i) H) ∨ ∃ k, xs = [.bl k] ∧ Q (.int (if k then 1 else 0)) H) ∨ ∃ a n, xs = [.str a] ∧ PySem.intText? a = some n ∧ a.length ≤ 640 ∧ Q (.int n) H) := callR_or call_int1 call_int_str
theorem mo_extend : MOp X cm W rExtend mExtend := by
  intro L H S σ x xs d ds Q a r1 r2 q
  unfold mExtend at q
  split at q
  · split at q
    · rename_i hx hz
      obtain ⟨p1, vs1, rfl, g1, h1, rr⟩ := a.lst r1 hx
      split at q
      · rename_i hl
        cases r2 with
        | cons r2 r3 =>
          cases r3
          obtain ⟨p2, vs2, rfl, g2, h2, rr2⟩ := a.lst r2 hz
          have ep := Ext.put (o := .lst (vs1 ++ vs2)) a.hp g1 (.inl ⟨_, h1⟩)
          exact ⟨_, _, _, _, rfl, rfl, h1, h2, by rw [← rr.length, ← rr2.length]; exact mx_line hl, q.giveE ep (a.put g1 (.inl ⟨_, h1⟩) ⟨_, upd_same, (rr.append rr2).mono ep⟩) .non⟩
      · exact q.elim
    · exact q.elim
  · exact q.elim
theorem ro_mulB : ROp X cm W (fun x y H Q => ((rI CMul (fun i j => .int (i * j)) x y H Q ∨ rStrRep x y H Q) ∨ rRep x y H Q) ∨ rRepT X.K x y H Q) oMulB := by
  intro L H S σ x y d e Q a r1 r2 q
  unfold oMulB at q
  split at q
  · split at q
    · rename_i h
      obtain ⟨h0, h1, h2, h3⟩ := h
      cases r2
      cases r1 with
      | tup hs rr =>
        refine .inr ⟨_, _, _, rfl, rfl, hs, fun z => ?_, h1, h2, by rw [← rr.length]; exact h3, fun p hp => q.giveE (Ext.beside hp) (a.beside hp) (.tup (.inl (.inl upd_same)) ((reps_repl rr _).mono (Ext.beside hp)))⟩
        subst z
        cases rr
        exact h0 rfl
    · exact q.elim
  · exact .inl (ro_mulA a r1 r2 q)
theorem b_mulB (ha : PE X a (rdE X.K cm W fa)) (hb : PE X b (rdE X.K cm W fb)) : PE X (.BinOp a .Mult b pos) (rdE X.K cm W (dBin oMulB fa fb)) := e_op (((op_mul.or op_strRep).or op_rep).or op_repT) ro_mulB ha hb
theorem e_neg (ha : PE X a (rdE X.K cm W fa)) : PE X (.UnaryOp .USub a pos) (rdE X.K cm W (dNeg fa)) := weakE (pe_un un_neg ha) fun σ H Q q => by
  obtain ⟨L, S, a, q⟩ := q
  refine ⟨L, S, a, (Aft.step (R := Rep X.K cm) q).mono fun v H1 z => ?_⟩
  obtain ⟨L1, S1, d, e1, x1, r1, q1⟩ := z
  split at q1
  · cases r1
    exact ⟨_, rfl, q1.give x1 (.int _)⟩
  · exact q1.elim
end
end Den

namespace Den
open PySem L2

/-! ### 31. enumerate of a list, with a start -/
def numIt (k : Int) (f : List Ob → Nat → Option (Option D)) : List Ob → Nat → Option (Option D) := fun h i => match f h i with
  | some (some d) => some (some (.tup [.int (k + (i : Nat)), d]))
  | some none => some none
  | none => none
def enumOf (k : Int) (d : D) (S : DS) : Res Iter0 := match d with
  | .ref n => match S.h[n]? with
    | some (.lst _) => .ok (.dyn (numIt k (lstIt n))) S
    | _ => .stuck
  | _ => .stuck
def dEnum (a : DA) : DS → Res Iter0 := fun S => (a S).bind fun ds S1 => match ds with
  | [d] => enumOf 0 d S1
  | _ => .stuck
def dEnumS (a z : DA) : DS → Res Iter0 := fun S => (a S).bind fun ds S1 => (z S1).bind fun es S2 => match ds, es with
  | [d], [.int k] => if -1000000 ≤ k ∧ k ≤ 1000000 then enumOf k d S2 else .stuck
  | _, _ => .stuck
def IteK (K : PySem.W.Frag) (a : Addr) (k : Int) : It :=
  ⟨fun i H => ∃ (xs : List V) (x : V), SqL K H a xs ∧ xs[i]? = some x, fun i H v H' => ∃ T x, v = .ref T ∧ H T = none ∧ H' = upd H T (.tup [.int (k + (i : Nat)), x]) ∧ ∀ xs, SqL K H a xs → xs[i]? = some x, fun i H => ∃ xs : List V, SqL K H a xs ∧ xs.length ≤ i⟩
section
variable {prog : Program} {w : World} {A : Around} {E : Value → Shared → Prop} {s : Shared}
theorem enum_end_at {e it l : Addr} {i : Nat} {c : Int} {items : Array Value} {old : Value} {Q : Option Value → Shared → Prop} (hh : A.handled = none)
    (he : IsEnum s.heap e it c old) (hit : s.heap.IsListIter it l i) (hl : s.heap.IsList l items) (hx : items[i]? = none)
    (hQ : ∀ h', Heap.ExtBut it s.heap h' → Q none { s with heap := h' }) : wpAny (model prog w) A (pyNext (.ref e)) Q E s := by
  have hT : s.TypeIs (.ref e) "enumerate" := ⟨_, he, rfl⟩
  unfold pyNext
  refine wpAny_bind (wpAny_attempt (wpAny_callSpecial?_slot (name := Str.ofString "__next__") hT F.slot_enumerate_next
    (wpAny_call_entry F.slot_enumerate_next hT F.entry_enumerate_next ?_ (F.args_enumerate_next_1 _))))
  show wpAny _ _ (field (.ref e) 2 >>= _) _ _ _
  refine wpAny_bind (wpAny_field he rfl (x := .ref it) rfl ?_)
  refine wpAny_bind (wpAny_nextOf_list_end hh hit hl hx fun h' x he' hx' => ?_)
  obtain ⟨o, ho, hc⟩ := hx'
  refine wpAny_bind (wpAny_isInstance (T := "StopIteration") (b := true) ⟨o, ho, hc⟩ isSubtype_stop ?_)
  exact wpAny_pure (hQ _ he')
open PyProof.Rows in
theorem callWith_typeK {M : Model} {env : Env} {pos : Pos} {T : String} {e : Expr} {rest : List Expr} {kws : List Keyword} {Q : Value → Shared → Prop}
    (h : wpAny M A (spliced (backTo pos (starEach (e :: rest) env))) (fun vs s₁ => wpAny M A (evalAll ((backToKw pos (keywordEach kws env)).map (·.2)))
      (fun kvs s₂ => wpAny M A (call (.type T) vs (((backToKw pos (keywordEach kws env)).filterMap (·.1)).zip kvs)) Q E s₂) E s₁) E s)
    (he : backTo pos (starEach (e :: rest) env) = (false, eval e env) :: backTo pos (starEach rest env))
    (hplain : (backTo pos (starEach (e :: rest) env)).any (·.1) = false)
    (hall : (backToKw pos (keywordEach kws env)).all (·.1.isSome) = true)
    (hkw : (backToKw pos (keywordEach kws env)).any (·.1.isNone) = false) :
    wpAny M A (callWith pos (.type T) [] (backTo pos (starEach (e :: rest) env)) (backToKw pos (keywordEach kws env))) Q E s := by
  unfold callWith
  have h2 : wpAny M A (evalArgs (.type T) true (backTo pos (starEach (e :: rest) env)) (backToKw pos (keywordEach kws env))) (fun a s₁ => wpAny M A (call (.type T) ([] ++ a.pos) a.kw) Q E s₁) E s := by
    rw [he] at h ⊢
    exact evalArgs_kwB hall h
  refine wpAny_bind (wpAny_holding (wpAny_mono h2 (fun a s₁ h₁ => wpAny_bind (wpAny_standAt ?_)) fun _ _ x => x))
  simp only [hplain, hkw, Bool.or_false]
  refine wpAny_bind (wpAny_pure ?_)
  exact wpAny_bind (wpAny_mono h₁ (fun r s₂ hr => wpAny_bind (wpAny_holding (wpAny_point (wpAny_pure hr)))) fun _ _ x => x)
end
section
variable {X : Cx} {cm : Str → Value} {W : WX} {e e1 e2 o tg : Expr} {es : List Expr} {x : Str} {p pos apos cpos tpos : Pos} {fa fb fo : DE} {ga gz : DA} {K : PySem.W.Frag} {L : List Addr} {H : Hp} {S : DS} {σ : L2.St}
theorem turn_enumK {P : Program} {w : World} {K : PySem.W.Frag} {elts : List Expr} {kk : Nat} {tpos : Pos} (a e it : Addr) (k : Int) :
    Turn P w K (.Tuple elts kk tpos) (IteK K a k) [e, it] e (fun i h => (∃ old, IsEnum h e it (k + ((i : Nat) : Int)) old) ∧ h.IsListIter it a i ∧ e ≠ it) where
  mem := by simp
  obj := fun i h st b hb => by
    obtain ⟨⟨old, he⟩, ⟨o, ho, hc, hd⟩, _⟩ := st
    have e' : b = e ∨ b = it := by simpa using hb
    rcases e' with z | z
    · rw [z]; exact ⟨_, he, fun v q => nomatch q⟩
    · rw [z]; exact ⟨o, ho, fun v q => by rw [hd] at q; cases q⟩
  keep := fun i h h' st k => let ⟨⟨old, he⟩, hi, hne⟩ := st; ⟨⟨old, k e (by simp) _ he⟩, hi.at fun o q => k it (by simp) o q, hne⟩
  item := by
    intro X hP hw hK hc i pins s σ H E I hf st hg
    subst hP hw hK
    obtain ⟨⟨old, he⟩, hit, hne⟩ := st
    obtain ⟨xs, x, hq, hx⟩ := hg
    obtain ⟨its, rv, p, hz⟩ := I.list hq
    obtain ⟨u, hu, ru⟩ := rv.get hx
    have hel : e < s.heap.objs.size := Heap.lt_size he
    have hil : it < s.heap.objs.size := by obtain ⟨_, q, _⟩ := hit; exact Heap.lt_size q
    have hae : e ≠ a := fun q => by
      obtain ⟨o, ho, hc', _⟩ := p.isList
      rw [← q, he] at ho; cases ho
      injection hc' with hc'; exact absurd hc' (by decide)
    have hai : a ≠ it := fun q => by
      obtain ⟨o, ho, hc', _⟩ := p.isList
      obtain ⟨o2, ho2, hc2, _⟩ := hit
      rw [q, ho2] at ho; cases ho
      rw [hc2] at hc'
      injection hc' with hc'; exact absurd hc' (by decide)
    have hlt : i < its.toArray.size := by rw [List.size_toArray]; exact (List.getElem?_eq_some_iff.mp hu).1
    refine wpAny_pyNext_enum_itemC (Draws.list (A := X.A.in1) (I.ok.hd hc) it a hai its.toArray) he ⟨hit, p.isList⟩ hlt hne (by simp [hne, hae]) fun x' h' tk hP ho hst' hT hsz hk => ?_
    have ex' : x' = u := by
      have hP' : its.toArray[i]? = some x' := hP
      rw [List.getElem?_toArray, hu] at hP'
      exact (Option.some.inj hP').symm
    subst ex'
    obtain ⟨hit', _⟩ := hst'
    refine ⟨_, rfl, wpAny_letOwnedTupleGo_enum (s := { s with heap := h', toks := tk + 1 }) ho fun h'' he' sb => ?_⟩
    have hT2 : h''.get? s.heap.objs.size = some { cls := .type "tuple", data := .seq #[.int (k + ((i : Nat) : Int)) tk, x'] } := (sb.2 _ (Nat.ne_of_gt hel)).trans hT
    have new : ObjOk X.prog X.w (upd H s.heap.objs.size (.tup [.int (k + (i : Nat)), x])) h'' s.heap.objs.size (.tup [.int (k + (i : Nat)), x]) :=
      ⟨by show 2 ≤ sizeLine; rw [sizeLine_eq]; decide, [.int (k + ((i : Nat) : Int)) tk, x'], .cons ⟨_, rfl⟩ (.cons ru .nil), ⟨_, hT2, rfl, _, rfl⟩⟩
    have I1 : Inv X pins σ (upd H s.heap.objs.size (.tup [.int (k + (i : Nat)), x])) { s with heap := h'', toks := tk + 1 } :=
      I.turnedNew (ch := [e, it]) (fun b ob hb q => (sb.2 b (fun z => hb (by simp [z]))).trans (hk b ob (fun z => hb (by simp [z])) (fun z => hb (by simp [z])) q)) hf (Nat.le_refl _) new
    refine ⟨.ref s.heap.objs.size, _, I1, rfl, ⟨_, x, rfl, I.hok.fresh (Nat.le_refl _), rfl, fun ys hy => by rw [I.list_inj hy hq]; exact hx⟩, ⟨⟨x', ?_⟩, hit'.at fun o q => (sb.2 it (Ne.symm hne)).trans q, hne⟩, fun b hb => ?_⟩
    · have e1 : k + ((i + 1 : Nat) : Int) = k + (i : Int) + 1 := by omega
      rw [e1]; exact he'
    · have hb' : b < s.heap.objs.size := by
        have e' : b = e ∨ b = it := by simpa using hb
        rcases e' with z | z
        · rw [z]; exact hel
        · rw [z]; exact hil
      rw [upd_ne (Nat.ne_of_lt hb')]
      exact (hf b hb).1
  done := by
    intro X hP hw hK hc i pins s σ H E I hf st hg
    subst hP hw hK
    obtain ⟨⟨old, he⟩, hit, hne⟩ := st
    obtain ⟨xs, hq, hx⟩ := hg
    obtain ⟨its, rv, p, hz⟩ := I.list hq
    obtain ⟨f0, f1, f2, f3, f4, f5⟩ := hf it (by simp)
    have hl := rv.length
    exact enum_end_at (I.ok.hd hc) he hit p.isList (by simp; omega) fun h' eb => ⟨rfl, I.turned (t' := s.toks) (fun b o hb q => eb b o hb q) f0 f1 f3 f4 f5⟩
  self := fun A i s Q E st h => let ⟨⟨_, he⟩, _⟩ := st; wpAny_pyIter_enum he h
def iEnumS (K : PySem.W.Frag) (ta tk : TA) : TI := fun σ H R => ta σ H fun vs H1 => tk σ H1 fun zs H2 => ∃ a xs k, vs = [.ref a] ∧ zs = [.int k] ∧ -(2 ^ 63) ≤ k ∧ k < 2 ^ 63 ∧ SqL K H2 a xs ∧ R (IteK K a k) H2
theorem pi_enumS {e : Expr} {ta tk : TA} {kws : List Keyword} {elts : List Expr} {kk : Nat} (hg : Gl X "enumerate") (hm : X.mg "enumerate" = none) (ha : PA X [e] ta) (hk : PK X kws tk)
    (he : backTo pos (starEach [e] X.env) = (false, eval e X.env) :: backTo pos (starEach [] X.env) := by rfl) (hpl : (backTo pos (starEach [e] X.env)).any (·.1) = false := by rfl)
    (hall : (backToKw pos (keywordEach kws X.env)).all (·.1.isSome) = true := by rfl) (hnone : (backToKw pos (keywordEach kws X.env)).any (·.1.isNone) = false := by rfl) (hks : (backToKw pos (keywordEach kws X.env)).filterMap (·.1) = [Str.ofString "start"] := by rfl) :
    PI X (.Tuple elts kk tpos) (.Call (.Name "enumerate" p) [e] kws pos) (iEnumS X.K ta tk) := by
  refine ⟨fun pins s σ H R I h => ?_⟩
  refine wpAny_Call_Name_kw (ld_blt I hg hm PyProof.Rows.boot_enumerate ?_)
  refine callWith_typeK (thn (ha.run pos pins s σ H _ I h) fun us s1 ⟨vs, H1, I1, r1, q1⟩ => thn (hk.run pos pins s1 σ H1 _ I1 q1) fun ws s2 ⟨zs, H2, I2, r2, q2⟩ => ?_) he hpl hall hnone
  rw [hks]
  obtain ⟨a, xs, k, rfl, rfl, k0, k1, hq, q⟩ := q2
  cases r1 with
  | cons r rr =>
    cases rr
    cases r
    cases r2 with
    | cons r rr =>
      cases rr
      obtain ⟨t, rfl⟩ := r
      obtain ⟨its, rv, p', hz⟩ := I2.list hq
      refine enum_begins_start (begins_list a its.toArray) p'.isList k0 k1 fun h' he' hit hsz hkp => wpAny_pyIter_enum he' ?_
      have I3 : Inv X pins σ H2 { s2 with heap := h' } := I2.kept (t' := s2.toks) hkp
      refine ⟨s2.heap.objs.size + 1, [s2.heap.objs.size + 1, s2.heap.objs.size], _, _, H2, rfl, I3, turn_enumK a (s2.heap.objs.size + 1) s2.heap.objs.size k, ⟨⟨.none, by simpa using he'⟩, ⟨_, hit, rfl, rfl⟩, Nat.succ_ne_self _⟩, fun b hb => ?_, q⟩
      have e' : b = s2.heap.objs.size + 1 ∨ b = s2.heap.objs.size := by simpa using hb
      have hle : s2.heap.objs.size ≤ b := by
        rcases e' with z | z
        · rw [z]; exact Nat.le_add_right _ _
        · rw [z]; exact Nat.le_refl _
      exact I2.fpOk hle (I2.hok.fresh hle)
theorem numIt_obs {K : PySem.W.Frag} {h : List Ob} {n i : Nat} {k : Int} {a : Addr} {d : D} (hb : HAb K cm L H h) (hL : L[n]? = some a) (hf : numIt k (lstIt n) h i = some (some d)) : ∃ vs v d0, H a = some (.lst vs) ∧ vs[i]? = some v ∧ Rep K cm L H d0 v ∧ d = .tup [.int (k + (i : Nat)), d0] := by
  unfold numIt at hf
  split at hf
  · rename_i d0 h0
    unfold lstIt at h0
    split at h0
    · rename_i xs hx
      obtain ⟨vs, hH, rr⟩ := hb.obs _ _ _ hx hL
      obtain ⟨v, hv, rv⟩ := rr.get (Option.some.inj h0)
      cases hf
      exact ⟨vs, v, d0, hH, hv, rv, rfl⟩
    · cases h0
  · cases hf
  · cases hf
theorem numIt_stop {K : PySem.W.Frag} {h : List Ob} {n i : Nat} {k : Int} {a : Addr} (hb : HAb K cm L H h) (hL : L[n]? = some a) (hf : numIt k (lstIt n) h i = some none) : ∃ vs : List V, H a = some (.lst vs) ∧ vs.length ≤ i := by
  unfold numIt at hf
  split at hf
  · cases hf
  · rename_i h0
    unfold lstIt at h0
    split at h0
    · rename_i xs hx
      obtain ⟨vs, hH, rr⟩ := hb.obs _ _ _ hx hL
      refine ⟨vs, hH, ?_⟩
      rw [← rr.length]
      exact List.getElem?_eq_none_iff.mp (Option.some.inj h0)
    · cases h0
  · cases hf
theorem pair_new {K : PySem.W.Frag} {T : Addr} {i : Int} {d0 : D} {v : V} (hT : H T = none) (rv : Rep K cm L H d0 v) : Ext K L H L (upd H T (.tup [.int i, v])) ∧ (∀ h', HAb K cm L H h' → HAb K cm L (upd H T (.tup [.int i, v])) h') ∧ Rep K cm L (upd H T (.tup [.int i, v])) (.tup [.int i, d0]) (.ref T) :=
  ⟨Ext.beside hT, fun h' x => x.beside hT, .tup (.inl (.inl upd_same)) (.cons (.int _) (.cons (rv.mono (Ext.beside hT)) .nil))⟩
theorem walk_enumK {n : Nat} {a : Addr} {k : Int} (hL : L[n]? = some a) : WalksD K cm L H (numIt k (lstIt n)) (IteK K a k) :=
  ⟨fun L' H' h i d e hb hf => by
    obtain ⟨vs, v, d0, hH, hv, rv, rfl⟩ := numIt_obs hb (e.ix hL) hf
    refine ⟨⟨vs, v, SqL.of hH, hv⟩, fun x H2 y => ?_⟩
    obtain ⟨T, x0, rfl, hT, rfl, hy⟩ := y
    have ev := hy vs (SqL.of hH)
    rw [hv] at ev
    cases ev
    exact pair_new hT rv, fun L' H' h i e hb hf => by
    obtain ⟨vs, hH, hl⟩ := numIt_stop hb (e.ix hL) hf
    exact ⟨vs, SqL.of hH, hl⟩⟩
theorem walk_enum0 {n : Nat} {a : Addr} (hL : L[n]? = some a) : WalksD K cm L H (numIt 0 (lstIt n)) (Ite K a) :=
  ⟨fun L' H' h i d e hb hf => by
    obtain ⟨vs, v, d0, hH, hv, rv, rfl⟩ := numIt_obs hb (e.ix hL) hf
    refine ⟨⟨vs, v, SqL.of hH, hv⟩, fun x H2 y => ?_⟩
    obtain ⟨T, x0, rfl, hT, rfl, hy⟩ := y
    have ev := hy vs (SqL.of hH)
    rw [hv] at ev
    cases ev
    rw [Int.zero_add]
    exact pair_new hT rv, fun L' H' h i e hb hf => by
    obtain ⟨vs, hH, hl⟩ := numIt_stop hb (e.ix hL) hf
    exact ⟨vs, SqL.of hH, hl⟩⟩
theorem i_enum {elts : List Expr} {kk : Nat} (hg : Gl X "enumerate") (hm : X.mg "enumerate" = none) (ha : PA X [e] (rdA X.K cm W ga)) (hs : starEach [e] X.env = [(false, eval e X.env)] := by rfl) :
    PI X (.Tuple elts kk tpos) (.Call (.Name "enumerate" p) [e] [] pos) (rdI X.K cm W (dEnum ga)) := weakI (pi_enum hg hm ha hs) fun σ H R q => by
  obtain ⟨L, S, a, q⟩ := q
  refine ⟨L, S, a, (Aft.step (R := Reps X.K cm) q).mono fun v H1 z => ?_⟩
  obtain ⟨L1, S1, d, e1, x1, r1, q1⟩ := z
  split at q1
  · cases r1 with
    | cons r1 r2 =>
      cases r2
      unfold enumOf at q1
      split at q1
      · split at q1
        · rename_i hx
          obtain ⟨p1, vs1, rfl, g1, h1, rr⟩ := x1.lst r1 hx
          exact ⟨_, _, rfl, SqL.of h1, q1.give x1 (walk_enum0 g1)⟩
        · exact q1.elim
      · exact q1.elim
  · exact q1.elim
theorem i_enumS {elts : List Expr} {kk : Nat} {kws : List Keyword} (hg : Gl X "enumerate") (hm : X.mg "enumerate" = none) (ha : PA X [e] (rdA X.K cm W ga)) (hk : PK X kws (rdA X.K cm W gz))
    (he : backTo pos (starEach [e] X.env) = (false, eval e X.env) :: backTo pos (starEach [] X.env) := by rfl) (hpl : (backTo pos (starEach [e] X.env)).any (·.1) = false := by rfl)
    (hall : (backToKw pos (keywordEach kws X.env)).all (·.1.isSome) = true := by rfl) (hnone : (backToKw pos (keywordEach kws X.env)).any (·.1.isNone) = false := by rfl) (hks : (backToKw pos (keywordEach kws X.env)).filterMap (·.1) = [Str.ofString "start"] := by rfl) :
    PI X (.Tuple elts kk tpos) (.Call (.Name "enumerate" p) [e] kws pos) (rdI X.K cm W (dEnumS ga gz)) := weakI (pi_enumS hg hm ha hk he hpl hall hnone hks) fun σ H R q => by
  obtain ⟨L, S, a, q⟩ := q
  refine ⟨L, S, a, (Aft.step (R := Reps X.K cm) q).mono fun v H1 z => ?_⟩
  obtain ⟨L1, S1, ds, e1, x1, r1, q1⟩ := z
  refine ⟨L1, S1, x1, (Aft.step (R := Reps X.K cm) q1).mono fun v H2 z => ?_⟩
  obtain ⟨L2, S2, ds2, e2, x2, r2, q2⟩ := z
  split at q2
  · cases r1 with
    | cons r1 r3 =>
      cases r3
      cases r2 with
      | cons r2 r4 =>
        cases r4
        cases r2
        split at q2
        · rename_i hk
          unfold enumOf at q2
          split at q2
          · split at q2
            · rename_i hx
              obtain ⟨p1, vs1, rfl, g1, h1, rr⟩ := x2.lst (r1.mono e2) hx
              exact ⟨_, _, _, rfl, rfl, by omega, by omega, SqL.of h1, q2.give x2 (walk_enumK g1)⟩
            · exact q2.elim
          · exact q2.elim
        · exact q2.elim
  · exact q2.elim
end

/-! ### 32. TABLE.get(x), a dict of the module -/
def dKGet (tbl : List (Str × D)) (a : DE) : DE := fun S => (a S).bind fun d S1 => match d with
  | .str x => .ok ((tbl.lookup x).getD .non) S1
  | _ => .stuck
def KVal (K : PySem.W.Frag) (cm : Str → Value) (r : Option Value) (e : Option D) : Prop := match r, e with
  | some u, some e => ∃ v, RelV v u ∧ ∀ L H, Rep K cm L H e v
  | none, none => True
  | _, _ => False
structure KTab (K : PySem.W.Frag) (w : World) (cm : Str → Value) (d : Addr) (tbl : List (Str × D)) : Prop where
  ex : ∃ es n, KDict K w d es n ∧ ∀ x, ∃ r, PySem.W.nsIn K d x = some r ∧ KVal K cm r (tbl.lookup x)
inductive KRows (K : PySem.W.Frag) (w : World) (cm : Str → Value) : List DictEntry → List (Str × D) → Prop
  | nil : KRows K w cm [] []
  | cons {x : Str} {t : Tok} {u : Value} {v : V} {e : D} {es : List DictEntry} {tbl : List (Str × D)} : RelV v u → (∀ L H, Rep K cm L H e v) → KRows K w cm es tbl → KRows K w cm (⟨PyData.keyHash w.params x, .str x t, u⟩ :: es) ((x, e) :: tbl)
section
variable {K : PySem.W.Frag} {w : World} {cm : Str → Value}
theorem KRows.lit : ∀ {es : List DictEntry} {tbl : List (Str × D)}, KRows K w cm es tbl → PySem.W.KeysLit w.params es
  | _, _, .nil => trivial
  | _, _, .cons _ _ r => ⟨⟨_, _, rfl, rfl⟩, r.lit⟩
theorem KRows.find : ∀ {es : List DictEntry} {tbl : List (Str × D)}, KRows K w cm es tbl → ∀ x : Str, KVal K cm ((es.find? (·.key.isStr x)).map (·.val)) (tbl.lookup x) ∧ es.any (·.refKey) = false
  | _, _, .nil, x => ⟨trivial, rfl⟩
  | _, _, .cons (x := y) (t := t) (u := u) (v := v) (e := e) (es := es) (tbl := tbl) hv hr r, x => by
    obtain ⟨h1, h2⟩ := r.find x
    refine ⟨?_, ?_⟩
    · rw [List.find?_cons, List.lookup_cons]
      show KVal K cm (Option.map _ (match y == x with | true => _ | false => _)) _
      by_cases h : y = x
      · subst h
        rw [beq_self_eq_true]
        exact ⟨v, hv, hr⟩
      · rw [show (y == x) = false from by simpa using h, show (x == y) = false from by simpa using Ne.symm h]
        exact h1
    · rw [List.any_cons, h2, Bool.or_false]
      rfl
theorem ktab_of {d : Addr} {es : List DictEntry} {n : Nat} {tbl : List (Str × D)} (h : K.lookup d = some ⟨.type "dict", none, .dict es.toArray n, #[]⟩) (low : (d == sysModules) = false) (r : KRows K w cm es tbl) : KTab K w cm d tbl := by
  refine ⟨es.toArray, n, ⟨h, by simpa using r.lit, low⟩, fun x => ?_⟩
  obtain ⟨h1, h2⟩ := r.find x
  refine ⟨_, ?_, h1⟩
  unfold PySem.W.nsIn
  rw [h]
  dsimp only
  cases z : es.find? (·.key.isStr x) with
  | some e => simp [z]
  | none => simp [z, h2]
end
section
variable {X : Cx} {cm : Str → Value} {W : WX} {e : Expr} {nm : Str} {p apos cpos : Pos} {fa : DE} {d : Addr} {tbl : List (Str × D)}
theorem e_kget (T : KTab X.K X.w cm d tbl) (hg : Gl X nm) (hm : X.mg nm = some (.ref d)) (he : PE X e (rdE X.K cm W fa)) (hdb : (nm == ("__debug__" : Str)) = false := by decide)
    (base : attributeBase (.Name nm p) "get" X.env (eval (.Name nm p) X.env) = eval (.Name nm p) X.env := by rfl)
    (few : ((backTo cpos (starEach [e] X.env)).all (fun x => !x.1) && (backToKw cpos (keywordEach [] X.env)).all (fun x => x.1.isSome)
      && decide (([e] : List Expr).length + ([] : List Keyword).length + (if ([] : List Keyword).isEmpty then 0 else 1) < 30)) = true := by rfl)
    (line : (apos.endLine == cpos.line) = true := by rfl) (trees : backTo cpos (starEach [e] X.env) = [(false, eval e X.env)] := by rfl) :
    PE X (.Call (.Attribute (.Name nm p) "get" apos) [e] [] cpos) (rdE X.K cm W (dKGet tbl fa)) := by
  obtain ⟨es, n, D, hl⟩ := T.ex
  refine ⟨fun pins s σ H Q I h => ?_⟩
  refine wpAny_Call_method base few line PySem.F.plainAttrs_dict PySem.F.slot_dict_get PySem.F.type_dict_get (ld_glob I hg hm ?_ hdb)
  refine ⟨kd_type D I, fun b z => by cases z; exact ⟨_, I.kIn _ _ D.at_, rfl⟩, ?_⟩
  rw [trees]
  obtain ⟨L, S, a, q⟩ := h
  refine Calls.callWith_builtin rfl (Calls.evalArgs_plain (Calls.spliced_cons (thn (he.run pins s σ H _ I ⟨L, S, a, Aft.step (R := Rep X.K cm) q⟩) fun iv s2 ⟨y, H2, I2, ry, z⟩ => Calls.spliced_nil ?_)))
  obtain ⟨L1, S1, dd, e1, x1, r1, q1⟩ := z
  split at q1
  · rename_i x
    cases r1
    obtain ⟨t, rfl⟩ := ry
    obtain ⟨r, hr, hv⟩ := hl x
    refine call_meetsIn PySem.F.slot_dict_get (kd_type D I2) PySem.F.entry_dict_get (PySem.F.args_dict_get_2 _ _) (meets_dict_get (strKind X.prog X.w) d (strKind_is X.prog X.w x t) D.low) ⟨_, PySem.W.mapOf_K (prog := X.prog) I2.kIn D.at_ D.lit, ?_⟩
    rw [PySem.W.find_K D.at_ hr]
    unfold KVal at hv
    split at hv
    · rename_i u e' he'
      obtain ⟨v, rv, rr⟩ := hv
      rw [he'] at q1
      exact ⟨v, H2, I2.tok _, rv, q1.give x1 (rr _ _)⟩
    · rename_i he'
      rw [he'] at q1
      exact ⟨.non, H2, I2.tok _, rfl, q1.give x1 .non⟩
    · exact hv.elim
  · exact q1.elim
end
end Den

namespace Den
open PySem L2

/-! ### 24. running plain functions -/
theorem runB_ret {n : Nat} {b : DSt} {ds : List D} {h : List Ob} {d : D} {S : DS} (e : b ⟨ds.map some ++ List.replicate (n - ds.length) none, h⟩ = .ok (.ret d) S) : runB n b ds h = .ok d ⟨[], S.h⟩ := by
  unfold runB; rw [e]
theorem runB_exc {n : Nat} {b : DSt} {ds : List D} {h : List Ob} {x : Xn} {S : DS} (e : b ⟨ds.map some ++ List.replicate (n - ds.length) none, h⟩ = .exc x S) : runB n b ds h = .exc x ⟨[], S.h⟩ := by
  unfold runB; rw [e]
/-- a for over values, with an invariant that each turn keeps -/
theorem forV_inv {g : DG} {b : DSt} {I : DS → Prop} : ∀ (xs : List D) (S : DS), I S → (∀ d ∈ xs, ∀ S, I S → ∃ S1, g d S = some S1 ∧ ∃ f S2, b S1 = .ok f S2 ∧ (f = .next ∨ f = .cont) ∧ I S2) → ∃ S', forV g b xs S = .ok .next S' ∧ I S'
  | [], S, i, _ => ⟨S, rfl, i⟩
  | d :: ds, S, i, h => by
    obtain ⟨S1, e1, f, S2, e2, hf, i2⟩ := h d (by simp) S i
    obtain ⟨S', e3, i3⟩ := forV_inv ds S2 i2 fun x hx => h x (List.mem_cons_of_mem _ hx)
    refine ⟨S', ?_, i3⟩
    unfold forV
    rw [e1]
    dsimp only
    rw [e2]
    rcases hf with rfl | rfl <;> exact e3
/-- a for over a list that stays as it is -/
theorem forO_inv {g : DG} {b : DSt} {I : Nat → DS → Prop} {it : List Ob → Nat → Option (Option D)} {xs : List D} (hh : ∀ i S, I i S → it S.h i = some xs[i]?) (step : ∀ i d S, xs[i]? = some d → I i S → ∃ S1, g d S = some S1 ∧ ∃ f S2, b S1 = .ok f S2 ∧ (f = .next ∨ f = .cont) ∧ I (i + 1) S2) :
    ∀ (k i : Nat) (S : DS), xs.length < i + k → i ≤ xs.length → I i S → ∃ S', forO it g b k i S = .ok .next S' ∧ I xs.length S'
  | 0, i, S, h, h2, _ => by omega
  | k + 1, i, S, h, h2, ii => by
    unfold forO
    rw [hh i S ii]
    cases e : xs[i]? with
    | none =>
      have : xs.length ≤ i := List.getElem?_eq_none_iff.mp e
      obtain rfl : i = xs.length := by omega
      exact ⟨S, rfl, ii⟩
    | some d =>
      obtain ⟨S1, e1, f, S2, e2, hf, i2⟩ := step i d S e ii
      have lt := (List.getElem?_eq_some_iff.mp e).1
      obtain ⟨S', e3, i3⟩ := forO_inv hh step k (i + 1) S2 (by omega) (by omega) i2
      refine ⟨S', ?_, i3⟩
      dsimp only
      rw [e1]
      dsimp only
      rw [e2]
      rcases hf with rfl | rfl <;> exact e3
/-! heaps -/
/-- h' has all that h has but at n and m -/
def Kp (n m : Nat) (h h' : List Ob) : Prop := ∀ (k : Nat) (ob : Ob), k ≠ n → k ≠ m → h[k]? = some ob → h'[k]? = some ob
def Kp0 (h h' : List Ob) : Prop := ∀ (k : Nat) (ob : Ob), h[k]? = some ob → h'[k]? = some ob
theorem Kp.refl (n m : Nat) (h : List Ob) : Kp n m h h := fun _ _ _ _ e => e
theorem Kp.trans {n m : Nat} {h h1 h2 : List Ob} (a : Kp n m h h1) (b : Kp n m h1 h2) : Kp n m h h2 := fun k ob x y e => b k ob x y (a k ob x y e)
theorem Kp0.refl (h : List Ob) : Kp0 h h := fun _ _ e => e
theorem Kp0.trans {h h1 h2 : List Ob} (a : Kp0 h h1) (b : Kp0 h1 h2) : Kp0 h h2 := fun k ob e => b k ob (a k ob e)
theorem Kp0.kp {h h1 : List Ob} (a : Kp0 h h1) (n m : Nat) : Kp n m h h1 := fun k ob _ _ e => a k ob e
theorem Kp0.app (h t : List Ob) : Kp0 h (h ++ t) := fun k ob e => by
  rw [List.getElem?_append_left (List.getElem?_eq_some_iff.mp e).1]; exact e
theorem lt_of_at {h : List Ob} {k : Nat} {ob : Ob} (e : h[k]? = some ob) : k < h.length := (List.getElem?_eq_some_iff.mp e).1
theorem at_new (h : List Ob) (ob : Ob) : (h ++ [ob])[h.length]? = some ob := by
  rw [List.getElem?_append_right (Nat.le_refl _)]; simp
theorem at_old {h t : List Ob} {k : Nat} {ob : Ob} (e : h[k]? = some ob) : (h ++ t)[k]? = some ob := Kp0.app h t k ob e
/-! data -/
theorem toPy_ints (h : List Ob) (n : Nat) : ∀ xs : List Int, (xs.map D.int).mapM (toPy h n) = some (xs.map PyData.int)
  | [] => rfl
  | x :: xs => by
    rw [List.map_cons, List.mapM_cons, toPy_ints h n xs]
    cases n <;> rfl
theorem toPy_strs (h : List Ob) (n : Nat) : ∀ xs : List Str, (xs.map D.str).mapM (toPy h n) = some (xs.map PyData.str)
  | [] => rfl
  | x :: xs => by
    rw [List.map_cons, List.mapM_cons, toPy_strs h n xs]
    cases n <;> rfl
theorem shaped_int (i : Int) : SeqAt.shaped (.int i) = true := rfl
theorem canLay_ints : ∀ xs : List Int, PyData.canLayAll0 (xs.map PyData.int) = true
  | [] => rfl
  | x :: xs => by
    show (true && PyData.canLayAll0 (xs.map PyData.int)) = true
    rw [canLay_ints xs]; rfl
theorem depth_ints : ∀ xs : List Int, PyData.depthAll (xs.map PyData.int) = 0
  | [] => rfl
  | x :: xs => by
    show max 0 (PyData.depthAll (xs.map PyData.int)) = 0
    rw [depth_ints xs]; rfl
theorem shaped_ints (xs : List Int) : SeqAt.shaped (.list (xs.map PyData.int)) = true := by
  unfold SeqAt.shaped
  show (PyData.canLayAll0 (xs.map PyData.int) && decide (PyData.depthAll (xs.map PyData.int) + 1 ≤ 64)) = true
  rw [canLay_ints, depth_ints]; rfl
/-- signs -/
def Good (x : Str) : Prop := ∀ c ∈ x.cps.toList, c < 256
theorem Good.shaped {x : Str} (g : Good x) : SeqAt.shaped (.str x) = true := by
  unfold SeqAt.shaped
  show (PyData.strOk x && decide (0 ≤ 64)) = true
  have : PyData.strOk x = true := by
    unfold PyData.strOk
    rw [Array.all_eq_true_iff_forall_mem]
    intro c hc
    have := g c (by simpa using hc)
    simp; omega
  rw [this]; rfl

/-- r comes to a value of which Q holds -/
def Ok {α : Type} (r : Res α) (Q : α → DS → Prop) : Prop := match r with
  | .ok a S => Q a S
  | _ => False
@[simp] theorem Ok_ok {α : Type} (a : α) (S : DS) (Q : α → DS → Prop) : Ok (.ok a S) Q ↔ Q a S := Iff.rfl
theorem Ok.ex {α : Type} {r : Res α} {Q : α → DS → Prop} (h : Ok r Q) : ∃ a S, r = .ok a S ∧ Q a S := by
  cases r with
  | ok a S => exact ⟨a, S, rfl, h⟩
  | exc e S => exact h.elim
  | stuck => exact h.elim
theorem ok_runB {n : Nat} {b : DSt} {ds : List D} {h : List Ob} {Q : D → DS → Prop} (e : Ok (b ⟨ds.map some ++ List.replicate (n - ds.length) none, h⟩) fun f S => match f with
    | .ret d => Q d ⟨[], S.h⟩
    | .next => Q .non ⟨[], S.h⟩
    | _ => False) : Ok (runB n b ds h) Q := by
  obtain ⟨f, S, e1, q⟩ := e.ex
  unfold runB
  rw [e1]
  cases f <;> first | exact q | exact q.elim
theorem ok_dyn {g : DG} {b : DSt} {K : Fl → DS → Res Fl} {Q : Fl → DS → Prop} {it : List Ob → Nat → Option (Option D)} {S : DS} (I : Nat → DS → Prop) (xs : List D) (hl : xs.length < 100000) (i0 : I 0 S) (hh : ∀ i S, I i S → it S.h i = some xs[i]?)
    (step : ∀ i d S, xs[i]? = some d → I i S → ∃ S1, g d S = some S1 ∧ Ok (b S1) fun f S2 => (f = .next ∨ f = .cont) ∧ I (i + 1) S2) (k : ∀ S', I xs.length S' → Ok (K .next S') Q) : Ok ((forO it g b 100000 0 S).bind K) Q := by
  obtain ⟨S', e, i'⟩ := forO_inv (g := g) (b := b) hh (fun i d S e ii => by
    obtain ⟨S1, e1, o⟩ := step i d S e ii
    obtain ⟨f, S2, e2, hf, i2⟩ := o.ex
    exact ⟨S1, e1, f, S2, e2, hf, i2⟩) 100000 0 S (by omega) (Nat.zero_le _) i0
  rw [e]
  exact k S' i'
theorem lstIt_of {h : List Ob} {n : Nat} {xs : List D} (e : h[n]? = some (.lst xs)) (i : Nat) : lstIt n h i = some xs[i]? := by
  unfold lstIt; rw [e]
theorem ok_forO {g : DG} {b : DSt} {K : Fl → DS → Res Fl} {Q : Fl → DS → Prop} {n : Nat} {S : DS} (I : Nat → DS → Prop) (xs : List D) (hl : xs.length < 100000) (i0 : I 0 S) (hh : ∀ i S, I i S → S.h[n]? = some (.lst xs))
    (step : ∀ i d S, xs[i]? = some d → I i S → ∃ S1, g d S = some S1 ∧ Ok (b S1) fun f S2 => (f = .next ∨ f = .cont) ∧ I (i + 1) S2) (k : ∀ S', I xs.length S' → Ok (K .next S') Q) : Ok ((forO (lstIt n) g b 100000 0 S).bind K) Q := ok_dyn I xs hl i0 (fun i S ii => lstIt_of (hh i S ii) i) step k
theorem ok_forV {g : DG} {b : DSt} {K : Fl → DS → Res Fl} {Q : Fl → DS → Prop} {S : DS} {xs : List D} (I : DS → Prop) (i0 : I S) (step : ∀ d ∈ xs, ∀ S, I S → ∃ S1, g d S = some S1 ∧ Ok (b S1) fun f S2 => (f = .next ∨ f = .cont) ∧ I S2)
    (k : ∀ S', I S' → Ok (K .next S') Q) : Ok ((forV g b xs S).bind K) Q := by
  obtain ⟨S', e, i'⟩ := forV_inv (g := g) (b := b) xs S i0 fun d hd S ii => by
    obtain ⟨S1, e1, o⟩ := step d hd S ii
    obtain ⟨f, S2, e2, hf, i2⟩ := o.ex
    exact ⟨S1, e1, f, S2, e2, hf, i2⟩
  rw [e]
  exact k S' i'
/-! rules of reckoning -/
@[simp] theorem mxL_eq : mxL = 1000000 := rfl
section
variable {S : DS} {i j : Int} {x y : Str} {n m : Nat}
@[simp] theorem z_seq (a b : DSt) (S : DS) : sSeq a b S = (a S).bind fun f S1 => match f with
  | .next => b S1
  | f => .ok f S1 := rfl
@[simp] theorem z_if (t : DT) (a b : DSt) (S : DS) : sIf t a b S = (t S).bind fun c S1 => if c then a S1 else b S1 := rfl
@[simp] theorem z_ret (e : DE) (S : DS) : sRet e S = (e S).bind fun d S1 => .ok (.ret d) S1 := rfl
@[simp] theorem z_expr (e : DE) (S : DS) : sExpr e S = (e S).bind fun _ S1 => .ok .next S1 := rfl
@[simp] theorem z_nop (S : DS) : sNop S = .ok .next S := rfl
@[simp] theorem z_asg (e : DE) (i : Nat) (S : DS) : sAsg e (gN i) S = (e S).bind fun d S1 => .ok .next { S1 with loc := S1.loc.set i (some d) } := rfl
@[simp] theorem z_par (i j : Nat) (a : DA) (S : DS) : sPar i j a S = (a S).bind fun ds S1 => match ds with
  | [d, e] => .ok .next { S1 with loc := (S1.loc.set i (some d)).set j (some e) }
  | _ => .stuck := rfl
@[simp] theorem z_put (v o i : DE) (S : DS) : sPut v o i S = (v S).bind fun d S1 => (o S1).bind fun x S2 => (i S2).bind fun k S3 => match oPut x k d S3 with
  | some S4 => .ok .next S4
  | none => .stuck := rfl
@[simp] theorem z_tV (a : DE) (S : DS) : tV a S = (a S).bind toB := rfl
@[simp] theorem z_toB (b : Bool) (S : DS) : toB (.bl b) S = .ok b S := rfl
@[simp] theorem z_tAnd (a b : DT) (S : DS) : tAndD a b S = (a S).bind fun c S1 => if c then b S1 else .ok false S1 := rfl
@[simp] theorem z_tOr (a b : DT) (S : DS) : tOrD a b S = (a S).bind fun c S1 => if c then .ok true S1 else b S1 := rfl
@[simp] theorem z_tNot (a : DT) (S : DS) : tNotD a S = (a S).bind fun c S1 => .ok (!c) S1 := rfl
@[simp] theorem z_dAnd (a b : DE) (S : DS) : dAnd a b S = (a S).bind fun d S1 => (toB d S1).bind fun c S2 => if c then b S2 else .ok (.bl false) S2 := rfl
@[simp] theorem z_dOr (a b : DE) (S : DS) : dOr a b S = (a S).bind fun d S1 => (toB d S1).bind fun c S2 => if c then .ok (.bl true) S2 else b S2 := rfl
@[simp] theorem z_dIf (t : DT) (a b : DE) (S : DS) : dIf t a b S = (t S).bind fun c S1 => if c then a S1 else b S1 := rfl
@[simp] theorem z_bin (f : D → D → DS → Res D) (a b : DE) (S : DS) : dBin f a b S = (a S).bind fun x S1 => (b S1).bind fun y S2 => f x y S2 := rfl
@[simp] theorem z_var (i : Nat) (S : DS) : dVar i S = match S.loc[i]? with
  | some (some d) => .ok d S
  | _ => .stuck := rfl
@[simp] theorem z_c (d : D) (S : DS) : dC d S = .ok d S := rfl
@[simp] theorem z_nil (S : DS) : dNil S = .ok [] S := rfl
@[simp] theorem z_cons (a : DE) (r : DA) (S : DS) : dCons a r S = (a S).bind fun d S1 => (r S1).bind fun ds S2 => .ok (d :: ds) S2 := rfl
@[simp] theorem z_tup (a : DA) (S : DS) : dTup a S = (a S).bind fun ds S1 => if ds.length ≤ mxL then .ok (.tup ds) S1 else .stuck := rfl
@[simp] theorem z_lst (a : DA) (S : DS) : dLst a S = (a S).bind fun ds S1 => if ds.length ≤ mxL then newO (.lst ds) S1 else .stuck := rfl
@[simp] theorem z_cb (f : List D → DS → Res D) (a : DA) (S : DS) : dCB f a S = (a S).bind fun ds S1 => f ds S1 := rfl
@[simp] theorem z_call (F : Fn) (a : DA) (S : DS) : dCall F a S = (a S).bind fun ds S1 => match F ds S1.h with
  | .ok d S2 => .ok d ⟨S1.loc, S2.h⟩
  | .exc e S2 => .exc e ⟨S1.loc, S2.h⟩
  | .stuck => .stuck := rfl
@[simp] theorem z_callK (F : Fn) (p : List Nat) (a z : DA) (S : DS) : dCallK F p a z S = (a S).bind fun ds S1 => (z S1).bind fun es S2 => match F (pick p (ds ++ es)) S2.h with
  | .ok d S3 => .ok d ⟨S2.loc, S3.h⟩
  | .exc e S3 => .exc e ⟨S2.loc, S3.h⟩
  | .stuck => .stuck := rfl
@[simp] theorem z_mtL (f : D → List D → DS → Res D) (o : DE) (a : DA) (S : DS) : dMtL f o a S = (o S).bind fun x S1 => if isLst S1 x then (a S1).bind fun ds S2 => f x ds S2 else .stuck := rfl
@[simp] theorem z_mtS (f : D → List D → DS → Res D) (o : DE) (a : DE) (S : DS) : dMtS f o a S = (o S).bind fun x S1 => if isStr x then (a S1).bind fun d S2 => f x [d] S2 else .stuck := rfl
@[simp] theorem z_isStr (x : Str) : isStr (.str x) = true := rfl
@[simp] theorem z_isLst (S : DS) (n : Nat) : isLst S (.ref n) = match S.h[n]? with
  | some (.lst _) => true
  | _ => false := rfl
@[simp] theorem z_sl (a : DE) (lo hi : DS → Res (Option Int)) (S : DS) : dSl a lo hi S = (a S).bind fun x S1 => (lo S1).bind fun l S2 => (hi S2).bind fun u S3 => oSl x l u S3 := rfl
@[simp] theorem z_pn (S : DS) : dPN S = .ok none S := rfl
@[simp] theorem z_ps (a : DE) (S : DS) : dPS a S = (a S).bind fun d S1 => match d with
  | .int i => .ok (some i) S1
  | _ => .stuck := rfl
@[simp] theorem z_rev (a : DE) (S : DS) : dRev a S = (a S).bind oRev := rfl
@[simp] theorem z_newO (ob : Ob) (S : DS) : newO ob S = .ok (.ref S.h.length) { S with h := S.h ++ [ob] } := rfl
@[simp] theorem z_new0 (S : DS) : dNew0 S = .ok (.ref S.h.length) { S with h := S.h ++ [.dct []] } := rfl
@[simp] theorem z_add : oAdd (.int i) (.int j) S = .ok (.int (i + j)) S := rfl
@[simp] theorem z_addS : oAdd (.str x) (.str y) S = if x.length + y.length ≤ mxL then .ok (.str (x ++ y)) S else .stuck := rfl
@[simp] theorem z_addT (a b : List D) : oAdd (.tup a) (.tup b) S = if a.length + b.length ≤ mxL then .ok (.tup (a ++ b)) S else .stuck := rfl
@[simp] theorem z_addL : oAdd (.ref n) (.ref m) S = match S.h[n]?, S.h[m]? with
  | some (.lst a), some (.lst b) => if a.length + b.length ≤ mxL then newO (.lst (a ++ b)) S else .stuck
  | _, _ => .stuck := rfl
@[simp] theorem z_sub : oSub (.int i) (.int j) S = .ok (.int (i - j)) S := rfl
@[simp] theorem z_mul : oMulA (.int i) (.int j) S = if (-(2 ^ 64) < i ∧ i < 2 ^ 64) ∨ (-(2 ^ 64) < j ∧ j < 2 ^ 64) then .ok (.int (i * j)) S else .stuck := rfl
@[simp] theorem z_mulS : oMulA (.str x) (.int j) S = if -1000000 ≤ j ∧ j ≤ 1000000 ∧ x.length * j.toNat ≤ mxL ∧ (repS x j).length ≤ mxL then .ok (.str (repS x j)) S else .stuck := rfl
@[simp] theorem z_mod : oMod (.int i) (.int j) S = if 0 < j then .ok (.int (i % j)) S else .stuck := rfl
@[simp] theorem z_div : oDiv (.int i) (.int j) S = if 0 < j ∧ j < 1073741824 then .ok (.int (i / j)) S else .stuck := rfl
@[simp] theorem z_pow : oPow (.int i) (.int j) S = if 0 ≤ j ∧ j ≤ 1000 ∧ i.natAbs < 2 ^ 64 then .ok (.int (i ^ j.toNat)) S else .stuck := rfl
@[simp] theorem z_lt : oLt (.int i) (.int j) S = .ok (.bl (decide (i < j))) S := rfl
@[simp] theorem z_le : oLe (.int i) (.int j) S = .ok (.bl (decide (i ≤ j))) S := rfl
@[simp] theorem z_gt : oGt (.int i) (.int j) S = .ok (.bl (decide (j < i))) S := rfl
@[simp] theorem z_ge : oGe (.int i) (.int j) S = .ok (.bl (decide (j ≤ i))) S := rfl
@[simp] theorem z_isn (d : D) : oIsN d .non S = .ok (.bl (isNon d)) S := rfl
@[simp] theorem z_notn (d : D) : oNotN d .non S = .ok (.bl (!isNon d)) S := rfl
@[simp] theorem z_eqI : oEq (.int i) (.int j) S = .ok (.bl (i == j)) S := rfl
@[simp] theorem z_neI : oNe (.int i) (.int j) S = .ok (.bl (!(i == j))) S := rfl
@[simp] theorem z_ixR (k : Str) : oIx (.ref n) (.str k) S = match S.h[n]? with
  | some (.dct kvs) => match valD kvs (.inr k) with
    | some d => .ok d S
    | none => .stuck
  | some (.fdct kvs) => match valD kvs (.inr k) with
    | some d => .ok d S
    | none => .stuck
  | _ => .stuck := by
  show (match S.h[n]?, D.str k with
    | some (.lst xs), .int i => match atI xs i with
      | some d => Res.ok d S
      | none => .stuck
    | some (.dct kvs), y => match keyOf y with
      | some k => match valD kvs k with
        | some d => .ok d S
        | none => .stuck
      | none => .stuck
    | some (.fdct kvs), y => match keyOf y with
      | some k => match valD kvs k with
        | some d => .ok d S
        | none => .stuck
      | none => .stuck
    | _, _ => .stuck) = _
  cases S.h[n]? with
  | none => rfl
  | some ob => cases ob <;> rfl
@[simp] theorem z_ixT (xs : List D) : oIx (.tup xs) (.int i) S = match atI xs i with
  | some d => .ok d S
  | none => .stuck := rfl
@[simp] theorem z_putD (k : Str) (d : D) : oPut (.ref n) (.str k) d S = match S.h[n]? with
  | some (.dct kvs) => if kvs.length < mxL then some { S with h := S.h.set n (.dct (putD kvs (.inr k) d)) } else none
  | _ => none := by
  unfold oPut
  dsimp only
  cases S.h[n]? with
  | none => rfl
  | some ob => cases ob <;> rfl
@[simp] theorem z_lenS : cLen [.str x] S = if x.length ≤ mxL then .ok (.int x.length) S else .stuck := rfl
@[simp] theorem z_lenT (xs : List D) : cLen [.tup xs] S = .ok (.int xs.length) S := rfl
@[simp] theorem z_lenR : cLen [.ref n] S = match S.h[n]? with
  | some (.lst xs) => .ok (.int xs.length) S
  | some (.dct kvs) => .ok (.int kvs.length) S
  | _ => .stuck := rfl
@[simp] theorem z_intI : cInt [.int i] S = .ok (.int i) S := rfl
@[simp] theorem z_intB (b : Bool) : cInt [.bl b] S = .ok (.int (if b then 1 else 0)) S := rfl
@[simp] theorem z_abs : cAbs [.int i] S = .ok (.int (if i < 0 then -i else i)) S := rfl
@[simp] theorem z_slS (lo hi : Option Int) : oSl (.str x) lo hi S = if x.length ≤ mxL then .ok (.str (cutS x lo hi)) S else .stuck := rfl
@[simp] theorem z_slT (xs : List D) (lo hi : Option Int) : oSl (.tup xs) lo hi S = .ok (.tup (cutD xs lo hi)) S := rfl
@[simp] theorem z_slR (xs : List D) (lo hi : Option Int) : oSl (.ro xs) lo hi S = newO (.lst (cutD xs lo hi)) S := rfl
@[simp] theorem z_slL (lo hi : Option Int) : oSl (.ref n) lo hi S = match S.h[n]? with
  | some (.lst xs) => newO (.lst (cutD xs lo hi)) S
  | _ => .stuck := rfl
@[simp] theorem z_pop : mPop (.ref n) [] S = match S.h[n]? with
  | some (.lst xs) => match xs[xs.length - 1]? with
    | some d => .ok d { S with h := S.h.set n (.lst xs.dropLast) }
    | none => .stuck
  | _ => .stuck := rfl
@[simp] theorem z_append (d : D) : mAppend (.ref n) [d] S = match S.h[n]? with
  | some (.lst xs) => if xs.length < mxL then .ok .non { S with h := S.h.set n (.lst (xs ++ [d])) } else .stuck
  | _ => .stuck := rfl
@[simp] theorem z_split : mSplit (.str x) [.str y] S = if y.length ≠ 0 ∧ x.length + 2 ≤ mxL then newO (.lst ((Txt.split x y).map .str)) S else .stuck := rfl
end
end Den

namespace Den
open PySem L2

/-! ### 25. texts -/
def goodB (x : Str) : Bool := x.cps.toList.all (fun c => decide (c < 256))
theorem good_of {x : Str} (h : goodB x = true) : Good x := fun c hc => of_decide_eq_true (List.all_eq_true.mp h c hc)
theorem sig_app (x y : Str) : (x ++ y).cps.toList = x.cps.toList ++ y.cps.toList := TL.tl_append x y
theorem Good.app {x y : Str} (a : Good x) (b : Good y) : Good (x ++ y) := fun c hc => by
  rw [sig_app] at hc
  rcases List.mem_append.mp hc with h | h
  · exact a c h
  · exact b c h
theorem Good.left {x y : Str} (a : Good (x ++ y)) : Good x := fun c hc => a c (by rw [sig_app]; exact List.mem_append.mpr (.inl hc))
theorem Good.right {x y : Str} (a : Good (x ++ y)) : Good y := fun c hc => a c (by rw [sig_app]; exact List.mem_append.mpr (.inr hc))
theorem Good.cut {x : Str} (a : Good x) (lo hi : Option Int) : Good (cutS x lo hi) := fun c hc => a c (by
  unfold cutS at hc
  exact List.mem_of_mem_drop (List.mem_of_mem_take hc))
theorem Good.rev {x : Str} (a : Good x) : Good (revS x) := fun c hc => a c (by
  unfold revS at hc
  simpa using hc)
theorem len_app (x y : Str) : (x ++ y).length = x.length + y.length := by
  show (x.cps ++ y.cps).size = _
  rw [Array.size_append]; rfl
theorem len_cut (x : Str) (lo hi : Option Int) : (cutS x lo hi).length ≤ x.length := by
  unfold cutS
  show (List.toArray _).size ≤ x.cps.size
  rw [List.size_toArray, List.length_take, List.length_drop, Array.length_toList]
  omega
theorem good_join {y : Str} (gy : Good y) : ∀ {ps : List Str}, (∀ p ∈ ps, Good p) → Good (Str.join y ps)
  | [], _ => fun c hc => by cases hc
  | [p], h => h p (by simp)
  | p :: q :: r, h => ((h p (by simp)).app gy).app (good_join gy fun z hz => h z (List.mem_cons_of_mem _ hz))
theorem good_parts {y : Str} : ∀ {ps : List Str}, Good (Str.join y ps) → ∀ p ∈ ps, Good p
  | [], _ => fun _ hp => by cases hp
  | [p], h => fun z hz => by rw [List.mem_singleton.mp hz]; exact h
  | p :: q :: r, h => fun z hz => by
    have h' : Good (p ++ y ++ Str.join y (q :: r)) := h
    rcases List.mem_cons.mp hz with rfl | hz
    · exact h'.left.left
    · exact good_parts h'.right z hz
theorem good_split {x y : Str} (g : Good x) : ∀ p ∈ Txt.split x y, Good p := good_parts (by rw [StrLaws.join_split]; exact g)
def lenS (ps : List Str) : Nat := (ps.map (·.length)).sum
theorem len_join (y : Str) : ∀ {ps : List Str}, ps ≠ [] → (Str.join y ps).length + y.length = lenS ps + ps.length * y.length
  | [], h => absurd rfl h
  | [p], _ => by
    show p.length + y.length = p.length + 0 + 1 * y.length
    omega
  | p :: q :: r, _ => by
    show (p ++ y ++ Str.join y (q :: r)).length + y.length = p.length + lenS (q :: r) + (r.length + 1 + 1) * y.length
    rw [len_app, len_app, Nat.add_assoc (p.length + y.length), len_join y (ps := q :: r) (by simp)]
    rw [Nat.add_mul (r.length + 1) 1, Nat.one_mul]
    show _ + (lenS (q :: r) + (r.length + 1) * y.length) = _
    omega
theorem split_ne (x y : Str) : Txt.split x y ≠ [] ∨ x.length = 0 := by
  by_cases h : Txt.split x y = []
  · refine .inr ?_
    have := StrLaws.join_split x y
    rw [h] at this
    rw [← this]; rfl
  · exact .inl h
theorem split_len (x y : Str) : lenS (Txt.split x y) + (Txt.split x y).length * y.length ≤ x.length + y.length := by
  rcases split_ne x y with h | h
  · rw [← len_join y h, StrLaws.join_split]; exact Nat.le_refl _
  · by_cases h2 : Txt.split x y = []
    · rw [h2]; show 0 + 0 * _ ≤ _; omega
    · rw [← len_join y h2, StrLaws.join_split]; exact Nat.le_refl _
theorem lenS_rev (ps : List Str) : lenS ps.reverse = lenS ps := by
  unfold lenS
  rw [List.map_reverse, List.sum_reverse]
theorem strsOf_map : ∀ ps : List Str, strsOf (ps.map D.str) = some ps
  | [] => rfl
  | p :: ps => by
    show (strsOf (ps.map D.str)).map (fun ys => p :: ys) = _
    rw [strsOf_map ps]; rfl
theorem join_len (y : Str) (ps : List Str) : (Str.join y ps).length ≤ lenS ps + ps.length * y.length := by
  by_cases h : ps = []
  · subst h; exact Nat.zero_le _
  · have := len_join y h; omega
theorem tjoin (y : Str) (ps : List Str) : Txt.join y ps = Str.join y ps := TL.join_eq y ps
theorem joinOk_of {y : Str} {ps : List Str} (h : lenS ps + ps.length * y.length ≤ 1000000) : joinOk y ps = true := decide_eq_true h
/-- places -/
theorem atI_nat {α : Type} {xs : List α} {r : Int} (h0 : 0 ≤ r) (h1 : r < xs.length) : ∃ d, atI xs r = some d ∧ d ∈ xs := by
  unfold atI ixN
  rw [if_pos h0, if_pos h1]
  have : r.toNat < xs.length := by omega
  exact ⟨xs[r.toNat], by simp [this], List.getElem_mem this⟩
theorem ix_lst {S : DS} {n : Nat} {xs : List D} {r : Int} {d : D} (h : S.h[n]? = some (.lst xs)) (e : atI xs r = some d) : oIx (.ref n) (.int r) S = .ok d S := by
  show (match S.h[n]?, D.int r with
    | some (.lst xs), .int i => match atI xs i with
      | some d => Res.ok d S
      | none => .stuck
    | some (.dct kvs), y => match keyOf y with
      | some k => match valD kvs k with
        | some d => .ok d S
        | none => .stuck
      | none => .stuck
    | some (.fdct kvs), y => match keyOf y with
      | some k => match valD kvs k with
        | some d => .ok d S
        | none => .stuck
      | none => .stuck
    | _, _ => .stuck) = _
  rw [h]
  dsimp only
  rw [e]
@[simp] theorem z_pyS (S : DS) (x : Str) : pyD S (.str x) = some (.str x) := rfl
@[simp] theorem z_pyI (S : DS) (i : Int) : pyD S (.int i) = some (.int i) := rfl
theorem ne_str {S : DS} {x y : Str} (gx : SeqAt.shaped (.str x) = true) (gy : SeqAt.shaped (.str y) = true) : oNe (.str x) (.str y) S = .ok (.bl (!(x == y))) S := by
  unfold oNe
  rw [z_pyS, z_pyS]
  dsimp only
  rw [if_pos (by rw [gx, gy]; rfl)]
  rfl
theorem eq_str {S : DS} {x y : Str} (gx : SeqAt.shaped (.str x) = true) (gy : SeqAt.shaped (.str y) = true) : oEq (.str x) (.str y) S = .ok (.bl (x == y)) S := by
  unfold oEq
  rw [z_pyS, z_pyS]
  dsimp only
  rw [if_pos (by rw [gx, gy]; rfl)]
  rfl
/-- repr of a value whose data are known -/
theorem repr_of {S : DS} {d : D} {p : PyData} (h : pyD S d = some p) (ok : (PyData.showable p && !p.hasDict && decide (p.depth ≤ 30) && decide (p.shown.length ≤ 1000000)) = true) : cRepr [d] S = .ok (.str p.shown) S := by
  unfold cRepr
  dsimp only
  rw [h]
  dsimp only
  rw [mxL_eq, if_pos ok]
section
variable {S : DS} {x y : Str} {n : Nat}
@[simp] theorem z_revS : oRev (.str x) S = if x.length ≤ mxL then .ok (.str (revS x)) S else .stuck := rfl
@[simp] theorem z_revL : oRev (.ref n) S = match S.h[n]? with
  | some (.lst xs) => newO (.lst xs.reverse) S
  | _ => .stuck := rfl
@[simp] theorem z_joinR : mJoin (.str x) [.ref n] S = match S.h[n]? with
  | some (.lst xs) => match strsOf xs with
    | some ys => if joinOk x ys then .ok (.str (Txt.join x ys)) S else .stuck
    | none => .stuck
  | _ => .stuck := rfl
@[simp] theorem z_joinT (xs : List D) : mJoin (.str x) [.tup xs] S = match strsOf xs with
  | some ys => if joinOk x ys then .ok (.str (Txt.join x ys)) S else .stuck
  | none => .stuck := rfl
@[simp] theorem z_tupT (xs : List D) : cTuple [.tup xs] S = .ok (.tup xs) S := rfl
@[simp] theorem z_tupO (xs : List D) : cTuple [.ro xs] S = .ok (.tup xs) S := rfl
@[simp] theorem z_tupR : cTuple [.ref n] S = match S.h[n]? with
  | some (.lst xs) => .ok (.tup xs) S
  | _ => .stuck := rfl
@[simp] theorem z_listR : cList [.ref n] S = match S.h[n]? with
  | some (.lst xs) => newO (.lst xs) S
  | some (.dct kvs) => newO (.lst (kvs.map fun kv => keyD kv.1)) S
  | _ => .stuck := rfl
@[simp] theorem z_listT (xs : List D) : cList [.tup xs] S = newO (.lst xs) S := rfl
@[simp] theorem z_isi (d : D) (t : String) : cIsi [d, .ty t] S = match tyName S d with
  | some m => match isaB m t with
    | some b => .ok (.bl b) S
    | none => .stuck
  | none => .stuck := rfl
@[simp] theorem z_tyS : tyName S (.str x) = some "str" := rfl
@[simp] theorem z_tyI (i : Int) : tyName S (.int i) = some "int" := rfl
@[simp] theorem z_tyB (b : Bool) : tyName S (.bl b) = some "bool" := rfl
@[simp] theorem z_tyN : tyName S .non = some "NoneType" := rfl
@[simp] theorem z_tyT (xs : List D) : tyName S (.tup xs) = some "tuple" := rfl
@[simp] theorem z_tyR : tyName S (.ref n) = match S.h[n]? with
  | some (.lst _) => some "list"
  | some (.dct _) => some "dict"
  | some (.fdct _) => some "dict"
  | none => none := rfl
@[simp] theorem z_raise1 (cls f : Str) (a : DA) (S : DS) : sRaise1 cls f a S = (a S).bind fun ds S1 => match ds with
  | [d] => .exc ⟨cls, [(f, d)]⟩ S1
  | _ => .stuck := rfl
@[simp] theorem z_raise0 (cls : Str) (S : DS) : sRaise0 cls S = .exc ⟨cls, []⟩ S := rfl
end
theorem ok_sForK {i n : Nat} {g : DG} {b : DSt} {K : Fl → DS → Res Fl} {Q : Fl → DS → Prop} {S : DS} {kvs : List (Key × D)} (I : DS → Prop) (hi : S.loc[i]? = some (some (.ref n))) (hn : S.h[n]? = some (.dct kvs)) (i0 : I { S with h := S.h.set n (.fdct kvs) })
    (step : ∀ d ∈ kvs.map (fun kv => keyD kv.1), ∀ S, I S → ∃ S1, g d S = some S1 ∧ Ok (b S1) fun f S2 => (f = .next ∨ f = .cont) ∧ I S2) (hI : ∀ S, I S → ∃ k2, S.h[n]? = some (.fdct k2)) (k : ∀ S', I S' → Ok (K .next { S' with h := S'.h.set n (.dct kvs) }) Q) :
    Ok ((sForK i g b S).bind K) Q := by
  obtain ⟨S', e, i'⟩ := forV_inv (g := g) (b := b) (kvs.map fun kv => keyD kv.1) _ i0 fun d hd S ii => by
    obtain ⟨S1, e1, o⟩ := step d hd S ii
    obtain ⟨f, S2, e2, hf, i2⟩ := o.ex
    exact ⟨S1, e1, f, S2, e2, hf, i2⟩
  obtain ⟨k2, h2⟩ := hI S' i'
  unfold sForK
  rw [hi]
  dsimp only
  rw [hn]
  dsimp only
  rw [e]
  dsimp only
  rw [h2]
  exact k S' i'
theorem ok_sForV {it : DS → Res Iter0} {g : DG} {b : DSt} {K : Fl → DS → Res Fl} {Q : Fl → DS → Prop} {S S0 : DS} {xs : List D} (hi : it S = .ok (.vals xs) S0) (I : DS → Prop) (i0 : I S0) (step : ∀ d ∈ xs, ∀ S, I S → ∃ S1, g d S = some S1 ∧ Ok (b S1) fun f S2 => (f = .next ∨ f = .cont) ∧ I S2)
    (k : ∀ S', I S' → Ok (K .next S') Q) : Ok ((sFor it g b S).bind K) Q := by
  unfold sFor
  rw [hi]
  exact ok_forV I i0 step k
theorem rng_one (j : Int) (h : -1000000 ≤ j ∧ j ≤ 1000000) (S : DS) : dRng (dCons (dC (.int j)) dNil) S = .ok (.vals (rgD 0 j.toNat)) S := by
  unfold dRng
  simp [h]
theorem mem_rgD {lo : Int} {n : Nat} {d : D} (h : d ∈ rgD lo n) : ∃ i : Int, d = .int i ∧ lo ≤ i ∧ i < lo + n := by
  unfold rgD at h
  obtain ⟨k, hk, rfl⟩ := List.mem_map.mp h
  have := List.mem_range.mp hk
  exact ⟨_, rfl, by omega, by omega⟩
end Den

namespace Den
open PySem L2

/-! ### 40. rules of reckoning, more -/
section
variable {S : DS} {i j : Int} {x y : Str} {n m : Nat}
@[simp] theorem z_tTr (a : DE) (S : DS) : tTr a S = (a S).bind toTru := rfl
@[simp] theorem z_truB (b : Bool) : toTru (.bl b) S = .ok b S := rfl
@[simp] theorem z_truN : toTru .non S = .ok false S := rfl
@[simp] theorem z_truI : toTru (.int i) S = .ok (i != 0) S := rfl
@[simp] theorem z_truT (xs : List D) : toTru (.tup xs) S = .ok (!xs.isEmpty) S := rfl
@[simp] theorem z_truR : toTru (.ref n) S = match S.h[n]? with
  | some (.lst xs) => .ok (!xs.isEmpty) S
  | some (.dct kvs) => .ok (!kvs.isEmpty) S
  | _ => .stuck := rfl
@[simp] theorem z_chain (f g : D → D → DS → Res D) (a b c : DE) (S : DS) : dChain f g a b c S = (a S).bind fun x S1 => (b S1).bind fun y S2 => (f x y S2).bind fun k S3 => (toB k S3).bind fun k S4 => if k then (c S4).bind fun z S5 => g y z S5 else .ok (.bl false) S4 := rfl
@[simp] theorem z_all : cAll [.ref n] S = match S.h[n]? with
  | some (.lst xs) => match blsOf xs with
    | some bs => .ok (.bl (bs.all id)) S
    | none => .stuck
  | _ => .stuck := rfl
@[simp] theorem z_strI : cStr [.int i] S = if i.natAbs.log2 < 1920 then .ok (.str (toString i)) S else .stuck := rfl
@[simp] theorem z_strS : cStr [.str x] S = .ok (.str x) S := rfl
@[simp] theorem z_intAI : cIntA [.int i] S = .ok (.int i) S := rfl
@[simp] theorem z_intAB (b : Bool) : cIntA [.bl b] S = .ok (.int (if b then 1 else 0)) S := rfl
@[simp] theorem z_intAS : cIntA [.str x] S = if x.length ≤ 640 then match PySem.intText? x with
    | some n => .ok (.int n) S
    | none => .stuck else .stuck := rfl
@[simp] theorem z_extend : mExtend (.ref n) [.ref m] S = match S.h[n]?, S.h[m]? with
  | some (.lst xs), some (.lst zs) => if xs.length + zs.length ≤ mxL then .ok .non { S with h := S.h.set n (.lst (xs ++ zs)) } else .stuck
  | _, _ => .stuck := rfl
@[simp] theorem z_ixI : oIx (.ref n) (.int i) S = match S.h[n]? with
  | some (.lst xs) => match atI xs i with
    | some d => .ok d S
    | none => .stuck
  | some (.dct kvs) => match valD kvs (.inl i) with
    | some d => .ok d S
    | none => .stuck
  | some (.fdct kvs) => match valD kvs (.inl i) with
    | some d => .ok d S
    | none => .stuck
  | none => .stuck := by
  unfold oIx
  dsimp only
  cases S.h[n]? with
  | none => rfl
  | some ob => cases ob <;> rfl
@[simp] theorem z_neg (a : DE) (S : DS) : dNeg a S = (a S).bind fun d S1 => match d with
  | .int i => .ok (.int (-i)) S1
  | _ => .stuck := rfl
@[simp] theorem z_kget (tbl : List (Str × D)) (a : DE) (S : DS) : dKGet tbl a S = (a S).bind fun d S1 => match d with
  | .str x => .ok ((tbl.lookup x).getD .non) S1
  | _ => .stuck := rfl
@[simp] theorem z_starts : mStarts (.str x) [.str y] S = .ok (.bl (Txt.startswith x y)) S := rfl
@[simp] theorem z_dNot (a : DE) (S : DS) : dNot a S = (a S).bind fun d S1 => (toB d S1).bind fun c S2 => .ok (.bl (!c)) S2 := rfl
@[simp] theorem z_tTrue (S : DS) : tTrue S = .ok true S := rfl
@[simp] theorem z_mulL : oMulA (.ref n) (.int j) S = match S.h[n]? with
  | some (.lst xs) => if -1000000 ≤ j ∧ j ≤ 1000000 ∧ xs.length * j.toNat ≤ mxL then newO (.lst (List.replicate j.toNat xs).flatten) S else .stuck
  | _ => .stuck := rfl
end
/-! data -/
theorem mapM_strs (S : DS) (us : List Str) : (us.map D.str).mapM (pyD S) = some (us.map PyData.str) := toPy_strs S.h 20 us
theorem canLay_strs : ∀ {us : List Str}, (∀ u ∈ us, Good u) → PyData.canLayAll0 (us.map PyData.str) = true
  | [], _ => rfl
  | u :: us, h => by
    show (PyData.canLay0 (.str u) && PyData.canLayAll0 (us.map PyData.str)) = true
    rw [SeqAt.canLay_of_shaped (h u (by simp)).shaped, canLay_strs fun v hv => h v (List.mem_cons_of_mem _ hv)]; rfl
theorem depth_strs : ∀ us : List Str, PyData.depthAll (us.map PyData.str) = 0
  | [] => rfl
  | u :: us => by
    show max 0 (PyData.depthAll (us.map PyData.str)) = 0
    rw [depth_strs us]; rfl
theorem shaped_strsT {us : List Str} (h : ∀ u ∈ us, Good u) : SeqAt.shaped (.tuple (us.map PyData.str)) = true := by
  unfold SeqAt.shaped
  show (PyData.canLayAll0 (us.map PyData.str) && decide (PyData.depthAll (us.map PyData.str) + 1 ≤ 64)) = true
  rw [canLay_strs h, depth_strs]; rfl
theorem shaped_strsL {us : List Str} (h : ∀ u ∈ us, Good u) : SeqAt.shaped (.list (us.map PyData.str)) = true := by
  unfold SeqAt.shaped
  show (PyData.canLayAll0 (us.map PyData.str) && decide (PyData.depthAll (us.map PyData.str) + 1 ≤ 64)) = true
  rw [canLay_strs h, depth_strs]; rfl
theorem any_strs (a : Str) : ∀ us : List Str, (us.map PyData.str).any (fun z => PyData.eqv z (.str a)) = us.any (fun u => u == a)
  | [] => rfl
  | u :: us => by
    rw [List.map_cons, List.any_cons, List.any_cons, any_strs a us]
    rfl
/-- a text among the texts of a tuple -/
theorem in_strs {S : DS} {a : Str} {us : List Str} (ga : Good a) (gu : ∀ u ∈ us, Good u) : inD (.str a) (.tup (us.map D.str)) S = some (us.any fun u => u == a) := by
  show (match pyD S (.str a), (us.map D.str).mapM (pyD S) with
    | some p, some ps => if SeqAt.shaped p && SeqAt.shaped (.tuple ps) then some (ps.any fun z => PyData.eqv z p) else none
    | _, _ => none) = _
  rw [mapM_strs, z_pyS]
  dsimp only
  rw [ga.shaped, shaped_strsT gu, if_pos (by rfl), any_strs]
theorem pyD_lst {S : DS} {n : Nat} {xs : List D} (h : S.h[n]? = some (.lst xs)) : pyD S (.ref n) = (xs.mapM (toPy S.h 19)).map PyData.list := by
  show (match S.h[n]? with | some (.lst xs) => (xs.mapM (toPy S.h 19)).map PyData.list | _ => none) = _
  rw [h]
/-- a list of texts, and the empty one -/
theorem ne_strs {S : DS} {n m : Nat} {us : List Str} (g : ∀ u ∈ us, Good u) (hn : S.h[n]? = some (.lst (us.map D.str))) (hm : S.h[m]? = some (.lst [])) : oNe (.ref n) (.ref m) S = .ok (.bl (!us.isEmpty)) S := by
  unfold oNe
  rw [pyD_lst hn, pyD_lst hm, toPy_strs]
  show (if SeqAt.shaped (.list (us.map PyData.str)) && SeqAt.shaped (.list []) then Res.ok (D.bl (!PyData.eqv (.list (us.map PyData.str)) (.list []))) S else .stuck) = _
  rw [shaped_strsL g, if_pos (by rfl)]
  cases us <;> rfl
/-! a comprehension whose turns change nothing -/
def PureT (g : DG) (t : DT) (e : DE) (f : D → Option D) (S : DS) (d : D) : Prop := ∃ S0, g d S = some S0 ∧ match f d with
  | none => Ok (t S0) fun c S1 => c = false ∧ S1.h = S.h
  | some y => Ok (t S0) fun c S1 => c = true ∧ Ok (e S1) fun z S2 => z = y ∧ S2.h = S.h
theorem compT_pure {g : DG} {t : DT} {e : DE} {f : D → Option D} {S : DS} {d : D} (p : PureT g t e f S d) {acc : List D} (hl : acc.length < 1000000) : ∃ S0 S1, g d S = some S0 ∧ S1.h = S.h ∧ compT t e S0 acc = .ok (acc ++ (f d).toList) S1 := by
  obtain ⟨S0, h1, h3⟩ := p
  unfold compT
  split at h3
  · rename_i hf
    obtain ⟨c, S1, e1, rfl, h2⟩ := h3.ex
    refine ⟨S0, S1, h1, h2, ?_⟩
    rw [e1, Res.only_ok, if_neg (by decide), hf]
    simp
  · rename_i y hf
    obtain ⟨c, S1, e1, rfl, h4⟩ := h3.ex
    obtain ⟨z, S2, e2, rfl, h2⟩ := h4.ex
    refine ⟨S0, S2, h1, h2, ?_⟩
    rw [e1, Res.only_ok, if_pos rfl, e2, Res.only_ok, mxL_eq, if_pos hl, hf]
    rfl
@[simp] theorem wipe0 (ls : List (Option D)) : wipeD ls [] = ls := rfl
@[simp] theorem wipe1 (ls : List (Option D)) (v : Nat) (vs : List Nat) : wipeD ls (v :: vs) = (wipeD ls vs).set v none := rfl
theorem compV_pure {g : DG} {t : DT} {e : DE} {w : List (Option D)} {h : List Ob} (f : D → Option D) : ∀ (xs acc : List D), acc.length + xs.length ≤ 1000000 → (∀ d ∈ xs, PureT g t e f ⟨w, h⟩ d) → compV g t e w xs acc h = .ok (acc ++ xs.filterMap f) ⟨w, h⟩
  | [], acc, _, _ => by
    unfold compV; simp
  | d :: ds, acc, hl, p => by
    simp only [List.length_cons] at hl
    obtain ⟨S0, S1, h1, h2, h3⟩ := compT_pure (p d (by simp)) (acc := acc) (by omega)
    unfold compV
    rw [h1]
    dsimp only
    rw [h3, Res.only_ok, show S1.h = h from h2]
    have hz : (f d).toList.length ≤ 1 := by cases f d <;> simp
    rw [compV_pure f ds (acc ++ (f d).toList) (by rw [List.length_append]; omega) fun z hz => p z (List.mem_cons_of_mem _ hz)]
    rw [List.filterMap_cons]
    cases f d <;> simp
theorem compO_pure {g : DG} {t : DT} {e : DE} {w : List (Option D)} {h : List Ob} {it : List Ob → Nat → Option (Option D)} {xs : List D} (f : D → Option D) (hx : ∀ i, it h i = some xs[i]?) : ∀ (k i : Nat) (acc : List D), xs.length < i + k → i ≤ xs.length → acc.length + (xs.length - i) ≤ 1000000 → (∀ d ∈ xs, PureT g t e f ⟨w, h⟩ d) →
    compO it g t e w k i acc h = .ok (acc ++ (xs.drop i).filterMap f) ⟨w, h⟩
  | 0, i, acc, h1, h2, _, _ => by omega
  | k + 1, i, acc, hk, hi, hl, p => by
    unfold compO
    rw [hx i]
    by_cases lt : i < xs.length
    · rw [List.getElem?_eq_getElem lt]
      dsimp only
      obtain ⟨S0, S1, h1, h2, h3⟩ := compT_pure (p xs[i] (List.getElem_mem lt)) (acc := acc) (by omega)
      rw [h1]
      dsimp only
      rw [h3, Res.only_ok, show S1.h = h from h2]
      have hz : (f xs[i]).toList.length ≤ 1 := by cases f xs[i] <;> simp
      rw [compO_pure f hx k (i + 1) (acc ++ (f xs[i]).toList) (by omega) (by omega) (by rw [List.length_append]; omega) p]
      rw [List.drop_eq_getElem_cons lt, List.filterMap_cons]
      cases f xs[i] <;> simp
    · have e0 : i = xs.length := by omega
      subst e0
      rw [List.getElem?_eq_none (Nat.le_refl _), List.drop_length]
      simp
/-- what it walks are xs -/
def Over (I : Iter0) (xs : List D) (h : List Ob) : Prop := match I with
  | .vals ys => ys = xs
  | .dyn f => ∀ i, f h i = some xs[i]?
theorem comp_pure {vs : List Nat} {it : DS → Res Iter0} {g : DG} {t : DT} {e : DE} {S S1 : DS} {I : Iter0} {xs : List D} (f : D → Option D) (hi : it S = .ok I S1) (ov : Over I xs S1.h) (hl : xs.length < 100000) (hp : ∀ d ∈ xs, PureT g t e f ⟨wipeD S1.loc vs, S1.h⟩ d) :
    dComp vs it g t e S = .ok (.ref S1.h.length) ⟨S1.loc, S1.h ++ [.lst (xs.filterMap f)]⟩ := by
  unfold dComp
  rw [hi, Res.bind_ok]
  cases I with
  | vals ys =>
    obtain rfl : ys = xs := ov
    dsimp only
    rw [compV_pure f ys [] (by simp; omega) hp]
    rfl
  | dyn it2 =>
    dsimp only
    rw [compO_pure f ov 100000 0 [] (by omega) (by omega) (by simp; omega) hp]
    simp
theorem over_lst {n : Nat} {xs : List D} {h : List Ob} (e : h[n]? = some (.lst xs)) : Over (.dyn (lstIt n)) xs h := fun i => lstIt_of e i
theorem iter_ref {a : DE} {S S1 : DS} {n : Nat} {xs : List D} (h : a S = .ok (.ref n) S1) (e : S1.h[n]? = some (.lst xs)) : dIter a S = .ok (.dyn (lstIt n)) S1 := by
  unfold dIter
  rw [h, Res.bind_ok]
  show (match S1.h[n]? with | some (.lst _) => Res.ok (Iter0.dyn (lstIt n)) S1 | _ => .stuck) = _
  rw [e]
theorem iter_tup {a : DE} {S S1 : DS} {xs : List D} (h : a S = .ok (.tup xs) S1) : dIter a S = .ok (.vals xs) S1 := by
  unfold dIter
  rw [h, Res.bind_ok]
  rfl
theorem iter_str {a : DE} {S S1 : DS} {x : Str} (h : a S = .ok (.str x) S1) : dIter a S = .ok (.vals (x.cps.toList.map fun c => .str ⟨#[c]⟩)) S1 := by
  unfold dIter
  rw [h, Res.bind_ok]
  rfl
theorem fm_some {α β : Type} (f : α → β) : ∀ xs : List α, xs.filterMap (fun x => some (f x)) = xs.map f
  | [] => rfl
  | x :: xs => by rw [List.filterMap_cons, List.map_cons, fm_some f xs]
@[simp] theorem at_app0 (h l : List Ob) : (h ++ l)[h.length]? = l[0]? := by
  rw [List.getElem?_append_right (Nat.le_refl _), Nat.sub_self]
@[simp] theorem at_appk (h l : List Ob) (k : Nat) : (h ++ l)[h.length + k]? = l[k]? := by
  rw [List.getElem?_append_right (Nat.le_add_right _ _), Nat.add_sub_cancel_left]
theorem cut_tl (x : D) (xs : List D) : Den.cutD (x :: xs) (some 1) none = xs := by
  have e : HT.sIx (x :: xs).length 0 (some 1) = 1 := by
    unfold HT.sIx
    simp
  unfold Den.cutD
  rw [e]
  show List.take ((x :: xs).length - 1) (List.drop 1 (x :: xs)) = xs
  simp
theorem iter_tail {i n : Nat} {S : DS} {x : D} {xs : List D} (h1 : S.loc[i]? = some (some (.ref n))) (h2 : S.h[n]? = some (.lst (x :: xs))) : dIter (dSl (dVar i) (dPS (dC (.int 1))) dPN) S = .ok (.dyn (lstIt S.h.length)) ⟨S.loc, S.h ++ [.lst xs]⟩ := by
  refine iter_ref (xs := xs) ?_ (at_new _ _)
  simp [h1, h2, z_slL, cut_tl]
theorem oIn_strs {S : DS} {a : Str} {us : List Str} (ga : Good a) (gu : ∀ u ∈ us, Good u) : oIn (.str a) (.tup (us.map D.str)) S = .ok (.bl (us.any fun u => u == a)) S := by
  unfold oIn; rw [in_strs ga gu]
theorem oNotIn_strs {S : DS} {a : Str} {us : List Str} (ga : Good a) (gu : ∀ u ∈ us, Good u) : oNotIn (.str a) (.tup (us.map D.str)) S = .ok (.bl (!us.any fun u => u == a)) S := by
  unfold oNotIn; rw [in_strs ga gu]
/-! texts -/
theorem one_of {c d : Nat} : ((⟨#[c]⟩ : Str) == ⟨#[d]⟩) = (c == d) := by
  by_cases h : c = d
  · subst h; simp
  · have : ((⟨#[c]⟩ : Str) == ⟨#[d]⟩) = false := by
      apply beq_false_of_ne
      intro z
      injection z with z
      simp at z
      exact h z
    rw [this]
    simp [h]
theorem starts_cut (x y : Str) : Txt.startswith x y = (cutS x none (some y.length) == y) := by
  unfold Txt.startswith
  rw [StrLaws.subAt_eq]
  have e : (cutS x none (some (y.length : Int))).cps.toList = x.cps.toList.take y.length := by
    unfold cutS HT.sIx
    simp only [List.drop_zero]
    rw [if_neg (by omega)]
    simp
    have e3 : x.length = x.cps.size := rfl
    omega
  have e2 : (cutS x none (some (y.length : Int)) == y) = (x.cps.toList.take y.length == y.cps.toList) := by
    rw [← e]
    by_cases h : cutS x none (some (y.length : Int)) = y
    · rw [h]; simp
    · rw [beq_false_of_ne h]
      symm
      apply beq_false_of_ne
      intro z
      apply h
      cases h1 : cutS x none (some (y.length : Int)) with
      | mk a =>
        cases y with
        | mk b =>
          rw [h1] at z
          simp at z
          rw [z]
  rw [e2, List.drop_zero]
  by_cases h : x.cps.toList.take y.length = y.cps.toList
  · have : y.length ≤ x.length := by
      have := congrArg List.length h
      simp at this
      show y.cps.size ≤ x.cps.size
      have e3 : y.length = y.cps.size := rfl
      omega
    simp [h, this]
  · simp [h]
theorem str0 {x : Str} (h : x.length = 0) : x = ⟨#[]⟩ := by
  cases x with
  | mk a =>
    have : a.size = 0 := h
    rw [Array.size_eq_zero_iff.mp this]
theorem split_some {x y : Str} (h0 : Txt.split ⟨#[]⟩ y ≠ []) : ∃ w ws, Txt.split x y = w :: ws := by
  rcases split_ne x y with h | h
  · match e : Txt.split x y, h with
    | w :: ws, _ => exact ⟨w, ws, rfl⟩
  · rw [str0 h]
    match e : Txt.split ⟨#[]⟩ y, h0 with
    | w :: ws, _ => exact ⟨w, ws, rfl⟩
theorem split_count {x y : Str} (hy : 1 ≤ y.length) : (Txt.split x y).length ≤ x.length + y.length := by
  have := split_len x y
  have h : (Txt.split x y).length * 1 ≤ (Txt.split x y).length * y.length := Nat.mul_le_mul_left _ hy
  omega
theorem le_lenS {p : Str} : ∀ {ps : List Str}, p ∈ ps → p.length ≤ lenS ps
  | q :: ps, h => by
    show p.length ≤ q.length + lenS ps
    rcases List.mem_cons.mp h with rfl | h
    · omega
    · have := le_lenS h; omega
theorem split_each {x y : Str} {p : Str} (h : p ∈ Txt.split x y) : p.length ≤ lenS (Txt.split x y) := by
  exact le_lenS h
end Den

namespace Den
open PySem L2

/-! ### 50. data whose repr is short -/
structure Sm (p : PyData) (n d : Nat) : Prop where
  s : PyData.showable p = true
  h : p.hasDict = false
  d : p.depth ≤ d
  l : p.shown.length ≤ n
  g : Good p.shown
def smB (p : PyData) (n d : Nat) : Bool := PyData.showable p && !p.hasDict && decide (p.depth ≤ d) && decide (p.shown.length ≤ n) && goodB p.shown
theorem sm_of {p : PyData} {n d : Nat} (h : smB p n d = true) : Sm p n d := by
  unfold smB at h
  simp only [Bool.and_eq_true, Bool.not_eq_true', decide_eq_true_eq] at h
  exact ⟨h.1.1.1.1, h.1.1.1.2, h.1.1.2, h.1.2, good_of h.2⟩
theorem Sm.le {p : PyData} {n d n' d' : Nat} (a : Sm p n d) (h : n ≤ n') (h2 : d ≤ d') : Sm p n' d' := ⟨a.s, a.h, Nat.le_trans a.d h2, Nat.le_trans a.l h, a.g⟩
theorem shownAll_map : ∀ ps : List PyData, PyData.shownAll ps = ps.map PyData.shown
  | [] => by unfold PyData.shownAll; rfl
  | p :: ps => by
    unfold PyData.shownAll
    rw [List.map_cons, shownAll_map ps]
theorem showableAll_of : ∀ {ps : List PyData}, (∀ p ∈ ps, PyData.showable p = true) → PyData.showableAll ps = true
  | [], _ => by unfold PyData.showableAll; rfl
  | p :: ps, h => by
    unfold PyData.showableAll
    rw [h p (by simp), showableAll_of fun q hq => h q (List.mem_cons_of_mem _ hq)]; rfl
theorem hasDictAll_of : ∀ {ps : List PyData}, (∀ p ∈ ps, p.hasDict = false) → PyData.hasDictAll ps = false
  | [], _ => by unfold PyData.hasDictAll; rfl
  | p :: ps, h => by
    unfold PyData.hasDictAll
    rw [h p (by simp), hasDictAll_of fun q hq => h q (List.mem_cons_of_mem _ hq)]; rfl
theorem depthAll_of {d : Nat} : ∀ {ps : List PyData}, (∀ p ∈ ps, p.depth ≤ d) → PyData.depthAll ps ≤ d
  | [], _ => by unfold PyData.depthAll; omega
  | p :: ps, h => by
    unfold PyData.depthAll
    have h1 := h p (by simp)
    have h2 := depthAll_of fun q hq => h q (List.mem_cons_of_mem _ hq)
    omega
theorem lenS_le {n : Nat} : ∀ {ps : List Str}, (∀ p ∈ ps, p.length ≤ n) → lenS ps ≤ ps.length * n
  | [], _ => by show 0 ≤ _; omega
  | p :: ps, h => by
    show p.length + lenS ps ≤ (ps.length + 1) * n
    have h1 := h p (by simp)
    have h2 := lenS_le fun q hq => h q (List.mem_cons_of_mem _ hq)
    rw [Nat.add_mul, Nat.one_mul]
    omega
theorem textFrom_le : ∀ (ts : List Str) (k : Nat) (acc : Str), (PySem.textFrom k acc ts).length ≤ acc.length + lenS ts + 2 * ts.length ∧ (Good acc → (∀ t ∈ ts, Good t) → Good (PySem.textFrom k acc ts))
  | [], k, acc => ⟨by show acc.length ≤ acc.length + 0 + 2 * 0; omega, fun g _ => g⟩
  | t :: r, k, acc => by
    obtain ⟨h1, h2⟩ := textFrom_le r (k + 1) (acc ++ (if k > 0 then ", " else "" : String) ++ t)
    have e : (acc ++ (if k > 0 then ", " else "" : String) ++ t).length ≤ acc.length + 2 + t.length := by
      rw [len_app, len_app]
      split
      · show _ + (Str.ofString ", ").length + _ ≤ _
        rw [show (Str.ofString ", ").length = 2 by decide +kernel]; omega
      · show _ + (Str.ofString "").length + _ ≤ _
        rw [show (Str.ofString "").length = 0 by decide +kernel]; omega
    refine ⟨?_, fun g gt => ?_⟩
    · show (PySem.textFrom (k + 1) (acc ++ (if k > 0 then ", " else "" : String) ++ t) r).length ≤ acc.length + (t.length + lenS r) + 2 * (r.length + 1)
      omega
    · refine h2 ((g.app ?_).app (gt t (by simp))) fun z hz => gt z (List.mem_cons_of_mem _ hz)
      split
      · exact good_of (by decide +kernel)
      · exact good_of (by decide +kernel)
theorem shown_mem {ps : List PyData} {n d : Nat} (h : ∀ p ∈ ps, Sm p n d) : (∀ t ∈ ps.map PyData.shown, t.length ≤ n) ∧ ∀ t ∈ ps.map PyData.shown, Good t :=
  ⟨fun t ht => by obtain ⟨p, hp, rfl⟩ := List.mem_map.mp ht; exact (h p hp).l, fun t ht => by obtain ⟨p, hp, rfl⟩ := List.mem_map.mp ht; exact (h p hp).g⟩
theorem sm_list {ps : List PyData} {n d : Nat} (h : ∀ p ∈ ps, Sm p n d) : Sm (.list ps) (ps.length * (n + 2) + 2) (d + 1) := by
  obtain ⟨h1, h2⟩ := shown_mem h
  have e : PyData.shown (.list ps) = PySem.textFrom 0 "[" (ps.map PyData.shown) ++ "]" := by
    unfold PyData.shown
    rw [shownAll_map]; rfl
  obtain ⟨t1, t2⟩ := textFrom_le (ps.map PyData.shown) 0 "["
  refine ⟨?_, ?_, ?_, ?_, ?_⟩
  · unfold PyData.showable; exact showableAll_of fun p hp => (h p hp).s
  · unfold PyData.hasDict; exact hasDictAll_of fun p hp => (h p hp).h
  · unfold PyData.depth
    have := depthAll_of fun p hp => (h p hp).d
    omega
  · rw [e, len_app, show (("]" : String) : Str).length = 1 by decide +kernel]
    have l1 := lenS_le h1
    rw [List.length_map] at l1 t1
    rw [show (("[" : String) : Str).length = 1 by decide +kernel] at t1
    rw [Nat.mul_add]
    omega
  · rw [e]
    exact (t2 (good_of (by decide +kernel)) h2).app (good_of (by decide +kernel))
theorem sm_tup {ps : List PyData} {n d : Nat} (h : ∀ p ∈ ps, Sm p n d) : Sm (.tuple ps) (ps.length * (n + 2) + 3) (d + 1) := by
  obtain ⟨h1, h2⟩ := shown_mem h
  have e : PyData.shown (.tuple ps) = ("(" : Str) ++ Str.join ", " (ps.map PyData.shown) ++ (if (ps.map PyData.shown).length == 1 then ",)" else ")" : String) := by
    unfold PyData.shown
    rw [shownAll_map]; rfl
  refine ⟨?_, ?_, ?_, ?_, ?_⟩
  · unfold PyData.showable; exact showableAll_of fun p hp => (h p hp).s
  · unfold PyData.hasDict; exact hasDictAll_of fun p hp => (h p hp).h
  · unfold PyData.depth
    have := depthAll_of fun p hp => (h p hp).d
    omega
  · rw [e, len_app, len_app, show (("(" : String) : Str).length = 1 by decide +kernel]
    have l1 := lenS_le h1
    have l2 := join_len ", " (ps.map PyData.shown)
    rw [List.length_map] at l1 l2
    rw [show ((", " : String) : Str).length = 2 by decide +kernel] at l2
    rw [Nat.mul_add]
    have l3 : ((if (ps.map PyData.shown).length == 1 then ",)" else ")" : String) : Str).length ≤ 2 := by split <;> decide +kernel
    omega
  · rw [e]
    refine ((good_of (by decide +kernel)).app (good_join (good_of (by decide +kernel)) h2)).app ?_
    split <;> exact good_of (by decide +kernel)
theorem Sm.repr {S : DS} {d : D} {p : PyData} {n k : Nat} (a : Sm p n k) (hn : n ≤ 1000000) (hk : k ≤ 30) (e : pyD S d = some p) : cRepr [d] S = .ok (.str p.shown) S := by
  refine repr_of e ?_
  rw [a.s, a.h, decide_eq_true (Nat.le_trans a.d hk), decide_eq_true (Nat.le_trans a.l hn)]
  rfl
theorem Sm.ne {S : DS} {p : PyData} {n k : Nat} (a : Sm p n k) : oNe (.str p.shown) (.str p.shown) S = .ok (.bl false) S := by
  rw [ne_str a.g.shaped a.g.shaped]; simp
theorem Sm.eq {S : DS} {p : PyData} {n k : Nat} (a : Sm p n k) : oEq (.str p.shown) (.str p.shown) S = .ok (.bl true) S := by
  rw [eq_str a.g.shaped a.g.shaped]; simp
theorem sm_bool (b : Bool) : Sm (.bool b) 5 0 := by cases b <;> exact sm_of (by decide +kernel)
end Den
namespace Den
open PySem L2
/-! ### 51. loops over numbered lists -/
theorem numIt_of {h : List Ob} {n i : Nat} {k : Int} {xs : List D} (e : h[n]? = some (.lst xs)) : numIt k (lstIt n) h i = some (xs[i]?.map fun d => .tup [.int (k + (i : Nat)), d]) := by
  unfold numIt lstIt
  rw [e]
  dsimp only
  cases xs[i]? <;> rfl
theorem g_two (i j : Nat) (a b : D) (S : DS) : gTup 2 (gCons (gN i) (gCons (gN j) gNil)) (.tup [a, b]) S = some { S with loc := (S.loc.set i (some a)).set j (some b) } := rfl
theorem sFor_dyn {it : DS → Res Iter0} {g : DG} {b : DSt} {S S1 : DS} {f : List Ob → Nat → Option (Option D)} (h : it S = .ok (.dyn f) S1) : sFor it g b S = forO f g b 100000 0 S1 := by
  unfold sFor
  rw [h, Res.bind_ok]
theorem sFor_vals {it : DS → Res Iter0} {g : DG} {b : DSt} {S S1 : DS} {xs : List D} (h : it S = .ok (.vals xs) S1) : sFor it g b S = forV g b xs S1 := by
  unfold sFor
  rw [h, Res.bind_ok]
theorem enumS_tail {i n : Nat} {k : Int} {S : DS} {x : D} {xs : List D} (hk : -1000000 ≤ k ∧ k ≤ 1000000) (h1 : S.loc[i]? = some (some (.ref n))) (h2 : S.h[n]? = some (.lst (x :: xs))) : dEnumS (dCons (dSl (dVar i) (dPS (dC (.int 1))) dPN) dNil) (dCons (dC (.int k)) dNil) S = .ok (.dyn (numIt k (lstIt S.h.length))) ⟨S.loc, S.h ++ [.lst xs]⟩ := by
  unfold dEnumS
  simp [h1, h2, z_slL, cut_tl, hk, enumOf]
theorem enum_tail {i n : Nat} {S : DS} {x : D} {xs : List D} (h1 : S.loc[i]? = some (some (.ref n))) (h2 : S.h[n]? = some (.lst (x :: xs))) : dEnum (dCons (dSl (dVar i) (dPS (dC (.int 1))) dPN) dNil) S = .ok (.dyn (numIt 0 (lstIt S.h.length))) ⟨S.loc, S.h ++ [.lst xs]⟩ := by
  unfold dEnum
  simp [h1, h2, z_slL, cut_tl, enumOf]
theorem enum_var {i n : Nat} {S : DS} {xs : List D} (h1 : S.loc[i]? = some (some (.ref n))) (h2 : S.h[n]? = some (.lst xs)) : dEnum (dCons (dVar i) dNil) S = .ok (.dyn (numIt 0 (lstIt n))) S := by
  unfold dEnum
  simp [h1, h2, enumOf]
/-- one turn of a loop -/
theorem forO_end {it : List Ob → Nat → Option (Option D)} {g : DG} {b : DSt} {k i : Nat} {S : DS} (h : it S.h i = some none) : forO it g b (k + 1) i S = .ok .next S := by
  unfold forO; rw [h]
theorem forO_next {it : List Ob → Nat → Option (Option D)} {g : DG} {b : DSt} {k i : Nat} {S S1 S2 : DS} {d : D} (h : it S.h i = some (some d)) (h1 : g d S = some S1) (h2 : b S1 = .ok .next S2) : forO it g b (k + 1) i S = forO it g b k (i + 1) S2 := by
  conv => lhs; unfold forO
  rw [h]; dsimp only; rw [h1]; dsimp only; rw [h2]; rfl
theorem forO_ret {it : List Ob → Nat → Option (Option D)} {g : DG} {b : DSt} {k i : Nat} {S S1 S2 : DS} {d r : D} (h : it S.h i = some (some d)) (h1 : g d S = some S1) (h2 : b S1 = .ok (.ret r) S2) : forO it g b (k + 1) i S = .ok (.ret r) S2 := by
  conv => lhs; unfold forO
  rw [h]; dsimp only; rw [h1]; dsimp only; rw [h2]; rfl
theorem forO_exc {it : List Ob → Nat → Option (Option D)} {g : DG} {b : DSt} {k i : Nat} {S S1 S2 : DS} {d : D} {x : Xn} (h : it S.h i = some (some d)) (h1 : g d S = some S1) (h2 : b S1 = .exc x S2) : forO it g b (k + 1) i S = .exc x S2 := by
  conv => lhs; unfold forO
  rw [h]; dsimp only; rw [h1]; dsimp only; rw [h2]; rfl
end Den

namespace Den
open PySem L2
/-! ### 60. a comprehension whose turns change the heap -/
/-- one turn: from acc and h to what holds of the new ones -/
def TurnJ (g : DG) (t : DT) (e : DE) (w : List (Option D)) (J : List D → List Ob → Prop) (d : D) (acc : List D) (h : List Ob) : Prop := ∃ S0, g d ⟨w, h⟩ = some S0 ∧ Ok (t S0) fun c S2 => if c = true then Ok (e S2) fun y S3 => J (acc ++ [y]) S3.h else J acc S2.h
theorem compT_J {g : DG} {t : DT} {e : DE} {w : List (Option D)} {J : List D → List Ob → Prop} {d : D} {acc : List D} {h : List Ob} (p : TurnJ g t e w J d acc h) (hl : acc.length < 1000000) : ∃ S0 acc2 S1, g d ⟨w, h⟩ = some S0 ∧ compT t e S0 acc = .ok acc2 S1 ∧ J acc2 S1.h ∧ acc2.length ≤ acc.length + 1 := by
  obtain ⟨S0, h1, h3⟩ := p
  obtain ⟨c, S2, e1, h4⟩ := h3.ex
  cases c with
  | true =>
    rw [if_pos rfl] at h4
    obtain ⟨y, S3, e2, j⟩ := h4.ex
    refine ⟨S0, acc ++ [y], S3, h1, ?_, j, by simp⟩
    unfold compT
    rw [e1, Res.only_ok, if_pos rfl, e2, Res.only_ok, mxL_eq, if_pos hl]
  | false =>
    rw [if_neg (by decide)] at h4
    refine ⟨S0, acc, S2, h1, ?_, h4, by omega⟩
    unfold compT
    rw [e1, Res.only_ok, if_neg (by decide)]
theorem compV_J {g : DG} {t : DT} {e : DE} {w : List (Option D)} (J : List D → List Ob → Prop) : ∀ (xs acc : List D) (h : List Ob), acc.length + xs.length ≤ 1000000 → J acc h → (∀ d ∈ xs, ∀ acc h, J acc h → TurnJ g t e w J d acc h) → ∃ acc2 h2, compV g t e w xs acc h = .ok acc2 ⟨w, h2⟩ ∧ J acc2 h2 ∧ acc2.length ≤ acc.length + xs.length
  | [], acc, h, _, j, _ => ⟨acc, h, rfl, j, by simp⟩
  | d :: ds, acc, h, hl, j, p => by
    simp only [List.length_cons] at hl
    obtain ⟨S0, acc2, S1, h1, h2, j2, l2⟩ := compT_J (p d (by simp) acc h j) (by omega)
    obtain ⟨acc3, h3, e3, j3, l3⟩ := compV_J J ds acc2 S1.h (by omega) j2 fun z hz => p z (List.mem_cons_of_mem _ hz)
    refine ⟨acc3, h3, ?_, j3, by simp; omega⟩
    unfold compV
    rw [h1]
    dsimp only
    rw [h2, Res.only_ok]
    exact e3
theorem compO_J {g : DG} {t : DT} {e : DE} {w : List (Option D)} {it : List Ob → Nat → Option (Option D)} {xs : List D} (J : List D → List Ob → Prop) (hx : ∀ acc h i, J acc h → it h i = some xs[i]?) (p : ∀ d ∈ xs, ∀ acc h, J acc h → TurnJ g t e w J d acc h) : ∀ (k i : Nat) (acc : List D) (h : List Ob), xs.length < i + k → i ≤ xs.length → acc.length + (xs.length - i) ≤ 1000000 → J acc h →
    ∃ acc2 h2, compO it g t e w k i acc h = .ok acc2 ⟨w, h2⟩ ∧ J acc2 h2 ∧ acc2.length ≤ acc.length + (xs.length - i)
  | 0, i, acc, h, h1, h2, _, _ => by omega
  | k + 1, i, acc, h, hk, hi, hl, j => by
    by_cases lt : i < xs.length
    · obtain ⟨S0, acc2, S1, h1, h2, j2, l2⟩ := compT_J (p xs[i] (List.getElem_mem lt) acc h j) (by omega)
      obtain ⟨acc3, h3, e3, j3, l3⟩ := compO_J J hx p k (i + 1) acc2 S1.h (by omega) (by omega) (by omega) j2
      refine ⟨acc3, h3, ?_, j3, by omega⟩
      unfold compO
      rw [hx acc h i j, List.getElem?_eq_getElem lt]
      dsimp only
      rw [h1]
      dsimp only
      rw [h2, Res.only_ok]
      exact e3
    · refine ⟨acc, h, ?_, j, by omega⟩
      unfold compO
      rw [hx acc h i j, List.getElem?_eq_none (by omega)]
theorem comp_J {vs : List Nat} {it : DS → Res Iter0} {g : DG} {t : DT} {e : DE} {S S1 : DS} {I : Iter0} {xs : List D} (J : List D → List Ob → Prop) (hi : it S = .ok I S1) (ov : ∀ acc h, J acc h → Over I xs h) (hl : xs.length < 100000) (j0 : J [] S1.h) (p : ∀ d ∈ xs, ∀ acc h, J acc h → TurnJ g t e (wipeD S1.loc vs) J d acc h) :
    ∃ acc h2, dComp vs it g t e S = .ok (.ref h2.length) ⟨S1.loc, h2 ++ [.lst acc]⟩ ∧ J acc h2 ∧ acc.length ≤ xs.length := by
  cases I with
  | vals ys =>
    obtain rfl : ys = xs := ov _ _ j0
    obtain ⟨acc, h2, e2, j, l⟩ := compV_J (w := wipeD S1.loc vs) J ys [] S1.h (by simp; omega) j0 p
    refine ⟨acc, h2, ?_, j, by simpa using l⟩
    unfold dComp
    rw [hi, Res.bind_ok]
    dsimp only
    rw [e2]
    rfl
  | dyn it2 =>
    obtain ⟨acc, h2, e2, j, l⟩ := compO_J (w := wipeD S1.loc vs) J (fun acc h i j => ov acc h j i) p 100000 0 [] S1.h (by omega) (by omega) (by simp; omega) j0
    refine ⟨acc, h2, ?_, j, by simpa using l⟩
    unfold dComp
    rw [hi, Res.bind_ok]
    dsimp only
    rw [e2]
    rfl
theorem rng_of {a : DE} {S S1 : DS} {j : Int} (e : a S = .ok (.int j) S1) (h : -1000000 ≤ j ∧ j ≤ 1000000) : dRng (dCons a dNil) S = .ok (.vals (rgD 0 j.toNat)) S1 := by
  unfold dRng
  simp [e, h]
theorem rgD_len (lo : Int) (n : Nat) : (rgD lo n).length = n := by unfold rgD; simp
theorem foldl_cps : ∀ (l : List (Array Nat)) (acc : Array Nat), (l.foldl (· ++ ·) acc).toList = acc.toList ++ (l.map Array.toList).flatten
  | [], acc => by simp
  | a :: l, acc => by
    rw [List.foldl_cons, foldl_cps l, Array.toList_append, List.map_cons, List.flatten_cons, List.append_assoc]
theorem repS_cps {z : Str} {n : Int} (hn : 2 ≤ n) (hz : z.length ≠ 0) : (repS z n).cps.toList = (List.replicate n.toNat z.cps.toList).flatten := by
  unfold repS
  rw [if_neg (by omega), if_neg (by simp; exact ⟨by omega, hz⟩)]
  show ((List.replicate n.toNat z.cps).foldl (· ++ ·) #[]).toList = _
  rw [foldl_cps, List.map_replicate]
  rfl
theorem repS_len {z : Str} {n : Int} (hn : 2 ≤ n) (hz : z.length = 1) : (repS z n).length = n.toNat := by
  have e := congrArg List.length (repS_cps hn (z := z) (by omega))
  have h1 : z.cps.toList.length = 1 := by rw [Array.length_toList]; exact hz
  simp [h1] at e
  exact e
theorem repS_good {z : Str} {n : Int} (hn : 2 ≤ n) (hz : z.length = 1) (g : Good z) : Good (repS z n) := fun c hc => by
  rw [repS_cps hn (by omega)] at hc
  obtain ⟨l, hl, hc⟩ := List.mem_flatten.mp hc
  rw [(List.mem_replicate.mp hl).2] at hc
  exact g c hc
/-- texts joined: their lengths -/
theorem lenS_app : ∀ a b : List Str, lenS (a ++ b) = lenS a + lenS b
  | [], b => by show lenS b = 0 + lenS b; omega
  | x :: a, b => by
    show x.length + lenS (a ++ b) = x.length + lenS a + lenS b
    rw [lenS_app a b]; omega
theorem lenS_take (n : Nat) : ∀ a : List Str, lenS (a.take n) ≤ lenS a := fun a => by
  have := lenS_app (a.take n) (a.drop n)
  rw [List.take_append_drop] at this
  omega
theorem lenS_drop (n : Nat) : ∀ a : List Str, lenS (a.drop n) ≤ lenS a := fun a => by
  have := lenS_app (a.take n) (a.drop n)
  rw [List.take_append_drop] at this
  omega
theorem lenS_rep (a : List Str) : ∀ n : Nat, lenS (List.replicate n a).flatten = n * lenS a ∧ (List.replicate n a).flatten.length = n * a.length
  | 0 => by simp [lenS]
  | n + 1 => by
    obtain ⟨h1, h2⟩ := lenS_rep a n
    rw [List.replicate_succ, List.flatten_cons, lenS_app, List.length_append, h1, h2, Nat.add_mul, Nat.add_mul]
    omega
def cutL (xs : List Str) (lo hi : Option Int) : List Str := (xs.drop (HT.sIx xs.length 0 lo)).take (HT.sIx xs.length xs.length hi - HT.sIx xs.length 0 lo)
theorem cut_strs (xs : List Str) (lo hi : Option Int) : Den.cutD (xs.map D.str) lo hi = (cutL xs lo hi).map D.str := by
  unfold Den.cutD cutL
  rw [List.length_map, ← List.map_drop, ← List.map_take]
theorem cutL_mem {xs : List Str} {lo hi : Option Int} {p : Str} (h : p ∈ cutL xs lo hi) : p ∈ xs := List.mem_of_mem_drop (List.mem_of_mem_take h)
theorem cutL_len (xs : List Str) (lo hi : Option Int) : (cutL xs lo hi).length ≤ xs.length ∧ lenS (cutL xs lo hi) ≤ lenS xs := by
  unfold cutL
  refine ⟨?_, Nat.le_trans (lenS_take _ _) (lenS_drop _ _)⟩
  rw [List.length_take, List.length_drop]
  omega
theorem rep_strs (xs : List Str) (n : Nat) : (List.replicate n (xs.map D.str)).flatten = ((List.replicate n xs).flatten).map D.str := by
  rw [List.map_flatten, List.map_replicate]
theorem rep_mem {xs : List Str} {n : Nat} {p : Str} (h : p ∈ (List.replicate n xs).flatten) : p ∈ xs := by
  obtain ⟨l, hl, hp⟩ := List.mem_flatten.mp h
  rw [(List.mem_replicate.mp hl).2] at hp
  exact hp
end Den

namespace Den
open PySem L2
/-! ### 70. unlike data have unlike reprs: tuples, however deep, of some atoms whose reprs are no beginnings of one another -/
def cpsD (d : PyData) : List Nat := d.shown.cps.toList
def Uq (p : PyData → Prop) : Prop := ∀ d e s1 s2, p d → p e → cpsD d ++ s1 = cpsD e ++ s2 → d = e ∧ s1 = s2
def Hd (p : PyData → Prop) : Prop := ∀ d, p d → ∃ c r, cpsD d = c :: r ∧ c ≠ 41
def jn : List PyData → List Nat
  | [] => []
  | [x] => cpsD x
  | x :: y :: r => cpsD x ++ [44, 32] ++ jn (y :: r)
theorem jn_eq : ∀ xs : List PyData, (Str.join ", " (xs.map PyData.shown)).cps.toList = jn xs
  | [] => rfl
  | [x] => rfl
  | x :: y :: r => by
    show (x.shown ++ ((", " : String) : Str) ++ Str.join ", " (y.shown :: r.map PyData.shown)).cps.toList = _
    rw [sig_app, sig_app]
    have := jn_eq (y :: r)
    rw [List.map_cons] at this
    rw [this, show (((", " : String) : Str)).cps.toList = [44, 32] by decide +kernel]
    rfl
theorem cps_tup (xs : List PyData) : cpsD (.tuple xs) = 40 :: (jn xs ++ if xs.length = 1 then [44, 41] else [41]) := by
  have e : PyData.shown (.tuple xs) = ("(" : Str) ++ Str.join ", " (xs.map PyData.shown) ++ (if (xs.map PyData.shown).length == 1 then ",)" else ")" : String) := by
    unfold PyData.shown
    rw [shownAll_map]; rfl
  unfold cpsD
  rw [e, sig_app, sig_app, jn_eq, List.length_map, show ((("(" : String) : Str)).cps.toList = [40] by decide +kernel]
  by_cases h : xs.length = 1
  · rw [if_pos h, h]
    show [40] ++ jn xs ++ (((",)" : String) : Str)).cps.toList = _
    rw [show (((",)" : String) : Str)).cps.toList = [44, 41] by decide +kernel]
    rfl
  · rw [if_neg h, show (xs.length == 1) = false from beq_false_of_ne h]
    show [40] ++ jn xs ++ (((")" : String) : Str)).cps.toList = _
    rw [show (((")" : String) : Str)).cps.toList = [41] by decide +kernel]
    rfl
theorem jn_uq {p : PyData → Prop} (u : Uq p) : ∀ (ys zs : List PyData) (s1 s2 : List Nat), ys ≠ [] → zs ≠ [] → (∀ x ∈ ys, p x) → (∀ x ∈ zs, p x) → jn ys ++ 41 :: s1 = jn zs ++ 41 :: s2 → ys = zs ∧ s1 = s2
  | [], _, _, _, h, _, _, _, _ => absurd rfl h
  | _ :: _, [], _, _, _, h, _, _, _ => absurd rfl h
  | [y], [z], s1, s2, _, _, hy, hz, e => by
    obtain ⟨rfl, e2⟩ := u _ _ _ _ (hy y (by simp)) (hz z (by simp)) e
    injection e2 with _ e2
    exact ⟨rfl, e2⟩
  | [y], z :: z' :: r, s1, s2, _, _, hy, hz, e => by
    have e' : cpsD y ++ 41 :: s1 = cpsD z ++ (44 :: 32 :: (jn (z' :: r) ++ 41 :: s2)) := by
      rw [show jn (z :: z' :: r) = cpsD z ++ [44, 32] ++ jn (z' :: r) from rfl, show jn [y] = cpsD y from rfl] at e
      simpa using e
    obtain ⟨rfl, e2⟩ := u _ _ _ _ (hy y (by simp)) (hz z (by simp)) e'
    cases e2
  | y :: y' :: q, [z], s1, s2, _, _, hy, hz, e => by
    have e' : cpsD y ++ (44 :: 32 :: (jn (y' :: q) ++ 41 :: s1)) = cpsD z ++ 41 :: s2 := by
      rw [show jn (y :: y' :: q) = cpsD y ++ [44, 32] ++ jn (y' :: q) from rfl, show jn [z] = cpsD z from rfl] at e
      simpa using e
    obtain ⟨rfl, e2⟩ := u _ _ _ _ (hy y (by simp)) (hz z (by simp)) e'
    cases e2
  | y :: y' :: q, z :: z' :: r, s1, s2, _, _, hy, hz, e => by
    have e' : cpsD y ++ (44 :: 32 :: (jn (y' :: q) ++ 41 :: s1)) = cpsD z ++ (44 :: 32 :: (jn (z' :: r) ++ 41 :: s2)) := by
      rw [show jn (y :: y' :: q) = cpsD y ++ [44, 32] ++ jn (y' :: q) from rfl, show jn (z :: z' :: r) = cpsD z ++ [44, 32] ++ jn (z' :: r) from rfl] at e
      simpa using e
    obtain ⟨rfl, e2⟩ := u _ _ _ _ (hy y (by simp)) (hz z (by simp)) e'
    injection e2 with _ e2
    injection e2 with _ e2
    obtain ⟨e3, e4⟩ := jn_uq u (y' :: q) (z' :: r) s1 s2 (by simp) (by simp) (fun x hx => hy x (List.mem_cons_of_mem _ hx)) (fun x hx => hz x (List.mem_cons_of_mem _ hx)) e2
    exact ⟨by rw [e3], e4⟩
theorem tup_uq {p : PyData → Prop} (u : Uq p) (hd : Hd p) : ∀ (xs zs : List PyData) (s1 s2 : List Nat), (∀ x ∈ xs, p x) → (∀ x ∈ zs, p x) → cpsD (.tuple xs) ++ s1 = cpsD (.tuple zs) ++ s2 → xs = zs ∧ s1 = s2 := by
  intro xs zs s1 s2 hx hz e
  rw [cps_tup, cps_tup] at e
  injection e with _ e
  match xs, zs, hx, hz, e with
  | [], [], _, _, e =>
    simp [jn] at e
    exact ⟨rfl, e⟩
  | [], [z], _, hz, e =>
    obtain ⟨c, r, h1, h2⟩ := hd z (hz z (by simp))
    simp [jn, h1] at e
    exact absurd e.1.symm h2
  | [], z :: z' :: q, _, hz, e =>
    obtain ⟨c, r, h1, h2⟩ := hd z (hz z (by simp))
    simp [jn, h1] at e
    exact absurd e.1.symm h2
  | [x], [], hx, _, e =>
    obtain ⟨c, r, h1, h2⟩ := hd x (hx x (by simp))
    simp [jn, h1] at e
    exact absurd e.1 h2
  | x :: x' :: q, [], hx, _, e =>
    obtain ⟨c, r, h1, h2⟩ := hd x (hx x (by simp))
    simp [jn, h1] at e
    exact absurd e.1 h2
  | [x], [z], hx, hz, e =>
    have e' : cpsD x ++ (44 :: 41 :: s1) = cpsD z ++ (44 :: 41 :: s2) := by simpa [jn] using e
    obtain ⟨rfl, e2⟩ := u _ _ _ _ (hx x (by simp)) (hz z (by simp)) e'
    injection e2 with _ e2
    injection e2 with _ e2
    exact ⟨rfl, e2⟩
  | [x], z :: z' :: q, hx, hz, e =>
    have e' : cpsD x ++ (44 :: 41 :: s1) = cpsD z ++ (44 :: 32 :: (jn (z' :: q) ++ 41 :: s2)) := by simpa [jn] using e
    obtain ⟨rfl, e2⟩ := u _ _ _ _ (hx x (by simp)) (hz z (by simp)) e'
    cases e2
  | x :: x' :: q, [z], hx, hz, e =>
    have e' : cpsD x ++ (44 :: 32 :: (jn (x' :: q) ++ 41 :: s1)) = cpsD z ++ (44 :: 41 :: s2) := by simpa [jn] using e
    obtain ⟨rfl, e2⟩ := u _ _ _ _ (hx x (by simp)) (hz z (by simp)) e'
    cases e2
  | x :: x' :: q, z :: z' :: r, hx, hz, e =>
    refine jn_uq u _ _ _ _ (by simp) (by simp) hx hz ?_
    simpa using e
/-- tuples over A, n deep -/
def Dat (A : List PyData) : Nat → PyData → Prop
  | 0, d => d ∈ A
  | n + 1, d => d ∈ A ∨ ∃ xs, d = .tuple xs ∧ ∀ x ∈ xs, Dat A n x
/-- the atoms' reprs: none is a beginning of another one, none begins with a bracket -/
def atomsB : List (List Nat) → Bool
  | [] => true
  | a :: r => r.all (fun b => !a.isPrefixOf b && !b.isPrefixOf a) && (match a with | c :: _ => !(c == 40) && !(c == 41) | [] => false) && atomsB r
theorem pre_of {a b s1 s2 : List Nat} (e : a ++ s1 = b ++ s2) : a.isPrefixOf b = true ∨ b.isPrefixOf a = true := by
  rw [List.isPrefixOf_iff_prefix, List.isPrefixOf_iff_prefix]
  exact List.prefix_or_prefix_of_prefix (List.prefix_append a s1) (by rw [e]; exact List.prefix_append b s2)
theorem atoms_uq : ∀ {A : List PyData}, atomsB (A.map cpsD) = true → Uq (· ∈ A) ∧ ∀ d ∈ A, ∃ c r, cpsD d = c :: r ∧ c ≠ 40 ∧ c ≠ 41
  | [], _ => ⟨fun _ _ _ _ h => (nomatch h), fun _ h => (nomatch h)⟩
  | a :: A, h => by
    unfold atomsB at h
    simp only [List.map_cons, Bool.and_eq_true] at h
    obtain ⟨⟨h1, h2⟩, h3⟩ := h
    obtain ⟨u, f⟩ := atoms_uq h3
    have np : ∀ b ∈ A, ∀ s1 s2, cpsD a ++ s1 = cpsD b ++ s2 → False := fun b hb s1 s2 e => by
      have := List.all_eq_true.mp h1 (cpsD b) (List.mem_map.mpr ⟨b, hb, rfl⟩)
      simp only [Bool.and_eq_true, Bool.not_eq_true'] at this
      rcases pre_of e with q | q
      · rw [this.1] at q; cases q
      · rw [this.2] at q; cases q
    refine ⟨fun d e s1 s2 hd he q => ?_, fun d hd => ?_⟩
    · rcases List.mem_cons.mp hd with e1 | hd2
      · rcases List.mem_cons.mp he with e2 | he2
        · subst e1; subst e2
          exact ⟨rfl, List.append_cancel_left q⟩
        · subst e1
          exact (np _ he2 _ _ q).elim
      · rcases List.mem_cons.mp he with e2 | he2
        · subst e2
          exact (np _ hd2 _ _ q.symm).elim
        · exact u _ _ _ _ hd2 he2 q
    · rcases List.mem_cons.mp hd with rfl | hd
      · split at h2
        · rename_i c r e
          simp only [Bool.and_eq_true, Bool.not_eq_true', beq_eq_false_iff_ne] at h2
          exact ⟨c, r, e, h2.1, h2.2⟩
        · cases h2
      · exact f d hd
theorem dat_uq {A : List PyData} (h : atomsB (A.map cpsD) = true) : ∀ n, Uq (Dat A n) ∧ Hd (Dat A n)
  | 0 => by
    obtain ⟨u, f⟩ := atoms_uq h
    exact ⟨u, fun d hd => by obtain ⟨c, r, e, _, q⟩ := f d hd; exact ⟨c, r, e, q⟩⟩
  | n + 1 => by
    obtain ⟨u0, f0⟩ := atoms_uq h
    obtain ⟨u, hd⟩ := dat_uq h n
    refine ⟨fun d e s1 s2 h1 h2 q => ?_, fun d h1 => ?_⟩
    · rcases h1 with h1 | ⟨xs, rfl, h1⟩
      · rcases h2 with h2 | ⟨zs, rfl, h2⟩
        · exact u0 _ _ _ _ h1 h2 q
        · obtain ⟨c, r, e1, e2, _⟩ := f0 d h1
          rw [e1, cps_tup] at q
          injection q with q _
          exact absurd q e2
      · rcases h2 with h2 | ⟨zs, rfl, h2⟩
        · obtain ⟨c, r, e1, e2, _⟩ := f0 e h2
          rw [e1, cps_tup] at q
          injection q with q _
          exact absurd q.symm e2
        · obtain ⟨r1, r2⟩ := tup_uq u hd xs zs s1 s2 h1 h2 q
          exact ⟨by rw [r1], r2⟩
    · rcases h1 with h1 | ⟨xs, rfl, h1⟩
      · obtain ⟨c, r, e, _, q⟩ := f0 d h1; exact ⟨c, r, e, q⟩
      · exact ⟨_, _, cps_tup xs, by decide⟩
/-- THE RULE: equal reprs, equal data -/
theorem shown_inj {A : List PyData} (h : atomsB (A.map cpsD) = true) {n : Nat} {d e : PyData} (hd : Dat A n d) (he : Dat A n e) (q : d.shown = e.shown) : d = e := by
  refine ((dat_uq h n).1 d e [] [] hd he ?_).1
  unfold cpsD
  rw [q]
end Den

namespace Den
open PySem L2
/-! ### 80. comprehensions without a test: as many items -/
def TurnK (g : DG) (e : DE) (w : List (Option D)) (J : List D → List Ob → Prop) (d : D) (acc : List D) (h : List Ob) : Prop := ∃ S0, g d ⟨w, h⟩ = some S0 ∧ Ok (e S0) fun y S3 => J (acc ++ [y]) S3.h
theorem comp_K {vs : List Nat} {it : DS → Res Iter0} {g : DG} {e : DE} {S S1 : DS} {I : Iter0} {xs : List D} (J : List D → List Ob → Prop) (hi : it S = .ok I S1) (ov : ∀ acc h, J acc h → Over I xs h) (hl : xs.length < 100000) (j0 : J [] S1.h) (p : ∀ d ∈ xs, ∀ acc h, J acc h → TurnK g e (wipeD S1.loc vs) J d acc h) :
    ∃ acc h2, dComp vs it g tTrue e S = .ok (.ref h2.length) ⟨S1.loc, h2 ++ [.lst acc]⟩ ∧ J acc h2 ∧ acc.length = xs.length := by
  have step : ∀ d ∈ xs, ∀ acc h, J acc h → acc.length < 1000000 → ∃ S0 acc2 S2, g d ⟨wipeD S1.loc vs, h⟩ = some S0 ∧ compT tTrue e S0 acc = .ok acc2 S2 ∧ J acc2 S2.h ∧ acc2.length = acc.length + 1 := fun d hd acc h j l => by
    obtain ⟨S0, h1, h3⟩ := p d hd acc h j
    obtain ⟨y, S3, e2, j2⟩ := h3.ex
    refine ⟨S0, acc ++ [y], S3, h1, ?_, j2, by simp⟩
    unfold compT tTrue
    rw [Res.only_ok, if_pos rfl, e2, Res.only_ok, mxL_eq, if_pos l]
  cases I with
  | vals ys =>
    obtain rfl : ys = xs := ov _ _ j0
    have go : ∀ (zs acc : List D) (h : List Ob), (∀ z ∈ zs, z ∈ ys) → acc.length + zs.length ≤ 1000000 → J acc h → ∃ acc2 h2, compV g tTrue e (wipeD S1.loc vs) zs acc h = .ok acc2 ⟨wipeD S1.loc vs, h2⟩ ∧ J acc2 h2 ∧ acc2.length = acc.length + zs.length := by
      intro zs
      induction zs with
      | nil => exact fun acc h _ _ j => ⟨acc, h, rfl, j, by simp⟩
      | cons z zs ih =>
        intro acc h hz l j
        simp only [List.length_cons] at l
        obtain ⟨S0, acc2, S2, h1, h2, j2, l2⟩ := step z (hz z (by simp)) acc h j (by omega)
        obtain ⟨acc3, h3, e3, j3, l3⟩ := ih acc2 S2.h (fun w hw => hz w (List.mem_cons_of_mem _ hw)) (by omega) j2
        refine ⟨acc3, h3, ?_, j3, by simp; omega⟩
        unfold compV
        rw [h1]
        dsimp only
        rw [h2, Res.only_ok]
        exact e3
    obtain ⟨acc, h2, e2, j, l⟩ := go ys [] S1.h (fun _ h => h) (by simp; omega) j0
    refine ⟨acc, h2, ?_, j, by simpa using l⟩
    unfold dComp
    rw [hi, Res.bind_ok]
    dsimp only
    rw [e2]
    rfl
  | dyn it2 =>
    have go : ∀ (k i : Nat) (acc : List D) (h : List Ob), xs.length < i + k → i ≤ xs.length → acc.length + (xs.length - i) ≤ 1000000 → J acc h → ∃ acc2 h2, compO it2 g tTrue e (wipeD S1.loc vs) k i acc h = .ok acc2 ⟨wipeD S1.loc vs, h2⟩ ∧ J acc2 h2 ∧ acc2.length = acc.length + (xs.length - i) := by
      intro k
      induction k with
      | zero => intro i acc h h1 h2; omega
      | succ k ih =>
        intro i acc h hk hi' hl' j
        by_cases lt : i < xs.length
        · obtain ⟨S0, acc2, S2, h1, h2, j2, l2⟩ := step xs[i] (List.getElem_mem lt) acc h j (by omega)
          obtain ⟨acc3, h3, e3, j3, l3⟩ := ih (i + 1) acc2 S2.h (by omega) (by omega) (by omega) j2
          refine ⟨acc3, h3, ?_, j3, by omega⟩
          unfold compO
          rw [ov acc h j i, List.getElem?_eq_getElem lt]
          dsimp only
          rw [h1]
          dsimp only
          rw [h2, Res.only_ok]
          exact e3
        · refine ⟨acc, h, ?_, j, by omega⟩
          unfold compO
          rw [ov acc h j i, List.getElem?_eq_none (by omega)]
    obtain ⟨acc, h2, e2, j, l⟩ := go 100000 0 [] S1.h (by omega) (by omega) (by simp; omega) j0
    refine ⟨acc, h2, ?_, j, by simpa using l⟩
    unfold dComp
    rw [hi, Res.bind_ok]
    dsimp only
    rw [e2]
    rfl
theorem comp_F {vs : List Nat} {it : DS → Res Iter0} {g : DG} {e : DE} {S S1 : DS} {I : Iter0} {xs : List D} (f : D → D) (P : List Ob → Prop) (hi : it S = .ok I S1) (ov : ∀ h, P h → Over I xs h) (hl : xs.length < 100000) (j0 : P S1.h) (p : ∀ d ∈ xs, ∀ h, P h → ∃ S0, g d ⟨wipeD S1.loc vs, h⟩ = some S0 ∧ Ok (e S0) fun y S3 => y = f d ∧ P S3.h) :
    ∃ h2, dComp vs it g tTrue e S = .ok (.ref h2.length) ⟨S1.loc, h2 ++ [.lst (xs.map f)]⟩ ∧ P h2 := by
  have step : ∀ d ∈ xs, ∀ (acc : List D) h, P h → acc.length < 1000000 → ∃ S0 S2, g d ⟨wipeD S1.loc vs, h⟩ = some S0 ∧ compT tTrue e S0 acc = .ok (acc ++ [f d]) S2 ∧ P S2.h := fun d hd acc h j l => by
    obtain ⟨S0, h1, h3⟩ := p d hd h j
    obtain ⟨y, S3, e2, rfl, j2⟩ := h3.ex
    refine ⟨S0, S3, h1, ?_, j2⟩
    unfold compT tTrue
    rw [Res.only_ok, if_pos rfl, e2, Res.only_ok, mxL_eq, if_pos l]
  cases I with
  | vals ys =>
    obtain rfl : ys = xs := ov _ j0
    have go : ∀ (zs acc : List D) (h : List Ob), (∀ z ∈ zs, z ∈ ys) → acc.length + zs.length ≤ 1000000 → P h → ∃ h2, compV g tTrue e (wipeD S1.loc vs) zs acc h = .ok (acc ++ zs.map f) ⟨wipeD S1.loc vs, h2⟩ ∧ P h2 := by
      intro zs
      induction zs with
      | nil => exact fun acc h _ _ j => ⟨h, by simp [compV], j⟩
      | cons z zs ih =>
        intro acc h hz l j
        simp only [List.length_cons] at l
        obtain ⟨S0, S2, h1, h2, j2⟩ := step z (hz z (by simp)) acc h j (by omega)
        obtain ⟨h3, e3, j3⟩ := ih (acc ++ [f z]) S2.h (fun w hw => hz w (List.mem_cons_of_mem _ hw)) (by simp; omega) j2
        refine ⟨h3, ?_, j3⟩
        unfold compV
        rw [h1]
        dsimp only
        rw [h2, Res.only_ok, e3]
        simp
    obtain ⟨h2, e2, j⟩ := go ys [] S1.h (fun _ h => h) (by simp; omega) j0
    refine ⟨h2, ?_, j⟩
    unfold dComp
    rw [hi, Res.bind_ok]
    dsimp only
    rw [e2]
    rfl
  | dyn it2 =>
    have go : ∀ (k i : Nat) (acc : List D) (h : List Ob), xs.length < i + k → i ≤ xs.length → acc.length + (xs.length - i) ≤ 1000000 → P h → ∃ h2, compO it2 g tTrue e (wipeD S1.loc vs) k i acc h = .ok (acc ++ (xs.drop i).map f) ⟨wipeD S1.loc vs, h2⟩ ∧ P h2 := by
      intro k
      induction k with
      | zero => intro i acc h h1 h2; omega
      | succ k ih =>
        intro i acc h hk hi' hl' j
        by_cases lt : i < xs.length
        · obtain ⟨S0, S2, h1, h2, j2⟩ := step xs[i] (List.getElem_mem lt) acc h j (by omega)
          obtain ⟨h3, e3, j3⟩ := ih (i + 1) (acc ++ [f xs[i]]) S2.h (by omega) (by omega) (by simp; omega) j2
          refine ⟨h3, ?_, j3⟩
          unfold compO
          rw [ov h j i, List.getElem?_eq_getElem lt]
          dsimp only
          rw [h1]
          dsimp only
          rw [h2, Res.only_ok, e3, List.drop_eq_getElem_cons lt, List.map_cons, List.append_assoc]
          rfl
        · refine ⟨h, ?_, j⟩
          unfold compO
          rw [ov h j i, List.getElem?_eq_none (by omega), List.drop_eq_nil_iff.mpr (by omega)]
          simp
    obtain ⟨h2, e2, j⟩ := go 100000 0 [] S1.h (by omega) (by omega) (by simp; omega) j0
    refine ⟨h2, ?_, j⟩
    unfold dComp
    rw [hi, Res.bind_ok]
    dsimp only
    rw [e2]
    rfl
/-! ### 81. plain signs: the repr of a text -/
def Asc (x : Str) : Prop := ∀ c ∈ x.cps.toList, c < 128
def ascB (x : Str) : Bool := x.cps.toList.all (fun c => decide (c < 128))
theorem asc_of {x : Str} (h : ascB x = true) : Asc x := fun c hc => of_decide_eq_true (List.all_eq_true.mp h c hc)
theorem Asc.good {x : Str} (a : Asc x) : Good x := fun c hc => by have := a c hc; omega
theorem Asc.app {x y : Str} (a : Asc x) (b : Asc y) : Asc (x ++ y) := fun c hc => by
  rw [sig_app] at hc
  rcases List.mem_append.mp hc with h | h
  · exact a c h
  · exact b c h
theorem asc_join {y : Str} (gy : Asc y) : ∀ {ps : List Str}, (∀ p ∈ ps, Asc p) → Asc (Str.join y ps)
  | [], _ => fun c hc => by cases hc
  | [p], h => h p (by simp)
  | p :: q :: r, h => ((h p (by simp)).app gy).app (asc_join gy fun z hz => h z (List.mem_cons_of_mem _ hz))
def rcB (q c : Nat) : Bool := (Builtin.Str.reprChar q c).all (fun d => decide (d < 256)) && decide ((Builtin.Str.reprChar q c).length ≤ 4)
theorem rc_all : ((List.range 128).all fun c => rcB 39 c && rcB 34 c) = true := by decide +kernel
theorem foldl_rep (q : Nat) : ∀ (l : List Nat) (acc : Array Nat), (l.foldl (fun out c => out ++ (Builtin.Str.reprChar q c).toArray) acc).toList = acc.toList ++ (l.map (Builtin.Str.reprChar q)).flatten
  | [], acc => by simp
  | c :: l, acc => by
    rw [List.foldl_cons, foldl_rep q l, Array.toList_append, List.map_cons, List.flatten_cons, List.append_assoc]
theorem quote_of (x : Str) : PySem.reprQuote x = 39 ∨ PySem.reprQuote x = 34 := by
  unfold PySem.reprQuote
  split
  · exact .inr rfl
  · exact .inl rfl
theorem repr_cps (x : Str) : (PySem.reprText x).cps.toList = PySem.reprQuote x :: ((x.cps.toList.map (Builtin.Str.reprChar (PySem.reprQuote x))).flatten ++ [PySem.reprQuote x]) := by
  unfold PySem.reprText
  rw [Array.toList_push, ← Array.foldl_toList, foldl_rep]
  simp
theorem sm_str {x : Str} (a : Asc x) : Sm (.str x) (4 * x.length + 2) 0 := by
  have q := quote_of x
  have each : ∀ c ∈ x.cps.toList, (∀ d ∈ Builtin.Str.reprChar (PySem.reprQuote x) c, d < 256) ∧ (Builtin.Str.reprChar (PySem.reprQuote x) c).length ≤ 4 := fun c hc => by
    have := List.all_eq_true.mp rc_all c (List.mem_range.mpr (a c hc))
    rw [Bool.and_eq_true] at this
    have hb : rcB (PySem.reprQuote x) c = true := by
      rcases q with q | q
      · rw [q]; exact this.1
      · rw [q]; exact this.2
    unfold rcB at hb
    rw [Bool.and_eq_true] at hb
    exact ⟨fun d hd => of_decide_eq_true (List.all_eq_true.mp hb.1 d hd), of_decide_eq_true hb.2⟩
  refine ⟨by unfold PyData.showable; rfl, by unfold PyData.hasDict; rfl, by unfold PyData.depth; omega, ?_, ?_⟩
  · show (PyData.shown (.str x)).cps.size ≤ _
    rw [← Array.length_toList]
    unfold PyData.shown
    rw [repr_cps]
    have hl : ∀ l : List Nat, (∀ c ∈ l, (Builtin.Str.reprChar (PySem.reprQuote x) c).length ≤ 4) → (l.map (Builtin.Str.reprChar (PySem.reprQuote x))).flatten.length ≤ 4 * l.length := by
      intro l
      induction l with
      | nil => intro _; simp
      | cons c l ih =>
        intro h
        rw [List.map_cons, List.flatten_cons, List.length_append, List.length_cons]
        have h1 := h c (by simp)
        have h2 := ih fun z hz => h z (List.mem_cons_of_mem _ hz)
        omega
    have h1 := hl x.cps.toList fun c hc => (each c hc).2
    rw [List.length_cons, List.length_append, List.length_singleton]
    have e : x.cps.toList.length = x.length := Array.length_toList
    rw [e] at h1
    omega
  · intro c hc
    unfold PyData.shown at hc
    rw [repr_cps] at hc
    rcases List.mem_cons.mp hc with e | hc
    · rw [e]; rcases q with q | q <;> rw [q] <;> decide
    rcases List.mem_append.mp hc with hc | hc
    · obtain ⟨l, hl, hcl⟩ := List.mem_flatten.mp hc
      obtain ⟨b, hb, rfl⟩ := List.mem_map.mp hl
      exact (each b hb).1 c hcl
    · rw [List.mem_singleton.mp hc]; rcases q with q | q <;> rw [q] <;> decide
end Den

namespace Den
open PySem L2
/-! ### 90. a < b of alike data -/
def notNone : PyData → Bool
  | .none => false
  | _ => true
def oLtA : D → D → DS → Res D := fun x y S => match pyD S x, pyD S y with
  | some p, some q => if PySem.W.alike p q && notNone p && decide (p.depth ≤ 64) then .ok (.bl (PySem.W.dataLt p q)) S else .stuck
  | _, _ => .stuck
def rLtD (K : PySem.W.Frag) : R2 := fun x y H Q => ∃ p q, Dp K H x p ∧ Dp K H y q ∧ PySem.W.alike p q = true ∧ notNone p = true ∧ p.depth ≤ 64 ∧ Q (.bl (PySem.W.dataLt p q)) H
section
variable {prog : Program} {w : World} {A : Around} {E : Value → Shared → Prop} {s : Shared}
theorem enum_endT {e it l : Addr} {i : Nat} {c : Int} {items : Array Value} {old : Value} {Q : Option Value → Shared → Prop} (hh : A.handled = none)
    (he : IsEnum s.heap e it c old) (hit : s.heap.IsTupleIter it l i) (hl : s.heap.IsTuple l items) (hx : items[i]? = none)
    (hQ : ∀ h', Heap.ExtBut it s.heap h' → Q none { s with heap := h' }) : wpAny (model prog w) A (pyNext (.ref e)) Q E s := by
  have hT : s.TypeIs (.ref e) "enumerate" := ⟨_, he, rfl⟩
  unfold pyNext
  refine wpAny_bind (wpAny_attempt (wpAny_callSpecial?_slot (name := Str.ofString "__next__") hT F.slot_enumerate_next
    (wpAny_call_entry F.slot_enumerate_next hT F.entry_enumerate_next ?_ (F.args_enumerate_next_1 _))))
  show wpAny _ _ (field (.ref e) 2 >>= _) _ _ _
  refine wpAny_bind (wpAny_field he rfl (x := .ref it) rfl ?_)
  refine wpAny_bind (wpAny_nextOf_tuple_end hh hit hl hx fun h' x he' hx' => ?_)
  obtain ⟨o, ho, hc⟩ := hx'
  refine wpAny_bind (wpAny_isInstance (T := "StopIteration") (b := true) ⟨o, ho, hc⟩ isSubtype_stop ?_)
  exact wpAny_pure (hQ _ he')
set_option maxHeartbeats 1000000 in
theorem meets_enum1 {v : Value} {o : Obj} {H : Heap → Prop} (B : Begins v o H) :
    Meets (Builtin.«enumerate.__new__» ⟨[.type "enumerate", v], []⟩) (fun _ R s => H s.heap ∧
      R (.ok (.ret (.ref (s.heap.push o).objs.size))) { s with heap := (s.heap.push o).push { cls := .type "enumerate", data := .fields #[.none, .bool false, .ref s.heap.objs.size, rawInt 0, .none, .none] } }) :=
  .of_wp fun prog w A R s h => by
    obtain ⟨hp, g, d, tk, os⟩ := s; obtain ⟨h1, h⟩ := h
    have hsub := sub_enumerate
    have q1 : ∀ {A' : Around} {E : Value → Shared → Prop} {Q : Value → Shared → Prop}, Q (.ref hp.objs.size) ⟨hp.push o, g, d, tk, os⟩ → wpAny (model prog w) A' (pyIter v) Q E ⟨hp, g, d, tk, os⟩ :=
      fun q => B.iter prog w _ _ ⟨hp, g, d, tk, os⟩ _ h1 q
    wp_walk using q1
    refine wpAny_stack_any fun st => wpAny_pure ?_
    split
    · rename_i c _ _ _ _ _
      cases (c == Value.type "enumerate")
      · wp_walk using q1
        exact ⟨_, rfl, h⟩
      · wp_walk using q1
        exact ⟨_, rfl, h⟩
    · wp_walk using q1
      exact ⟨_, rfl, h⟩
theorem enum_begins1 {v : Value} {o : Obj} {H : Heap → Prop} {Q : Value → Shared → Prop} (B : Begins v o H) (h1 : H s.heap)
    (h : ∀ h', IsEnum h' (s.heap.objs.size + 1) s.heap.objs.size 0 .none → h'.get? s.heap.objs.size = some o → h'.objs.size = s.heap.objs.size + 2 →
      (∀ b o, s.heap.get? b = some o → h'.get? b = some o) → Q (.ref (s.heap.objs.size + 1)) { s with heap := h' }) :
    wpAny (model prog w) A (call (.type "enumerate") [v]) Q E s := by
  refine callType_new F.called_enumerate (by decide) (F.typeCall_enumerate_1 _) (F.newCall_enumerate_1 _) (fun obj => F.args_object_init_2 obj _) F.entry_enumerate_new
    (meets_enum1 B) ⟨h1, ?_⟩
  have hz : (s.heap.push o).objs.size = s.heap.objs.size + 1 := Heap.size_push ..
  show _ ∧ _
  rw [hz]
  have he : IsEnum ((s.heap.push o).push { cls := .type "enumerate", data := .fields #[.none, .bool false, .ref s.heap.objs.size, rawInt 0, .none, .none] }) (s.heap.objs.size + 1) s.heap.objs.size 0 .none := by
    have := Heap.get?_push_size (s.heap.push o) (o := { cls := .type "enumerate", data := .fields #[.none, .bool false, .ref s.heap.objs.size, rawInt 0, .none, .none] }) rfl
    rw [hz] at this; exact this
  refine ⟨⟨_, he, rfl⟩, h _ he (Heap.get?_push_of_some _ (Heap.get?_push_size _ B.free)) (by rw [Heap.size_push, hz]) fun b o x => Heap.get?_push_of_some _ (Heap.get?_push_of_some _ x)⟩
end
section
variable {X : Cx} {cm : Str → Value} {W : WX} {e e1 e2 a b : Expr} {p pos tpos : Pos} {fa fb : DE} {ga : DA} {K : PySem.W.Frag} {L : List Addr} {H : Hp} {S : DS} {σ : L2.St}
theorem op_ltA (hu : X.A.units + 64 < cLine) : OpR X (compareOp .Lt) (rLtD X.K) := by
  intro pins s σ H x y v u Q I rx ry h
  obtain ⟨d, q, hd, he, al, nn, dp, hq⟩ := h
  obtain ⟨as, r1⟩ := Dp.reads I d x v hd rx
  obtain ⟨bs, r2⟩ := Dp.reads I q y u he ry
  have h1 : min d.depth q.depth ≤ d.depth := Nat.min_le_left _ _
  exact PySem.W.lt_data r1 r2 al (fun z => by rw [z] at nn; cases nn) (by omega) ⟨.bl _, H, I, rfl, hq⟩
theorem ro_ltA : ROp X cm W (rLtD X.K) oLtA := by
  intro L H S σ x y d e Q a r1 r2 q
  unfold oLtA at q
  split at q
  · rename_i p1 p2 h1 h2
    split at q
    · rename_i h
      simp only [Bool.and_eq_true, decide_eq_true_eq] at h
      exact ⟨_, _, pyD_rep a r1 h1, pyD_rep a r2 h2, h.1.1, h.1.2, h.2, q.give a (.bl _)⟩
    · exact q.elim
  · exact q.elim
theorem c_ltA {k : Nat} (r : Room k X.A) (ha : PE X a (rdE X.K cm W fa)) (hb : PE X b (rdE X.K cm W fb)) : PE X (.Compare a [.Lt] [b] pos) (rdE X.K cm W (dBin oLtA fa fb)) := e_cmp (op_ltA (hu64 r)) ro_ltA (nomark _) ha hb
theorem t_ltA {k : Nat} (r : Room k X.A) (ha : PE X a (rdE X.K cm W fa)) (hb : PE X b (rdE X.K cm W fb)) : PT X (.Compare a [.Lt] [b] pos) (rdT X.K cm W (tV (dBin oLtA fa fb))) := t_cmp (op_ltA (hu64 r)) ro_ltA (nomark _) ha hb
/-! ### 91. zip of two tuples -/
def zipD (xs ys : List D) : List D := (xs.zip ys).map fun p => .tup [p.1, p.2]
def dZip (a : DA) : DS → Res Iter0 := fun S => (a S).bind fun ds S1 => match ds with
  | [.tup xs, .tup ys] => .ok (.vals (zipD xs ys)) S1
  | _ => .stuck
theorem zipD_get {xs ys : List D} {i : Nat} {d : D} (h : (zipD xs ys)[i]? = some d) : ∃ x y, xs[i]? = some x ∧ ys[i]? = some y ∧ d = .tup [x, y] := by
  unfold zipD at h
  rw [List.getElem?_map] at h
  obtain ⟨p, hp, rfl⟩ := Option.map_eq_some_iff.mp h
  obtain ⟨h1, h2⟩ := List.getElem?_zip_eq_some.mp hp
  exact ⟨_, _, h1, h2, rfl⟩
theorem walk_zipT {xs ys : List D} {vs us : List V} {a b : Addr} (h1 : SqT K H a vs) (r1 : Reps K cm L H xs vs) (h2 : SqT K H b us) (r2 : Reps K cm L H ys us) : Walks0 K cm L H (zipD xs ys) (RZ.ItzT K a b) :=
  ⟨fun L' H' i d e h => by
    obtain ⟨x, y, hx, hy, rfl⟩ := zipD_get h
    obtain ⟨v, hv, rv⟩ := r1.get hx
    obtain ⟨u, hu, ru⟩ := r2.get hy
    refine ⟨⟨vs, us, v, u, e.tup _ _ h1, e.tup _ _ h2, hv, hu⟩, fun z H2 q => ?_⟩
    obtain ⟨T, x0, y0, rfl, hT, rfl, hx0, hy0⟩ := q
    have e1 := hx0 vs (e.tup _ _ h1)
    have e2 := hy0 us (e.tup _ _ h2)
    rw [hv] at e1; cases e1
    rw [hu] at e2; cases e2
    have b := Ext.beside (K := K) (L := L') (o := .tup [v, u]) hT
    exact ⟨b, fun h' x => x.beside hT, .tup (.inl (.inl upd_same)) (.cons ((rv.mono e).mono b) (.cons ((ru.mono e).mono b) .nil))⟩,
  fun L' H' e => by
    refine ⟨vs, us, e.tup _ _ h1, e.tup _ _ h2, ?_⟩
    unfold zipD
    rw [List.length_map, List.length_zip, r1.length, r2.length]
    omega⟩
theorem i_zip {tg1 : List Expr} {kk : Nat} (hg : Gl X "zip") (hm : X.mg "zip" = none) (ha : PA X [a, b] (rdA X.K cm W ga)) (hs : starEach [a, b] X.env = (false, eval a X.env) :: starEach [b] X.env := by rfl) (hpl : (backTo pos (starEach [b] X.env)).any (·.1) = false := by rfl) :
    PI X (.Tuple tg1 kk tpos) (.Call (.Name "zip" p) [a, b] [] pos) (rdI X.K cm W (dZip ga)) := weakI (RZ.pi_zipA hg hm ha hs hpl) fun σ H R q => by
  obtain ⟨L, S, a, q⟩ := q
  refine ⟨L, S, a, (Aft.step (R := Reps X.K cm) q).mono fun v H1 z => ?_⟩
  obtain ⟨L1, S1, ds, e1, x1, r1, q1⟩ := z
  split at q1
  · cases r1 with
    | cons r1 r2 =>
      cases r2 with
      | cons r2 r3 =>
        cases r3
        cases r1 with
        | tup h1 r1 =>
          cases r2 with
          | tup h2 r2 => exact ⟨_, _, _, _, rfl, .inr ⟨h1, h2, q1.give x1 (walk_zipT h1 r1 h2 r2)⟩⟩
  · exact q1.elim
/-! ### 92. enumerate of a tuple -/
def numD (k : Int) (xs : List D) : List D := xs.mapIdx fun i d => .tup [.int (k + (i : Nat)), d]
def dEnumT (a : DA) : DS → Res Iter0 := fun S => (a S).bind fun ds S1 => match ds with
  | [.tup xs] => .ok (.vals (numD 0 xs)) S1
  | _ => .stuck
def IteT (K : PySem.W.Frag) (a : Addr) (k : Int) : It :=
  ⟨fun i H => ∃ (xs : List V) (x : V), SqT K H a xs ∧ xs[i]? = some x, fun i H v H' => ∃ T x, v = .ref T ∧ H T = none ∧ H' = upd H T (.tup [.int (k + (i : Nat)), x]) ∧ ∀ xs, SqT K H a xs → xs[i]? = some x, fun i H => ∃ xs : List V, SqT K H a xs ∧ xs.length ≤ i⟩
theorem turn_enumT {P : Program} {w : World} {K : PySem.W.Frag} {elts : List Expr} {kk : Nat} {tpos : Pos} (a e it : Addr) (k : Int) :
    Turn P w K (.Tuple elts kk tpos) (IteT K a k) [e, it] e (fun i h => (∃ old, IsEnum h e it (k + ((i : Nat) : Int)) old) ∧ h.IsTupleIter it a i ∧ e ≠ it) where
  mem := by simp
  obj := fun i h st b hb => by
    obtain ⟨⟨old, he⟩, ⟨o, ho, hc, hd⟩, _⟩ := st
    have e' : b = e ∨ b = it := by simpa using hb
    rcases e' with z | z
    · rw [z]; exact ⟨_, he, fun v q => nomatch q⟩
    · rw [z]; exact ⟨o, ho, fun v q => by rw [hd] at q; cases q⟩
  keep := fun i h h' st k => let ⟨⟨old, he⟩, hi, hne⟩ := st; ⟨⟨old, k e (by simp) _ he⟩, hi.at fun o q => k it (by simp) o q, hne⟩
  item := by
    intro X hP hw hK hc i pins s σ H E I hf st hg
    subst hP hw hK
    obtain ⟨⟨old, he⟩, hit, hne⟩ := st
    obtain ⟨xs, x, hq, hx⟩ := hg
    obtain ⟨its, rv, p, hz⟩ := I.tuple hq
    obtain ⟨u, hu, ru⟩ := rv.get hx
    have pT : s.heap.IsTuple a its.toArray := p
    have hel : e < s.heap.objs.size := Heap.lt_size he
    have hil : it < s.heap.objs.size := by obtain ⟨_, q, _⟩ := hit; exact Heap.lt_size q
    have hae : e ≠ a := fun q => by
      obtain ⟨o, ho, hc', _⟩ := pT
      rw [← q, he] at ho; cases ho
      injection hc' with hc'; exact absurd hc' (by decide)
    have hai : a ≠ it := fun q => by
      obtain ⟨o, ho, hc', _⟩ := pT
      obtain ⟨o2, ho2, hc2, _⟩ := hit
      rw [q, ho2] at ho; cases ho
      rw [hc2] at hc'
      injection hc' with hc'; exact absurd hc' (by decide)
    have hlt : i < its.toArray.size := by rw [List.size_toArray]; exact (List.getElem?_eq_some_iff.mp hu).1
    refine wpAny_pyNext_enum_itemC (Draws.tuple (A := X.A.in1) (I.ok.hd hc) it a hai its.toArray) he ⟨hit, pT⟩ hlt hne (by simp [hne, hae]) fun x' h' tk hP ho hst' hT hsz hk => ?_
    have ex' : x' = u := by
      have hP' : its.toArray[i]? = some x' := hP
      rw [List.getElem?_toArray, hu] at hP'
      exact (Option.some.inj hP').symm
    subst ex'
    obtain ⟨hit', _⟩ := hst'
    refine ⟨_, rfl, wpAny_letOwnedTupleGo_enum (s := { s with heap := h', toks := tk + 1 }) ho fun h'' he' sb => ?_⟩
    have hT2 : h''.get? s.heap.objs.size = some { cls := .type "tuple", data := .seq #[.int (k + ((i : Nat) : Int)) tk, x'] } := (sb.2 _ (Nat.ne_of_gt hel)).trans hT
    have new : ObjOk X.prog X.w (upd H s.heap.objs.size (.tup [.int (k + (i : Nat)), x])) h'' s.heap.objs.size (.tup [.int (k + (i : Nat)), x]) :=
      ⟨by show 2 ≤ sizeLine; rw [sizeLine_eq]; decide, [.int (k + ((i : Nat) : Int)) tk, x'], .cons ⟨_, rfl⟩ (.cons ru .nil), ⟨_, hT2, rfl, _, rfl⟩⟩
    have I1 : Inv X pins σ (upd H s.heap.objs.size (.tup [.int (k + (i : Nat)), x])) { s with heap := h'', toks := tk + 1 } :=
      I.turnedNew (ch := [e, it]) (fun b ob hb q => (sb.2 b (fun z => hb (by simp [z]))).trans (hk b ob (fun z => hb (by simp [z])) (fun z => hb (by simp [z])) q)) hf (Nat.le_refl _) new
    refine ⟨.ref s.heap.objs.size, _, I1, rfl, ⟨_, x, rfl, I.hok.fresh (Nat.le_refl _), rfl, fun ys hy => by rw [I.tuple_inj hy hq]; exact hx⟩, ⟨⟨x', ?_⟩, hit'.at fun o q => (sb.2 it (Ne.symm hne)).trans q, hne⟩, fun b hb => ?_⟩
    · have e1 : k + ((i + 1 : Nat) : Int) = k + (i : Int) + 1 := by omega
      rw [e1]; exact he'
    · have hb' : b < s.heap.objs.size := by
        have e' : b = e ∨ b = it := by simpa using hb
        rcases e' with z | z
        · rw [z]; exact hel
        · rw [z]; exact hil
      rw [upd_ne (Nat.ne_of_lt hb')]
      exact (hf b hb).1
  done := by
    intro X hP hw hK hc i pins s σ H E I hf st hg
    subst hP hw hK
    obtain ⟨⟨old, he⟩, hit, hne⟩ := st
    obtain ⟨xs, hq, hx⟩ := hg
    obtain ⟨its, rv, p, hz⟩ := I.tuple hq
    have pT : s.heap.IsTuple a its.toArray := p
    obtain ⟨f0, f1, f2, f3, f4, f5⟩ := hf it (by simp)
    have hl := rv.length
    exact enum_endT (I.ok.hd hc) he hit pT (by simp; omega) fun h' eb => ⟨rfl, I.turned (t' := s.toks) (fun b o hb q => eb b o hb q) f0 f1 f3 f4 f5⟩
  self := fun A i s Q E st h => let ⟨⟨_, he⟩, _⟩ := st; wpAny_pyIter_enum he h
def iEnumT (K : PySem.W.Frag) (ta : TA) : TI := fun σ H R => ta σ H fun vs H1 => ∃ a xs, vs = [.ref a] ∧ SqT K H1 a xs ∧ R (IteT K a 0) H1
theorem pi_enumT {e : Expr} {ta : TA} {elts : List Expr} {kk : Nat} (hg : Gl X "enumerate") (hm : X.mg "enumerate" = none) (ha : PA X [e] ta) (hs : starEach [e] X.env = [(false, eval e X.env)] := by rfl) :
    PI X (.Tuple elts kk tpos) (.Call (.Name "enumerate" p) [e] [] pos) (iEnumT X.K ta) := by
  refine ⟨fun pins s σ H R I h => ?_⟩
  refine PyProof.Rows.Call_ (ld_blt I hg hm PyProof.Rows.boot_enumerate (PyProof.Rows.callWith_type1 (thn (ha.run pos pins s σ H _ I h) fun us s1 ⟨vs, H1, I1, r1, q1⟩ => ?_) hs rfl))
  obtain ⟨a, xs, rfl, hq, q⟩ := q1
  cases r1 with
  | cons r rr =>
    cases rr
    cases r
    obtain ⟨its, rv, p', hz⟩ := I1.tuple hq
    refine enum_begins1 (begins_tuple a its.toArray) p' fun h' he' hit hsz hkp => wpAny_pyIter_enum he' ?_
    have I3 : Inv X pins σ H1 { s1 with heap := h' } := I1.kept (t' := s1.toks) hkp
    refine ⟨s1.heap.objs.size + 1, [s1.heap.objs.size + 1, s1.heap.objs.size], _, _, H1, rfl, I3, turn_enumT a (s1.heap.objs.size + 1) s1.heap.objs.size 0, ⟨⟨.none, by simpa using he'⟩, ⟨_, hit, rfl, rfl⟩, Nat.succ_ne_self _⟩, fun b hb => ?_, q⟩
    have e' : b = s1.heap.objs.size + 1 ∨ b = s1.heap.objs.size := by simpa using hb
    have hle : s1.heap.objs.size ≤ b := by
      rcases e' with z | z
      · rw [z]; exact Nat.le_add_right _ _
      · rw [z]; exact Nat.le_refl _
    exact I1.fpOk hle (I1.hok.fresh hle)
theorem numD_get {k : Int} {xs : List D} {i : Nat} {d : D} (h : (numD k xs)[i]? = some d) : ∃ x, xs[i]? = some x ∧ d = .tup [.int (k + (i : Nat)), x] := by
  unfold numD at h
  rw [List.getElem?_mapIdx] at h
  obtain ⟨x, hx, rfl⟩ := Option.map_eq_some_iff.mp h
  exact ⟨x, hx, rfl⟩
theorem walk_enumT {xs : List D} {vs : List V} {a : Addr} {k : Int} (h1 : SqT K H a vs) (r1 : Reps K cm L H xs vs) : Walks0 K cm L H (numD k xs) (IteT K a k) :=
  ⟨fun L' H' i d e h => by
    obtain ⟨x, hx, rfl⟩ := numD_get h
    obtain ⟨v, hv, rv⟩ := r1.get hx
    refine ⟨⟨vs, v, e.tup _ _ h1, hv⟩, fun z H2 q => ?_⟩
    obtain ⟨T, x0, rfl, hT, rfl, hx0⟩ := q
    have e1 := hx0 vs (e.tup _ _ h1)
    rw [hv] at e1; cases e1
    exact pair_new hT (rv.mono e),
  fun L' H' e => by
    refine ⟨vs, e.tup _ _ h1, ?_⟩
    unfold numD
    rw [List.length_mapIdx, r1.length]
    exact Nat.le_refl _⟩
theorem i_enumT {elts : List Expr} {kk : Nat} (hg : Gl X "enumerate") (hm : X.mg "enumerate" = none) (ha : PA X [e] (rdA X.K cm W ga)) (hs : starEach [e] X.env = [(false, eval e X.env)] := by rfl) :
    PI X (.Tuple elts kk tpos) (.Call (.Name "enumerate" p) [e] [] pos) (rdI X.K cm W (dEnumT ga)) := weakI (pi_enumT hg hm ha hs) fun σ H R q => by
  obtain ⟨L, S, a, q⟩ := q
  refine ⟨L, S, a, (Aft.step (R := Reps X.K cm) q).mono fun v H1 z => ?_⟩
  obtain ⟨L1, S1, ds, e1, x1, r1, q1⟩ := z
  split at q1
  · cases r1 with
    | cons r1 r2 =>
      cases r2
      cases r1 with
      | tup h1 r1 => exact ⟨_, _, rfl, h1, q1.give x1 (walk_enumT h1 r1)⟩
  · exact q1.elim
end
end Den

namespace Den
open PySem PySem.Spec PyProof.Rows L2
/-! ### 80. while -/
def sWhile (t : DT) (b : DSt) : Nat → DSt
  | 0 => fun _ => .stuck
  | k + 1 => fun S => (t S).bind fun c S1 => if c = true then (b S1).bind fun f S2 => match f with
    | .next => sWhile t b k S2
    | .cont => sWhile t b k S2
    | .brk => .ok .next S2
    | .ret d => .ok (.ret d) S2 else .ok .next S1
section
variable {X : Cx} {cm : Str → Value} {W : WX} {pos : Pos}
theorem s_while {c : Expr} {body : List Stmt} {t : DT} {b : DSt} (n : Nat) (hp : PassesOwn (model X.prog X.w) X.A X.env X.xe) (hc : PT X c (rdT X.K cm W t)) (hb : PSs X body (rdS X.K cm W b)) :
    PS X (.While c body [] pos) (rdS X.K cm W (sWhile t b n)) := weakS (ps_while hp hc hb) fun E σ H q => by
  obtain ⟨L, S, a, q⟩ := q
  refine ⟨fun m σ H => ∃ L S, AbS X.K cm L H S σ ∧ AftS X.K cm W L H (sWhile t b m S) E, ⟨n, L, S, a, q⟩, ?_⟩
  rintro m σ H ⟨L, S, a, q⟩
  cases m with
  | zero => exact q.elim
  | succ m =>
    refine ⟨L, S, a, (AftS.step (R := fun _ _ (b c : Bool) => b = c) q).mono fun v H1 z => ?_⟩
    obtain ⟨L1, S1, d, e1, x1, r1, q1⟩ := z
    subst r1
    cases d with
    | true =>
      rw [if_pos rfl] at q1 ⊢
      refine ⟨fun σ' H' => ∃ L S, AbS X.K cm L H' S σ' ∧ AftS X.K cm W L H' (sWhile t b m S) E, fun σ' H' w => ⟨m, Nat.lt_succ_self _, w⟩, L1, S1, x1, ?_⟩
      generalize b S1 = r at q1
      cases r with
      | ok f S2 =>
        rw [Res.bind_ok] at q1
        cases f with
        | next => exact fun L' H' σ' e x => ⟨L', S2, x, AftS.ext e q1⟩
        | cont => exact fun L' H' σ' e x => ⟨L', S2, x, AftS.ext e q1⟩
        | brk => exact q1
        | ret d => exact q1
      | exc u S2 => exact q1
      | stuck => exact q1.elim
    | false =>
      rw [if_neg (by decide)] at q1 ⊢
      exact q1 L1 H1 σ Ext.refl x1
end
/-- its turns -/
theorem while_end {t : DT} {b : DSt} {k : Nat} {S S1 : DS} (h : t S = .ok false S1) : sWhile t b (k + 1) S = .ok .next S1 := by
  unfold sWhile
  rw [h, Res.bind_ok, if_neg (by decide)]
theorem while_next {t : DT} {b : DSt} {k : Nat} {S S1 S2 : DS} {f : Fl} (h : t S = .ok true S1) (h2 : b S1 = .ok f S2) (hf : f = .next ∨ f = .cont) : sWhile t b (k + 1) S = sWhile t b k S2 := by
  conv => lhs; unfold sWhile
  rw [h, Res.bind_ok, if_pos rfl, h2, Res.bind_ok]
  rcases hf with rfl | rfl <;> rfl
/-- a while by an invariant and a measure -/
theorem while_inv {t : DT} {b : DSt} (I : Nat → DS → Prop) (step : ∀ m S, I m S → Ok (t S) fun c S1 => if c = true then Ok (b S1) fun f S2 => (f = .next ∨ f = .cont) ∧ ∃ m', m' < m ∧ I m' S2 else I m S1) (Q : DS → Prop) (out : ∀ m S S1, I m S → t S = .ok false S1 → Q S1) :
    ∀ (k m : Nat) (S : DS), m < k → I m S → ∃ S', sWhile t b k S = .ok .next S' ∧ Q S'
  | 0, m, S, h, _ => absurd h (Nat.not_lt_zero _)
  | k + 1, m, S, h, i => by
    obtain ⟨c, S1, e1, q⟩ := (step m S i).ex
    cases c with
    | true =>
      rw [if_pos rfl] at q
      obtain ⟨f, S2, e2, hf, m', lt, i2⟩ := q.ex
      obtain ⟨S', e3, q3⟩ := while_inv I step Q out k m' S2 (by omega) i2
      exact ⟨S', by rw [while_next e1 e2 hf, e3], q3⟩
    | false => exact ⟨S1, while_end e1, out m S S1 i e1⟩
end Den

namespace Den
open PySem PySem.Spec PyProof.Rows L2
/-! ### 81. sorted of a list of alike data -/
def tupCons : PyData → Bool
  | .tuple (_ :: _) => true
  | _ => false
def plainK : PyData → Bool
  | .none => false
  | .tuple _ => false
  | _ => true
/-- a sort that the kernel can reckon: it is List.mergeSort -/
def insS {α : Type} (le : α → α → Bool) (x : α) : List α → List α
  | [] => [x]
  | y :: l => if le x y then x :: y :: l else y :: insS le x l
def isort {α : Type} (le : α → α → Bool) : List α → List α
  | [] => []
  | x :: l => insS le x (isort le l)
theorem insS_mem {α : Type} {le : α → α → Bool} {x z : α} : ∀ {l : List α}, z ∈ insS le x l ↔ z = x ∨ z ∈ l
  | [] => by simp [insS]
  | y :: l => by
    unfold insS
    split
    · simp
    · simp only [List.mem_cons, insS_mem (l := l)]
      constructor
      · rintro (h | h | h)
        · exact .inr (.inl h)
        · exact .inl h
        · exact .inr (.inr h)
      · rintro (h | h | h)
        · exact .inr (.inl h)
        · exact .inl h
        · exact .inr (.inr h)
theorem insS_pair {α : Type} {le : α → α → Bool} (h : PySem.W.TotalLe le) {x : α} : ∀ {l : List α}, l.Pairwise (fun a b => le a b = true) → (insS le x l).Pairwise (fun a b => le a b = true)
  | [], _ => by simp [insS]
  | y :: l, p => by
    obtain ⟨p1, p2⟩ := List.pairwise_cons.mp p
    unfold insS
    split
    · rename_i hx
      refine List.pairwise_cons.mpr ⟨fun z hz => ?_, p⟩
      rcases List.mem_cons.mp hz with rfl | hz
      · exact hx
      · exact h.trans _ _ _ hx (p1 z hz)
    · rename_i hx
      refine List.pairwise_cons.mpr ⟨fun z hz => ?_, insS_pair h p2⟩
      rcases insS_mem.mp hz with rfl | hz
      · exact (h.total _ _).resolve_right hx
      · exact p1 z hz
theorem insS_same {α : Type} {le : α → α → Bool} (h : PySem.W.TotalLe le) {x : α} (c : α) : ∀ l : List α, (insS le x l).filter (PySem.W.sameRank le c) = (x :: l).filter (PySem.W.sameRank le c)
  | [] => rfl
  | y :: l => by
    unfold insS
    split
    · rfl
    · rename_i hx
      rw [List.filter_cons, insS_same h c l, List.filter_cons, List.filter_cons, List.filter_cons]
      cases hy : PySem.W.sameRank le c y with
      | false => rfl
      | true =>
        cases hz : PySem.W.sameRank le c x with
        | false => rfl
        | true =>
          unfold PySem.W.sameRank at hy hz
          simp only [Bool.and_eq_true] at hy hz
          exact absurd (by first | exact h.trans _ _ _ hz.1 hy.2 | exact h.trans _ _ _ hz.2 hy.1) hx
theorem isort_eq {α : Type} {le : α → α → Bool} (h : PySem.W.TotalLe le) (l : List α) : isort le l = l.mergeSort le := by
  have hp : ∀ l : List α, (isort le l).Pairwise (fun a b => le a b = true) := by
    intro l
    induction l with
    | nil => exact .nil
    | cons x l ih => exact insS_pair h ih
  have hf : ∀ (c : α) (l : List α), (isort le l).filter (PySem.W.sameRank le c) = l.filter (PySem.W.sameRank le c) := by
    intro c l
    induction l with
    | nil => rfl
    | cons x l ih =>
      show (insS le x (isort le l)).filter _ = _
      rw [insS_same h, List.filter_cons, List.filter_cons, ih]
  exact PySem.W.sort_unique h (hp l) fun c => hf c l
theorem dataLe_total {β : Type} (k : β → PyData) : PySem.W.TotalLe (PySem.W.dataLe false k) := PySem.W.sortLe_total _ _ _
def srtOk (ps : List PyData) : Bool := (ps.all fun p => ps.all fun q => PySem.W.alike p q) && (ps.all tupCons || ps.all plainK) && ps.all (fun p => decide (p.depth ≤ 60)) && decide (ps.length ≤ mxL)
def srtD (xs : List D) (ps : List PyData) : List D := (isort (PySem.W.dataLe false Prod.snd) (xs.zip ps)).map Prod.fst
def cSorted : List D → DS → Res D := fun ds S => match ds with
  | [.ref n] => match S.h[n]? with
    | some (.lst xs) => match xs.mapM (pyD S) with
      | some ps => if srtOk ps = true then newO (.lst (srtD xs ps)) S else .stuck
      | none => .stuck
    | _ => .stuck
  | [.tup xs] => match xs.mapM (pyD S) with
    | some ps => if srtOk ps = true then newO (.lst (srtD xs ps)) S else .stuck
    | none => .stuck
  | _ => .stuck
abbrev B3 := V × D × PyData
def rSrt (K : PySem.W.Frag) : List V → Hp → VK → Prop := fun ws H Q => ∃ (a : Addr) (bs : List B3), ws = [.ref a] ∧ (SqL K H a (bs.map (·.1)) ∨ SqT K H a (bs.map (·.1))) ∧ (∀ b ∈ bs, Dp K H b.1 b.2.2) ∧ srtOk (bs.map (·.2.2)) = true ∧
  ∀ p, H p = none → Q (.ref p) (upd H p (.lst ((bs.mergeSort (PySem.W.dataLe false (fun b : B3 => b.2.2))).map (·.1))))
section
variable {prog : Program} {w : World} {A : Around} {E : Value → Shared → Prop} {s : Shared}
open PySem.W in
/-- collect of a tuple -/
theorem collect_tup {l : Addr} {vs : List Value} {Q : List Value → Shared → Prop} (hl : IsTup s.heap l vs.toArray)
    (h : Q vs { s with heap := (s.heap.push (seqObj "list" #[] 0)).update s.heap.objs.size (Obj.mapSeq (· ++ vs.toArray)) }) (hsz : vs.length ≤ sizeLine) :
    wpAny (model prog w) A (collect (.ref l)) Q E s := by
  obtain ⟨o, ho, hc, n, hd⟩ := id hl
  unfold collect
  refine wpAny_bind (wpAny_runValue (codeAny_builtin entry_proto_collect' ?_))
  show wpAny _ _ (do again (.builtin "list.__iadd__" ⟨[← newList [], .ref l], []⟩)) _ _ s
  refine wpAny_bind (wpAny_newList (wpAny_pure ⟨Code.quiet_builtin _ (by decide +kernel), codeAny_builtin entry_list_iadd' ?_⟩))
  show wpAny _ _ (Builtin.List.listExtendWith (.ref s.heap.objs.size) (.ref l) (.ref s.heap.objs.size)) _ _ { s with heap := s.heap.push (seqObj "list" #[] 0) }
  unfold Builtin.List.listExtendWith
  have ho' : (s.heap.push (seqObj "list" #[] 0)).get? l = some o := Heap.get?_push_of_some _ ho
  refine wpAny_bind (wpAny_typeOf (T := "tuple") ⟨o, ho', hc⟩ ?_)
  have ht : (Value.type "tuple" == Value.type "list") = false := by rfl
  have ht2 : (Value.type "tuple" == Value.type "tuple") = true := by rfl
  rw [if_pos (by rw [ht, ht2]; simp)]
  refine wpAny_bind (listItems_at ho' hd ?_)
  refine wpAny_bind (listItems_at (xs := #[]) (n := 0) (Heap.get?_push_size _ rfl) rfl ?_)
  rw [if_neg (by simp)]
  refine wpAny_bind (listUpdate_at (xs := #[]) (n := 0) (Heap.get?_push_size _ rfl) rfl ?_ (Nat.zero_le _) (by show (#[] ++ vs.toArray).size ≤ sizeLine + 1; simp only [Array.size_append, List.size_toArray, List.length_nil]; omega))
  refine wpAny_pure ?_
  show wpAny (model prog w) A (do
      let o ← load s.heap.objs.size
      match o.data with
      | .seq xs _ => pure xs.toList
      | _ => unsupported "internal:collect") Q E { s with heap := (s.heap.push (seqObj "list" #[] 0)).update s.heap.objs.size (Obj.mapSeq (· ++ vs.toArray)) }
  refine wpAny_bind (wpAny_load (get?_update_seq (Heap.get?_push_size _ rfl) _) ?_)
  show wpAny _ _ (pure ((#[] : Array Value) ++ vs.toArray).toList) Q E _
  rw [show ((#[] : Array Value) ++ vs.toArray).toList = vs by simp]
  exact wpAny_pure h
open PySem.W in
theorem sorted_of_sortT {l : Addr} {vs : List Value} {kw : List (Str × Value)} {Q : Value → Shared → Prop} (hl : IsTup s.heap l vs.toArray) (hL : vs.length ≤ sizeLine) (ha1 : argsOk "sorted" ⟨[.ref l], kw⟩) (ha2 : ∀ x, argsOk "list.sort" ⟨[.ref x], kw⟩)
    (body : ∀ E' : Value → Shared → Prop, wpAny (model prog w) A.in1.in1 (Builtin.«list.sort» ⟨[.ref (s.heap.objs.size + 1)], kw⟩) (fun f s' => f = .done (.ret .none) ∧ Q (.ref (s.heap.objs.size + 1)) s') E' { s with heap := copyHeap s.heap vs }) :
    wpAny (model prog w) A (call (.builtin "sorted") [.ref l] kw) Q E s := by
  refine call_function_entry_kw kind_sorted plain_sorted entry_sorted ha1 ?_
  unfold Builtin.«sorted»
  refine wpAny_bind (m := checkCount "sorted" 1 1 _) (wpAny_pure ?_)
  refine wpAny_bind (collect_tup hl ?_ hL)
  refine wpAny_bind (wpAny_newList ?_ hL)
  have hsz : ((s.heap.push (seqObj "list" #[] 0)).update s.heap.objs.size (Obj.mapSeq (· ++ vs.toArray))).objs.size = s.heap.objs.size + 1 := by
    rw [Heap.size_update, size_push']
  show wpAny _ _ _ _ _ { s with heap := copyHeap s.heap vs }
  rw [hsz]
  refine wpAny_bind (wpAny_holding (wpAny_call_entry_kw slot_list_sort ⟨_, copyHeap_at s.heap vs, rfl⟩ entry_list_sort ?body (ha2 _)))
  case body =>
    show wpAny (model prog w) A.in1.in1 (Builtin.«list.sort» ⟨[.ref (s.heap.objs.size + 1)], kw⟩) _ _ _
    refine wpAny_mono (body _) (fun f s' hf => ?_) fun _ _ e => e
    obtain ⟨rfl, hq⟩ := hf
    exact ⟨_, rfl, wpAny_pure ⟨_, rfl, hq⟩⟩
open PySem.W in
theorem sorted_dataT {β : Type} {enc : β → PyData} {vs : List Value} {bs : List β} {R : Value → β → Prop} {l : Addr} {Q : Value → Shared → Prop} (hl : IsTup s.heap l vs.toArray) (e : EachIs R vs bs) (er : EachIs (fun v b => ∃ as, Reads s.heap v (enc b) as) vs bs) (hal : AllAlike (bs.map enc)) (hk : Sortable (bs.map enc)) (hL : bs.length ≤ sizeLine)
    (hu : ∀ b, b ∈ bs → A.units + 2 + (enc b).depth < cLine) (h : ∀ out, out.length = bs.length → EachIs R out (bs.mergeSort (dataLe false enc)) → Q (.ref (s.heap.objs.size + 1)) { s with heap := sortedAll s.heap vs (List.toArray out) }) :
    wpAny (model prog w) A (call (.builtin "sorted") [.ref l]) Q E s := by
  have er' : EachIs (fun v b => ∃ as, Reads (sortingHeap (copyHeap s.heap vs) (s.heap.objs.size + 1) vs) v (enc b) as) vs bs := er.mono fun _ _ ⟨as, r⟩ => ⟨as, PyProof.Rows.Reads.keeps (fun _ _ => sorting_copy_old) r⟩
  have hLv : vs.length ≤ sizeLine := by rw [e.length]; exact hL
  refine sorted_of_sortT hl hLv (args_sorted1 _) (fun _ => args_list_sort _) fun _ => list_sort_vals (s := { s with heap := copyHeap s.heap vs }) (copyHeap_at s.heap vs)
    (SortsAt.data (s := { s with heap := sortingHeap (copyHeap s.heap vs) (s.heap.objs.size + 1) vs }) (each_map (R := fun v d => ∃ as, Reads (sortingHeap (copyHeap s.heap vs) (s.heap.objs.size + 1) vs) v d as) enc er') hal hk (bound_map hu)) hLv ⟨rfl, ?_⟩
  exact h _ (by rw [sortVals_length false rfl]; exact e.length) (sortVals_data false e er' hal)
end
section
variable {X : Cx} {cm : Str → Value} {W : WX}
theorem srt_each : ∀ {bs : List B3} {its : List Value}, Vals (bs.map (·.1)) its → PySem.W.EachIs (fun u (b : B3) => RelV b.1 u) its bs
  | [], its, r => by cases r; exact .nil
  | b :: bs, its, r => by
    cases r with
    | cons r1 r2 => exact .cons r1 (srt_each r2)
theorem srt_reads {pins : List (Addr × Obj)} {s : Shared} {σ : L2.St} {H : Hp} (I : Inv X pins σ H s) : ∀ {bs : List B3} {its : List Value}, PySem.W.EachIs (fun u (b : B3) => RelV b.1 u) its bs → (∀ b ∈ bs, Dp X.K H b.1 b.2.2) → PySem.W.EachIs (fun u (b : B3) => ∃ as, Reads s.heap u b.2.2 as) its bs
  | _, _, .nil, _ => .nil
  | _, _, .cons h t, hd => .cons (Dp.reads I _ _ _ (hd _ (by simp)) h) (srt_reads I t fun b hb => hd b (List.mem_cons_of_mem _ hb))
theorem srt_back : ∀ {out : List Value} {bs : List B3}, PySem.W.EachIs (fun u (b : B3) => RelV b.1 u) out bs → Vals (bs.map (·.1)) out
  | _, _, .nil => .nil
  | _, _, .cons h t => .cons h (srt_back t)
theorem srt_parts {ps : List PyData} (h : srtOk ps = true) : PySem.W.AllAlike ps ∧ PySem.W.Sortable ps ∧ (∀ p ∈ ps, p.depth ≤ 60) ∧ ps.length ≤ mxL := by
  unfold srtOk at h
  simp only [Bool.and_eq_true, Bool.or_eq_true, decide_eq_true_eq, List.all_eq_true] at h
  obtain ⟨⟨⟨h1, h2⟩, h3⟩, h4⟩ := h
  refine ⟨fun p hp q hq => h1 p hp q hq, ?_, h3, h4⟩
  rcases h2 with h2 | h2
  · refine .inl fun d hd => ?_
    have := h2 d hd
    unfold tupCons at this
    match d, this with
    | .tuple (x :: r), _ => exact ⟨x, r, rfl⟩
  · refine .inr fun d hd => ?_
    have := h2 d hd
    refine ⟨fun z => ?_, fun xs z => ?_⟩
    · rw [z] at this; cases this
    · rw [z] at this; cases this
theorem call_sortedD (hu : X.A.units + 64 < cLine) : CallR X (.builtin "sorted") (rSrt X.K) := by
  intro pins s σ H ws us Q I r h
  obtain ⟨a, bs, rfl, hs, hd, ok, q⟩ := h
  rw [Vals.ref1 r]
  obtain ⟨h1, h2, h3, h4⟩ := srt_parts ok
  have fin : ∀ its : List Value, Vals (bs.map (·.1)) its → (bs.map (·.1)).length ≤ sizeLine → (∀ {Q : Value → Shared → Prop} {enc : B3 → PyData} {R : Value → B3 → Prop}, PySem.W.EachIs R its bs → PySem.W.EachIs (fun v b => ∃ as, Reads s.heap v (enc b) as) its bs → PySem.W.AllAlike (bs.map enc) → PySem.W.Sortable (bs.map enc) → bs.length ≤ sizeLine →
      (∀ b, b ∈ bs → X.A.units + 2 + (enc b).depth < cLine) → (∀ out, out.length = bs.length → PySem.W.EachIs R out (bs.mergeSort (PySem.W.dataLe false enc)) → Q (.ref (s.heap.objs.size + 1)) { s with heap := PyProof.Rows.sortedAll s.heap its (List.toArray out) }) →
      wpAny (model X.prog X.w) X.A (call (.builtin "sorted") [.ref a]) Q X.xe s) → wpAny (model X.prog X.w) X.A (call (.builtin "sorted") [.ref a]) (EP X pins σ Q) X.xe s := by
   intro its rv hz go
   have e := srt_each rv
   have er := srt_reads I e hd
   have hlen : bs.length ≤ sizeLine := by rw [List.length_map] at hz; exact hz
   refine go (R := fun u (b : B3) => RelV b.1 u) (enc := fun b : B3 => b.2.2) e er h1 h2 hlen (fun b hb => ?_) fun out ho eo => ?_
   · have := h3 b.2.2 (List.mem_map.mpr ⟨b, hb, rfl⟩)
     omega
   · obtain ⟨ep, he'⟩ := PyProof.Rows.sortedAll_at s.heap its out.toArray
     have hl2 : ((bs.mergeSort (PySem.W.dataLe false (fun b : B3 => b.2.2))).map (·.1)).length ≤ sizeLine := by
       rw [List.length_map, List.length_mergeSort]; exact hlen
     exact ⟨.ref _, upd H (s.heap.objs.size + 1) (.lst ((bs.mergeSort (PySem.W.dataLe false (fun b : B3 => b.2.2))).map (·.1))), I.laid (t' := s.toks) (fun _ _ => PyProof.Rows.sortedAll_old) (Nat.le_succ _) ⟨hl2, out, ep, srt_back eo, he'⟩, rfl, q _ (I.hok.fresh (Nat.le_succ _))⟩
  rcases hs with hs | hs
  · obtain ⟨its, rv, hl, hz⟩ := I.list hs
    exact fin its rv hz fun e er h1 h2 h3 h4 h5 => PySem.W.sorted_data hl.isList e er h1 h2 h3 h4 h5
  · obtain ⟨its, rv, hl, hz⟩ := I.tuple hs
    exact fin its rv hz fun e er h1 h2 h3 h4 h5 => sorted_dataT hl e er h1 h2 h3 h4 h5
theorem mapM_all {α β : Type} {f : α → Option β} : ∀ {xs : List α} {ys : List β}, xs.mapM f = some ys → ys.length = xs.length ∧ ∀ p ∈ xs.zip ys, f p.1 = some p.2
  | [], ys, h => by
    rw [mapM_nil'] at h
    cases h
    exact ⟨rfl, fun p hp => by simp at hp⟩
  | x :: xs, ys, h => by
    obtain ⟨y, r, h1, h2, rfl⟩ := mapM_some h
    obtain ⟨l, g⟩ := mapM_all h2
    refine ⟨by simp [l], fun p hp => ?_⟩
    rw [List.zip_cons_cons] at hp
    rcases List.mem_cons.mp hp with rfl | hp
    · exact h1
    · exact g p hp
theorem reps_zip {K : PySem.W.Frag} {L : List Addr} {H : Hp} : ∀ {xs : List D} {vs : List V}, Reps K cm L H xs vs → ∀ {β : Type} {ys : List β}, ∀ b ∈ vs.zip (xs.zip ys), Rep K cm L H b.2.1 b.1
  | _, _, .nil, _, _, b, hb => by simp at hb
  | _, _, .cons r t, _, [], b, hb => by simp at hb
  | _, _, .cons r t, _, y :: ys, b, hb => by
    rw [List.zip_cons_cons, List.zip_cons_cons] at hb
    rcases List.mem_cons.mp hb with rfl | hb
    · exact r
    · exact reps_zip t b hb
theorem reps_of {K : PySem.W.Frag} {L : List Addr} {H : Hp} : ∀ {bs : List B3}, (∀ b ∈ bs, Rep K cm L H b.2.1 b.1) → Reps K cm L H (bs.map (·.2.1)) (bs.map (·.1))
  | [], _ => .nil
  | b :: bs, h => .cons (h b (by simp)) (reps_of fun x hx => h x (List.mem_cons_of_mem _ hx))
theorem srt_co {L : List Addr} {H : Hp} {S : DS} {σ : L2.St} {xs : List D} {vs : List V} {ps : List PyData} {p1 : Addr} {Q : VK} (a : AbS X.K cm L H S σ) (rr : Reps X.K cm L H xs vs) (hp : xs.mapM (pyD S) = some ps) (ok : srtOk ps = true) (hs : SqL X.K H p1 vs ∨ SqT X.K H p1 vs)
    (q : Aft X.K cm W (Rep X.K cm) L σ H (newO (.lst (srtD xs ps)) S) Q) : rSrt X.K [.ref p1] H Q := by
  obtain ⟨lp, gp⟩ := mapM_all hp
  have lv := rr.length
  have e2 : (vs.zip (xs.zip ps)).map (·.2) = xs.zip ps := List.map_snd_zip (by rw [List.length_zip]; omega)
  have e1 : (vs.zip (xs.zip ps)).map (·.1) = vs := List.map_fst_zip (by rw [List.length_zip]; omega)
  have e3 : (vs.zip (xs.zip ps)).map (·.2.2) = ps := by
    have : (vs.zip (xs.zip ps)).map (·.2.2) = ((vs.zip (xs.zip ps)).map (·.2)).map (·.2) := by rw [List.map_map]; rfl
    rw [this, e2]
    exact List.map_snd_zip (by omega)
  have rz := reps_zip (cm := cm) rr (ys := ps)
  refine ⟨p1, vs.zip (xs.zip ps), rfl, by rw [e1]; exact hs, fun b hb => ?_, by rw [e3]; exact ok, fun p hpn => ?_⟩
  · refine pyD_rep a (rz b hb) (gp b.2 ?_)
    rw [← e2]
    exact List.mem_map.mpr ⟨b, hb, rfl⟩
  · have e4 : srtD xs ps = ((vs.zip (xs.zip ps)).mergeSort (PySem.W.dataLe false (fun b : B3 => b.2.2))).map (·.2.1) := by
      unfold srtD
      rw [isort_eq (dataLe_total _)]
      have m : ((vs.zip (xs.zip ps)).mergeSort (PySem.W.dataLe false (fun b : B3 => b.2.2))).map (·.2) = ((vs.zip (xs.zip ps)).map (·.2)).mergeSort (PySem.W.dataLe false Prod.snd) := List.map_mergeSort fun _ _ _ _ => rfl
      rw [e2] at m
      rw [← m, List.map_map]
      rfl
    rw [e4] at q
    exact give_new a (reps_of fun b hb => rz b (List.mem_mergeSort.mp hb)) q hpn
theorem co_sorted : COp X cm W (rSrt X.K) cSorted := by
  intro L H S σ ws ds Q a r q
  unfold cSorted at q
  split at q
  · split at q
    · rename_i xs hx
      split at q
      · rename_i ps hp
        split at q
        · rename_i ok
          cases r with
          | cons r1 r2 =>
            cases r2
            obtain ⟨p1, vs, rfl, g1, h1, rr⟩ := a.lst r1 hx
            exact srt_co a rr hp ok (.inl (SqL.of h1)) q
        · exact q.elim
      · exact q.elim
    · exact q.elim
  · split at q
    · rename_i xs ps hp
      split at q
      · rename_i ok
        cases r with
        | cons r1 r2 =>
          cases r2
          cases r1 with
          | tup hs rr => exact srt_co a rr hp ok (.inr hs) q
      · exact q.elim
    · exact q.elim
  · exact q.elim
def cMin2 : List D → DS → Res D := fun ds S => match ds with
  | [.int i, .int j] => .ok (.int (if j < i then j else i)) S
  | _ => .stuck
def cMax2 : List D → DS → Res D := fun ds S => match ds with
  | [.int i, .int j] => .ok (.int (if j > i then j else i)) S
  | _ => .stuck
theorem co_min2 : COp X cm W (fun xs H Q => ∃ i j, xs = [.int i, .int j] ∧ Q (.int (if j < i then j else i)) H) cMin2 := by
  intro L H S σ ws ds Q a r q
  unfold cMin2 at q
  split at q
  · cases r with
    | cons r1 r2 =>
      cases r2 with
      | cons r2 r3 => cases r3; cases r1; cases r2; exact ⟨_, _, rfl, q.give a (.int _)⟩
  · exact q.elim
theorem co_max2 : COp X cm W (fun xs H Q => ∃ i j, xs = [.int i, .int j] ∧ Q (.int (if j > i then j else i)) H) cMax2 := by
  intro L H S σ ws ds Q a r q
  unfold cMax2 at q
  split at q
  · cases r with
    | cons r1 r2 =>
      cases r2 with
      | cons r2 r3 => cases r3; cases r1; cases r2; exact ⟨_, _, rfl, q.give a (.int _)⟩
  · exact q.elim
def oShl : D → D → DS → Res D := fun x y S => match x, y with
  | .int 1, .int j => if 0 ≤ j ∧ j ≤ 1000000 then .ok (.int (2 ^ j.toNat)) S else .stuck
  | _, _ => .stuck
theorem ro_shl : ROp X cm W (fun x y H Q => ∃ k : Nat, x = .int 1 ∧ y = .int (k : Int) ∧ k ≤ 134217727 ∧ Q (.int (2 ^ k)) H) oShl := by
  intro L H S σ x y d e Q a r1 r2 q
  unfold oShl at q
  split at q
  · rename_i j
    split at q
    · rename_i h
      cases r1
      cases r2
      obtain ⟨k, rfl⟩ := Int.eq_ofNat_of_zero_le h.1
      exact ⟨k, rfl, rfl, by omega, q.give a (.int _)⟩
    · exact q.elim
  · exact q.elim
end
section
variable {X : Cx} {cm : Str → Value} {W : WX} {a b : Expr} {pos : Pos} {fa fb : DE}
theorem b_shl (ha : PE X a (rdE X.K cm W fa)) (hb : PE X b (rdE X.K cm W fb)) : PE X (.BinOp a .LShift b pos) (rdE X.K cm W (dBin oShl fa fb)) := e_op op_oneShl ro_shl ha hb
end
end Den

namespace Den
open PySem PySem.Spec PyProof.Rows L2
/-! ### 83. three names as the target of a comprehension -/
theorem set3 {α : Type} (σ : List (Option α)) (i j l : Nat) (x y z : Option α) (hij : i ≠ j) (hil : i ≠ l) (hjl : j ≠ l) :
    ((((((((σ.set l none).set j none).set i none).set i x).set j y).set l z).set l none).set j none).set i none = ((σ.set l none).set j none).set i none := by
  apply List.ext_getElem?
  intro n
  simp only [List.getElem?_set, List.length_set]
  by_cases h1 : i = n
  · simp [h1]
  · by_cases h2 : j = n
    · simp [h1, h2]
    · by_cases h3 : l = n
      · simp [h1, h2, h3]
      · simp [h1, h2, h3]
section
variable {K : PySem.W.Frag} {cm : Str → Value}
theorem tg_three (i j l : Nat) (hij : i ≠ j) (hil : i ≠ l) (hjl : j ≠ l) : TgOk K cm [i, j, l] (L2.gTup K 3 (L2.gCons (gName i) (L2.gCons (gName j) (L2.gCons (gName l) L2.gNil)))) (gTup 3 (gCons (gN i) (gCons (gN j) (gCons (gN l) gNil)))) := fun {L H S σ d x S0 Q} a r e k => by
  unfold gTup at e
  split at e
  · rename_i xs
    split at e
    · rename_i hl
      cases r with
      | @tup xs vs p hs rr =>
        cases rr with
        | nil => cases hl
        | @cons d1 ds v1 vs r1 rr =>
          cases rr with
          | nil => cases hl
          | @cons d2 ds v2 vs r2 rr =>
            cases rr with
            | nil => cases hl
            | @cons d3 ds v3 vs r3 rr =>
              cases rr with
              | cons _ _ => cases hl
              | nil =>
                refine ⟨p, _, rfl, hs, rfl, v1, _, rfl, v2, _, rfl, v3, _, rfl, rfl, ?_⟩
                cases e
                exact k _ (((a.set r1 i).set r2 j).set r3 l) (set3 σ i j l _ _ _ hij hil hjl)
    · cases e
  · cases e
end
/-! ### 84. d.get(k, z) of a dict of ours -/
def dGet2 (o k z : DE) : DE := fun S => (o S).bind fun x S1 => match x with
  | .ref n => match S1.h[n]? with
    | some (.dct _) => (k S1).bind fun y S2 => (z S2).bind fun w S3 => match S3.h[n]?, keyOf y with
      | some (.dct kvs), some kk => .ok ((valD kvs kk).getD w) S3
      | _, _ => .stuck
    | _ => .stuck
  | _ => .stuck
section
variable {X : Cx} {cm : Str → Value} {W : WX} {o e f : Expr} {apos cpos : Pos} {fo fe ff : DE}
theorem e_get2 (hu : X.A.units + 1 < cLine) (ho : PE X o (rdE X.K cm W fo)) (he : PE X e (rdE X.K cm W fe)) (hf : PE X f (rdE X.K cm W ff)) (m : M2 X o "get" apos e f cpos) : PE X (.Call (.Attribute o "get" apos) [e, f] [] cpos) (rdE X.K cm W (dGet2 fo fe ff)) := weakE (pe_dget2 hu ho he hf m) fun σ H Q q => by
  obtain ⟨L, S, a, q⟩ := q
  refine ⟨L, S, a, (Aft.step (R := Rep X.K cm) q).mono fun v H1 z => ?_⟩
  obtain ⟨L1, S1, d, e1, x1, r1, q1⟩ := z
  split at q1
  · rename_i n
    split at q1
    · rename_i kvs0 h0
      obtain ⟨p, vs0, rfl, g0, _⟩ := x1.dget r1 (.inl h0)
      refine ⟨p, rfl, .inl ⟨vs0, g0⟩, L1, S1, x1, (Aft.step (R := Rep X.K cm) q1).mono fun vk H2 z => ?_⟩
      obtain ⟨L2, S2, y, e2, x2, r2, q2⟩ := z
      refine ⟨L2, S2, x2, (Aft.step (R := Rep X.K cm) q2).mono fun vz H3 z => ?_⟩
      obtain ⟨L3, S3, w, e3, x3, r3, q3⟩ := z
      split at q3
      · rename_i kvs kk h3 hk
        obtain ⟨p', vs, ep, g, rr⟩ := x3.dget ((r1.mono e2).mono e3) (.inl h3)
        cases ep
        have rk := repK_val kk rr
        refine ⟨valV vs kk, .inl ⟨vs, kk, g, keyOf_rep (r2.mono e3) hk, rfl⟩, ?_⟩
        cases hv : valD kvs kk with
        | some d =>
          obtain ⟨v, hv2, rv⟩ := rk.1 _ hv
          rw [hv] at q3
          rw [hv2]
          exact q3.give x3 rv
        | none =>
          rw [hv] at q3
          rw [rk.2 hv]
          exact q3.give x3 r3
      · exact q3.elim
    · exact q1.elim
  · exact q1.elim
end
end Den

namespace Den
open PySem PySem.Spec PyProof.Rows L2
/-! ### 85. several except clauses, each with a name -/
abbrev Clause := Value × Nat × (Addr → Value → Option Addr → TS)
/-- D's ends behind a suite: its name is gone -/
def endsI (i : Nat) (D : Ends) : Ends := { nx := fun σ' H' => D.nx (σ'.set i none) H', rt := D.rt, bk := fun σ' H' => D.bk (σ'.set i none) H', ct := fun σ' H' => D.ct (σ'.set i none) H' }
/-- what the clauses ask of an exception: the first that fits takes it, else it goes on -/
def asks (K : PySem.W.Frag) (Wout : WX) (D : Ends) : List Clause → WX
  | [] => Wout
  | (c, i, ts) :: r => fun cls d σ H => ∃ b, PySem.W.exmOne K cls c = some b ∧ (b = true → ∀ a, H a = none → ts a cls d (endsI i D) (σ.set i (some (.ref a))) H) ∧ (b = false → asks K Wout D r cls d σ H)
inductive Clauses (X : Cx) : List ExceptHandler → List Clause → Prop
  | nil : Clauses X [] []
  | cons {x n : Str} {c : Value} {i : Nat} {ts : Addr → Value → Option Addr → TS} {b₀ : Stmt} {suite : List Stmt} {np pos' : Pos} {hds : List ExceptHandler} {l : List Clause} : X.N[i]? = some n → X.env.kindOf n = some .local → Names X x c →
      (∀ (a : Addr) (oe : Obj) (cls : Value) (d : Option Addr) (pn : List (Addr × Obj)), Zc cls d oe → (∃ vs, oe.data = .fields vs) → PSs (X.suite a ((a, oe) :: pn)) (b₀ :: suite) (ts a cls d)) → Clauses X hds l →
      Clauses X (.ExceptHandler (some (.Name x np)) (some n) (b₀ :: suite) pos' :: hds) ((c, i, ts) :: l)
section
variable {X : Cx} {body : List Stmt} {h₀ : ExceptHandler} {hds : List ExceptHandler} {l : List Clause} {pos : Pos} {tb : WX → TS} {Wout : WX}
theorem ps_tries (hs : X.stack = X.env :: X.outer) (hf : X.env.frame = some X.env.locals) (hN : X.N.Nodup) (tk : Takes X Wout)
    (hb : ∀ (W : WX) (pn : List (Addr × Obj)) (xe : Value → Shared → Prop), Takes (X.tr pn xe) W → PassesOwn (model X.prog X.w) X.A X.env xe → PSs (X.tr pn xe) body (tb W))
    (hh : Clauses X (h₀ :: hds) l) : PS X (.Try body (h₀ :: hds) [] [] pos) (fun D σ H => tb (asks X.K Wout D l) D σ H) := by
  constructor
  intro pins s σ H D I h
  have ok := I.ok
  have top : X.A.frames = some (X.env :: X.outer) := by rw [ok.frames, hs]
  apply wpAny_Try_except
  have run := (hb (asks X.K Wout D l) (X.pn ++ pins) (fun e s₁ => wpAny (model X.prog X.w) X.A (noteFrame e X.env) (fun _ s₂ => wpAny (model X.prog X.w) X.A (setFlight e none) (fun _ s₃ =>
    wpAny (model X.prog X.w) X.A (handleBy e X.env (h₀ :: hds)) (SP X pins D) X.xe s₃) X.xe s₂) X.xe s₁) ?takes PassesOwn.looking).run [] s σ H D (I.toTry _) h
  case takes =>
    rintro u s' ⟨a, B, sI, pins', σ', H', cls, d, rfl, J', nb, up, sky, na, os, ag, w⟩
    have J : Inv X pins σ' H' sI := J'.ofTry ok
    have sky' : Sky B (X.env :: X.outer) a (Zc cls d) X.env.locals s'.heap := by rw [← hs]; exact sky
    apply Sky.land Zc.steady top hf sky'
    intro h3 fl3 up3
    have J3 : Inv X pins σ' H' { s' with heap := h3 } := J.landed nb fl3.1 (up.trans up3) os ag
    obtain ⟨oe3, vs3, he3, hz3, hd3⟩ := fl3.there
    -- the exception is no frame
    have off : a ∉ frs (X.env :: X.outer) := fun hm => by
      obtain ⟨_, o', e', hnf⟩ := fl3.2.2.1.mem hm
      rw [he3] at e'
      cases e'
      exact hnf _ hd3
    have nL : a ≠ X.env.locals := fun z => off (List.mem_filterMap.mpr ⟨X.env, List.mem_cons_self, by rw [hf, z]⟩)
    have nF : a ∉ X.fs := fun hm => by
      obtain ⟨e, he, q⟩ := List.mem_filterMap.mp hm
      exact off (List.mem_filterMap.mpr ⟨e, List.mem_cons_of_mem _ he, q⟩)
    have S3 := J3.suite he3 hd3 na nL nF
    have LT : PySem.W.Looks (model X.prog X.w) h3 (typeOf (.ref a)) cls := fun A Q E s k q => wpAny_typeOf_ref (k _ _ he3) (by rw [hz3.1]; exact q)
    suffices go : ∀ (hds' : List ExceptHandler) (l' : List Clause), Clauses X hds' l' → asks X.K Wout D l' cls d σ' H' → wpAny (model X.prog X.w) X.A (handleBy (.ref a) X.env hds') (SP X pins D) X.xe { s' with heap := h3 } from go _ _ hh w
    intro hds' l' hk
    induction hk with
    | nil =>
      intro w
      apply wpAny_handleBy_nil
      obtain ⟨k1, k2, k3, oe, vs, T, oT, ts', he, hz, hd, h1, hr⟩ := id fl3
      unfold PySem.passOn
      refine wpAny_bind (wpAny_field he hd h1 ?_)
      rw [if_neg (show ¬ ((Value.ref T == Value.none) = true) from by simp)]
      have on : wpAny (model X.prog X.w) X.A (setFlight (.ref a) X.env.frame) (fun _ s4 => wpAny (model X.prog X.w) X.A (throw (.ref a) : Sem Flow) (SP X pins D) X.xe s4) X.xe { s' with heap := h3 } := by
        rw [hf]
        apply HandSPX.setFlight_upZ fl3
        intro h4 hh4 up4
        exact wpAny_throw (tk _ _ ⟨a, B, sI, pins, σ', H', cls, d, rfl, J, nb, (up.trans up3).trans up4, .inr (.inr (by rw [hs]; exact hh4)), na, os, ag, w⟩)
      first
        | exact wpAny_bind (wpAny_pure (wpAny_bind on))
        | exact wpAny_bind on
    | @cons x n c i ts b₀ suite np pos' hds2 l2 hi hln hc hsu r ih =>
      rintro ⟨b, hb1, hyes, hno⟩
      have hloc : Loc X.env.scope n := .inl hln
      refine wpAny_handleBy_cons (codeAny_handlers_test ?_) (by intro q; cases q)
      have LM := PySem.W.exm_one (M := model X.prog X.w) (J3.kIn) LT hb1
      have read : ∀ {Q : Value → Shared → Prop} {E : Value → Shared → Prop}, Q c { s' with heap := h3 } → wpAny (model X.prog X.w) (X.A.mark (some (.ref a))) (eval (.Name x np) X.env) Q E { s' with heap := h3 } := fun {Q E} q => by
        obtain ⟨hg, hdbg, hm | ⟨hm, hv, hnn⟩⟩ := hc
        · exact ld_glob (X := X.suite a ((a, oe3) :: (X.pn ++ pins))) S3 hg hm q hdbg
        · exact ld_blt (X := X.suite a ((a, oe3) :: (X.pn ++ pins))) S3 hg hm hv q hnn hdbg
      refine read (LM.here ?_)
      cases b with
      | false => exact ih (hno rfl)
      | true =>
        apply codeAny_handlers_suite_as
        apply HandSPX.lands_againZ fl3
        intro h4 fl4 up4
        have J4 : Inv X pins σ' H' { s' with heap := h4 } := J.landed nb fl4.1 ((up.trans up3).trans up4) os ag
        obtain ⟨oe4, vs4, he4, hz4, hd4⟩ := fl4.there
        have S4 := J4.suite he4 hd4 na nL nF
        refine store_ok (X := X.suite a ((a, oe4) :: (X.pn ++ pins))) (v := .ref a) S4 hN hi hloc rfl (fun s5 S5 => ?_) (.inr hln)
        refine wpAny_mono ((hsu a oe4 cls d (X.pn ++ pins) hz4 ⟨_, hd4⟩).run [] s5 _ H' _ S5 (hyes rfl a na)) (fun f s6 hsp => ?_) (fun _ _ z => False.elim z)
        have gone : ∀ {σ6 : L2.St} {H6 : Hp} {Q : Shared → Prop}, Inv (X.suite a ((a, oe4) :: (X.pn ++ pins))) [] σ6 H6 s6 → (∀ s7, Inv X pins (σ6.set i none) H6 s7 → Q s7) →
            wpAny (model X.prog X.w) X.A (do bindName X.env n .none; unbindBehindTheSuite X.env n pos') (fun _ s7 => Q s7) X.xe s6 := fun {σ6 H6 Q} S6 hq => gone_ok (S6.unsuite ok) hN hi hln hq
        cases f with
        | ret u =>
          obtain ⟨v6, σ6, H6, S6, r6, q6⟩ := hsp
          exact gone S6 fun s7 J7 => ⟨_, _, _, J7, r6, q6⟩
        | next =>
          obtain ⟨σ6, H6, S6, q6⟩ := hsp
          exact gone S6 fun s7 J7 => ⟨_, _, J7, q6⟩
        | brk =>
          obtain ⟨σ6, H6, S6, q6⟩ := hsp
          exact gone S6 fun s7 J7 => ⟨_, _, J7, q6⟩
        | cont =>
          obtain ⟨σ6, H6, S6, q6⟩ := hsp
          exact gone S6 fun s7 J7 => ⟨_, _, J7, q6⟩
  refine wpAny_mono run (fun f s1 hsp => ?_) (fun e s1 he => he)
  cases f with
  | ret u =>
    obtain ⟨v, σ', H', J', r, q⟩ := hsp
    exact ⟨v, σ', H', J'.ofTry ok, r, q⟩
  | next =>
    obtain ⟨σ', H', J', q⟩ := hsp
    exact wpAny_execs_nil ⟨σ', H', J'.ofTry ok, q⟩
  | brk =>
    obtain ⟨σ', H', J', q⟩ := hsp
    exact ⟨σ', H', J'.ofTry ok, q⟩
  | cont =>
    obtain ⟨σ', H', J', q⟩ := hsp
    exact ⟨σ', H', J'.ofTry ok, q⟩
end
/-! ### 86. the same over plain programs: each suite is one return -/
abbrev Cl := (Str → Option Bool) × (Xn → DSt)
def tryH : List Cl → Xn → DSt
  | [] => fun e S1 => .exc e S1
  | (sub, h) :: r => fun e S1 => match sub e.cls with
    | some true => match h e S1 with
      | .ok f S2 => .ok f S2
      | _ => .stuck
    | some false => tryH r e S1
    | none => .stuck
def sTryN (b : DSt) (hs : List Cl) : DSt := fun S => match b S with
  | .exc e S1 => tryH hs e S1
  | r => r
inductive Hands (X : Cx) (cm : Str → Value) : List ExceptHandler → List Cl → List Clause → Prop
  | nil : Hands X cm [] [] []
  | cons {x n : Str} {c : Value} {i : Nat} {sub : Str → Option Bool} {e0 : Expr} {pr np pos' : Pos} {ff : Xn → DE} {hds : List ExceptHandler} {cs : List Cl} {l : List Clause} : X.N[i]? = some n → X.env.kindOf n = some .local → Names X x c →
      (∀ m r, sub m = some r → PySem.W.exmOne X.K (cm m) c = some r) →
      (∀ (a : Addr) (oe : Obj) (cls : Value) (d : Option Addr) (pn : List (Addr × Obj)), Zc cls d oe → (∃ vs, oe.data = .fields vs) → PE (X.suite a ((a, oe) :: pn)) e0 (rdX X.K cm i a cls d (Rep X.K cm) ff)) → Hands X cm hds cs l →
      Hands X cm (.ExceptHandler (some (.Name x np)) (some n) [.Return (some e0) pr] pos' :: hds) ((sub, sRetX i ff) :: cs) ((c, i, fun a cls d => tRet (rdX X.K cm i a cls d (Rep X.K cm) ff)) :: l)
section
variable {X : Cx} {cm : Str → Value} {W : WX} {body : List Stmt} {h₀ : ExceptHandler} {hds : List ExceptHandler} {cs : List Cl} {l : List Clause} {pos : Pos} {b : DSt}
theorem Hands.clauses : ∀ {hds : List ExceptHandler} {cs : List Cl} {l : List Clause}, Hands X cm hds cs l → Clauses X hds l
  | _, _, _, .nil => .nil
  | _, _, _, .cons hi hln hc hsub hsu r => .cons hi hln hc (fun a oe cls d pn h1 h2 => pss_one (ps_ret (hsu a oe cls d pn h1 h2))) r.clauses
theorem Hands.asks : ∀ {hds : List ExceptHandler} {cs : List Cl} {l : List Clause}, Hands X cm hds cs l → ∀ {D : Ends} {L1 : List Addr} {H1 : Hp} {S1 : DS} {σ1 : L2.St} {u : Xn} {cl : Value} {dx : Option Addr}, AbS X.K cm L1 H1 S1 σ1 → XnR X.K cm L1 H1 u cl dx → AftS X.K cm W L1 H1 (tryH cs u S1) D → Den.asks X.K W D l cl dx σ1 H1
  | _, _, _, .nil, D, L1, H1, S1, σ1, u, cl, dx, x1, xr, q => q L1 H1 σ1 cl dx Ext.refl x1 xr
  | _, _, _, .cons (i := i) (sub := sub) (ff := ff) hi hln hc hsub hsu r, D, L1, H1, S1, σ1, u, cl, dx, x1, xr, q => by
    unfold tryH at q
    split at q
    · rename_i hsb
      refine ⟨true, by rw [xr.1]; exact hsub _ _ hsb, fun _ a ha => ?_, fun z => by cases z⟩
      unfold sRetX sRet at q
      by_cases hlt : i < S1.loc.length
      · rw [if_pos hlt] at q
        refine ⟨by rw [List.getElem?_set_self (by rw [← x1.loc.1]; exact hlt)], L1, { S1 with loc := S1.loc.set i none }, u, ⟨x1.hp, x1.loc.unset i⟩, xr, ?_⟩
        generalize ff u { S1 with loc := S1.loc.set i none } = w at q
        cases w with
        | ok d S2 => exact fun L' H' v ex xx rr => q L' H' (σ1.set i (some (.ref a))) v ex xx rr
        | exc _ _ => exact q.elim
        | stuck => exact q.elim
      · rw [if_neg hlt] at q
        exact q.elim
    · rename_i hsb
      exact ⟨false, by rw [xr.1]; exact hsub _ _ hsb, fun z => (by cases z), fun _ => r.asks x1 xr q⟩
    · exact q.elim
theorem s_tries (hs : X.stack = X.env :: X.outer) (hf : X.env.frame = some X.env.locals) (hN : X.N.Nodup) (tk : Takes X W) (hh : Hands X cm (h₀ :: hds) cs l)
    (hb : ∀ (W : WX) (pn : List (Addr × Obj)) (xe : Value → Shared → Prop), Takes (X.tr pn xe) W → PassesOwn (model X.prog X.w) X.A X.env xe → PSs (X.tr pn xe) body (rdS X.K cm W b)) :
    PS X (.Try body (h₀ :: hds) [] [] pos) (rdS X.K cm W (sTryN b cs)) := weakS (ps_tries hs hf hN tk hb hh.clauses) fun D σ H q => by
  obtain ⟨L, S, ab, q⟩ := q
  refine ⟨L, S, ab, ?_⟩
  unfold sTryN at q
  generalize b S = r at q
  cases r with
  | ok f S1 => cases f <;> exact q
  | stuck => exact q
  | exc u S1 => exact fun L1 H1 σ1 cl dx e1 x1 xr => hh.asks x1 xr (AftS.ext e1 q)
end
end Den

namespace Den
open PySem L2
/-! ### 80. calls whose arguments and results lean on no object of ours: the callee runs over an empty heap -/
mutual
def noRef : D → Bool
  | .ref _ => false
  | .tup xs => noRefs xs
  | .ro xs => noRefs xs
  | _ => true
def noRefs : List D → Bool
  | [] => true
  | d :: ds => noRef d && noRefs ds
end
section
variable {K : PySem.W.Frag} {cm : Str → Value} {L L' L1 L2' : List Addr} {H H' H1 H2 : Hp} {S S' : DS} {σ : St}
mutual
theorem Rep.free : ∀ {d : D} {v : V}, noRef d = true → Rep K cm L H d v → Rep K cm L' H d v
  | _, _, _, .non => .non
  | _, _, _, .bl b => .bl b
  | _, _, _, .int i => .int i
  | _, _, _, .str x => .str x
  | _, _, _, .ty n => .ty n
  | _, _, _, .cls h => .cls h
  | _, _, e, .tup h r => .tup h (Reps.free (by simpa [noRef] using e) r)
  | _, _, e, .ro h r => .ro h (Reps.free (by simpa [noRef] using e) r)
  | _, _, e, .ref h => by simp [noRef] at e
theorem Reps.free : ∀ {ds : List D} {vs : List V}, noRefs ds = true → Reps K cm L H ds vs → Reps K cm L' H ds vs
  | _, _, _, .nil => .nil
  | _, _, e, .cons r t => by
    simp [noRefs] at e
    exact .cons (Rep.free e.1 r) (Reps.free e.2 t)
end
theorem Ext.forget (e : Ext K [] H L' H') : Ext K L H L H' :=
  ⟨⟨[], by simp, by simp⟩, e.tup, e.rol, fun a o _ h => e.oth a o (by simp) h, e.thr, e.frz⟩
theorem AbS.forget (x : AbS K cm L H S σ) (e : Ext K [] H L' H') : AbS K cm L H' S σ :=
  ⟨⟨x.hp.nd, x.hp.len, fun n ob a e1 e2 => (x.hp.obs n ob a e1 e2).mono e.forget fun o h => e.oth a o (by simp) h⟩, x.loc.mono e.forget⟩
end
inductive RV where
  | ok (d : D) | exc (e : Xn) | stuck
def callV (F : Fn) (ds : List D) : RV := if noRefs ds then match F ds [] with
  | .ok d _ => if noRef d then .ok d else .stuck
  | .exc e _ => if e.fs.all (fun p => noRef p.2) then .exc e else .stuck
  | .stuck => .stuck
  else .stuck
def RV.res (r : RV) (S : DS) : Res D := match r with
  | .ok d => .ok d S
  | .exc e => .exc e S
  | .stuck => .stuck
@[simp] theorem RV.res_ok (d : D) (S : DS) : (RV.ok d).res S = .ok d S := rfl
@[simp] theorem RV.res_exc (d : Xn) (S : DS) : (RV.exc d).res S = .exc d S := rfl
def dCallP (F : Fn) (a : DA) : DE := fun S => (a S).bind fun ds S1 => (callV F ds).res S1
def dCallPK (F : Fn) (perm : List Nat) (a z : DA) : DE := fun S => (a S).bind fun ds S1 => (z S1).bind fun es S2 => (callV F (pick perm (ds ++ es))).res S2
@[simp] theorem z_callP (F : Fn) (a : DA) (S : DS) : dCallP F a S = (a S).bind fun ds S1 => (callV F ds).res S1 := rfl
@[simp] theorem z_callPK (F : Fn) (p : List Nat) (a z : DA) (S : DS) : dCallPK F p a z S = (a S).bind fun ds S1 => (z S1).bind fun es S2 => (callV F (pick p (ds ++ es))).res S2 := rfl
section
variable {X : Cx} {cm : Str → Value} {W : WX} {k : Nat} {f : Addr} {fd : FuncData} {ps : List Str} {sp : Sp} {x : Str} {p pos : Pos} {e : Expr} {es : List Expr} {F0 : Fn} {ga : DA} {np : Nat}
/-- the promise of a def over nothing -/
theorem sp_free {σ : L2.St} {H : Hp} {L : List Addr} {S : DS} {ds : List D} {vs : List V} {Q : VK} (a : AbS X.K cm L H S σ) (r : Reps X.K cm L H ds vs) (hl : ds.length = np) (q : Aft X.K cm W (Rep X.K cm) L σ H ((callV F0 ds).res S) Q) : spD X.K cm np F0 vs H Q (WE W σ) := by
  unfold callV at q
  split at q
  · rename_i hn
    refine ⟨[], ds, [], ⟨⟨List.nodup_nil, rfl, fun n ob a h _ => by simp at h⟩, rfl, fun i d h => by simp at h⟩, r.free hn, hl, ?_⟩
    generalize F0 ds [] = z at q
    cases z with
    | ok d S2 =>
      dsimp only at q
      split at q
      · rename_i hd
        exact fun L2 H2 v e2 x2 r2 => q L H2 v e2.forget (a.forget e2) (r2.free hd)
      · exact q.elim
    | exc u S2 =>
      dsimp only at q
      split at q
      · rename_i hd
        refine fun L2 H2 c dx e2 x2 r2 => q L H2 c dx e2.forget (a.forget e2) ⟨r2.1, ?_⟩
        rcases r2.2 with z | ⟨d, vs, z1, z2, z3⟩
        · exact .inl z
        · refine .inr ⟨d, vs, z1, z2, fun f x hf => ?_⟩
          obtain ⟨v, w1, w2⟩ := z3 f x hf
          have gen : ∀ l : List (Str × D), (l.all fun p => noRef p.2) = true → l.lookup f = some x → noRef x = true := by
            intro l
            induction l with
            | nil => intro _ h; cases h
            | cons a l ih =>
              intro h1 h2
              obtain ⟨a1, a2⟩ := a
              simp only [List.all_cons, Bool.and_eq_true] at h1
              rw [List.lookup_cons] at h2
              split at h2
              · injection h2 with h2; rw [← h2]; exact h1.1
              · exact ih h1.2 h2
          exact ⟨v, w1, w2.free (gen _ hd hf)⟩
      · exact q.elim
    | stuck => exact q.elim
  · exact q.elim
theorem rd_callP {σ : L2.St} {H : Hp} {Q : VK} (q : rdE X.K cm W (dCallP F0 ga) σ H Q) (hn : ∀ ds S S1, ga S = .ok ds S1 → ds.length = np) : rdA X.K cm W ga σ H (fun vs H1 => spD X.K cm np F0 vs H1 Q (WE W σ)) := by
  obtain ⟨L, S, a, q⟩ := q
  refine ⟨L, S, a, ?_⟩
  unfold dCallP at q
  have hl : ∀ ds S1, ga S = .ok ds S1 → ds.length = _ := fun ds S1 h => hn ds S S1 h
  generalize hr : ga S = r at q hl
  cases r with
  | ok ds S1 =>
    intro L1 H1 vs e1 x1 r1
    rw [Res.bind_ok] at q
    exact sp_free x1 r1 (hl _ _ rfl) (Aft.ext e1 q)
  | exc u S1 => exact q
  | stuck => exact q
theorem e_callP (F : FnG X.prog X.w X.K X.mg X.base k f fd ps (spD X.K cm np F0)) (hr : Room k X.A) (hg : X.A.guards = some []) (tk : Takes X W) (hx : Gl X x) (hm : X.mg x = some (.ref f)) (hk : PySem.W.keepIn X.K (.ref f) = true) (hb : Binds X.K fd ps [])
    (ha : PA X (e :: es) (rdA X.K cm W ga)) (hn : Cnt ga np) (hdb : (x == ("__debug__" : Str)) = false := by decide) (he : starEach (e :: es) X.env = (false, eval e X.env) :: starEach es X.env := by rfl) (hpl : (backTo pos (starEach es X.env)).any (·.1) = false := by rfl) :
    PE X (.Call (.Name x p) (e :: es) [] pos) (rdE X.K cm W (dCallP F0 ga)) := by
  constructor
  intro pins s σ H Q I q
  apply wpAny_Call_Name_kw
  apply ld_glob I hx hm _ hdb
  apply PySem.W.callWith_K (h₀ := X.base) I.ok.mod.kin hk _ he hpl
  apply thn (ha.run pos pins s σ H _ I (rd_callP q hn))
  intro us s1 h1
  obtain ⟨vs, H1, I1, r1, q1⟩ := h1
  have hl : us.length = ps.length := by rw [← r1.length]; exact F.len _ _ _ _ q1
  have b := hb s1 us I1.kIn (by simpa using hl)
  rw [List.append_nil] at b
  exact ⟨I1.kIn, wpAny_call (run_g F hr hg tk b I1 r1 q1)⟩
theorem e_callP0 (F : FnG X.prog X.w X.K X.mg X.base k f fd ps (spD X.K cm 0 F0)) (hr : Room k X.A) (hg : X.A.guards = some []) (tk : Takes X W) (hx : Gl X x) (hm : X.mg x = some (.ref f)) (hk : PySem.W.keepIn X.K (.ref f) = true) (hb : Binds X.K fd ps [])
    (hdb : (x == ("__debug__" : Str)) = false := by decide) : PE X (.Call (.Name x p) [] [] pos) (rdE X.K cm W (dCallP F0 dNil)) := by
  constructor
  intro pins s σ H Q I q
  apply wpAny_Call_Name_kw
  apply ld_glob I hx hm _ hdb
  obtain ⟨L, S, a, q1⟩ := rd_callP (np := 0) q cnt_nil
  have q2 := q1.give a .nil
  have hl : ([] : List Value).length = ps.length := F.len _ _ _ _ q2
  have b := hb s [] I.kIn (by simpa using hl)
  exact PySem.W.callWith_K0 I.kIn hk (wpAny_call (run_g F hr hg tk b I .nil q2))
theorem rd_callPK {gz : DA} {perm : List Nat} {σ : L2.St} {H : Hp} {Q : VK} {n m : Nat} (q : rdE X.K cm W (dCallPK F0 perm ga gz) σ H Q) (hn : Cnt ga n) (hm : Cnt gz m) (hp : ∀ l : List D, l.length = n + m → (pick perm l).length = np) :
    rdA X.K cm W ga σ H (fun vs H1 => vs.length = n ∧ rdA X.K cm W gz σ H1 (fun zs H2 => zs.length = m ∧ spD X.K cm np F0 (pick perm (vs ++ zs)) H2 Q (WE W σ))) := by
  obtain ⟨L, S, a, q⟩ := q
  refine ⟨L, S, a, ?_⟩
  unfold dCallPK at q
  have hl : ∀ ds S1, ga S = .ok ds S1 → ds.length = _ := fun ds S1 h => hn ds S S1 h
  generalize hr : ga S = r at q hl
  cases r with
  | ok ds S1 =>
    intro L1 H1 vs e1 x1 r1
    refine ⟨by rw [← r1.length]; exact hl _ _ rfl, L1, S1, x1, ?_⟩
    rw [Res.bind_ok] at q
    have q1 := Aft.ext e1 q
    have hl2 : ∀ es S2, gz S1 = .ok es S2 → es.length = _ := fun es S2 h => hm es S1 S2 h
    generalize hr2 : gz S1 = r at q1 hl2
    cases r with
    | ok es S2 =>
      intro L2 H2 zs e2 x2 r2
      refine ⟨by rw [← r2.length]; exact hl2 _ _ rfl, ?_⟩
      rw [Res.bind_ok] at q1
      exact sp_free x2 (pick_reps ((r1.mono e2).append r2) perm) (hp _ (by rw [List.length_append, hl _ _ rfl, hl2 _ _ rfl])) (Aft.ext e2 q1)
    | exc u S2 => exact q1
    | stuck => exact q1
  | exc u S1 => exact q
  | stuck => exact q
theorem e_callPK {gz : DA} {perm : List Nat} {n m : Nat} {ks : List Str} {kws : List Keyword} (F : FnG X.prog X.w X.K X.mg X.base k f fd ps (spD X.K cm np F0)) (hr : Room k X.A) (hg : X.A.guards = some []) (tk : Takes X W) (hx : Gl X x) (hm : X.mg x = some (.ref f)) (hk : PySem.W.keepIn X.K (.ref f) = true)
    (hb : KB fd ps n ks perm) (ha : PA X (e :: es) (rdA X.K cm W ga)) (hz : PK X kws (rdA X.K cm W gz)) (hn : Cnt ga n) (hmm : Cnt gz m) (hp : ∀ l : List D, l.length = n + m → (pick perm l).length = np) (hkm : ks.length = m := by rfl)
    (hall : (backToKw pos (keywordEach kws X.env)).all (·.1.isSome) = true := by rfl) (hks : (backToKw pos (keywordEach kws X.env)).filterMap (·.1) = ks := by rfl) (hdb : (x == ("__debug__" : Str)) = false := by decide)
    (he : starEach (e :: es) X.env = (false, eval e X.env) :: starEach es X.env := by rfl) (hpl : ((backTo pos (starEach (e :: es) X.env)).any (·.1) || (backToKw pos (keywordEach kws X.env)).any (·.1.isNone)) = false := by rfl) :
    PE X (.Call (.Name x p) (e :: es) kws pos) (rdE X.K cm W (dCallPK F0 perm ga gz)) := by
  constructor
  intro pins s σ H Q I q
  apply wpAny_Call_Name_kw
  apply ld_glob I hx hm _ hdb
  apply PySem.W.callWith_KW (h₀ := X.base) I.ok.mod.kin hk hall _ hpl he
  apply thn (ha.run pos pins s σ H _ I (rd_callPK q hn hmm hp))
  rintro us s1 ⟨vs, H1, I1, r1, l1, q1⟩
  apply thn (hz.run pos pins s1 σ H1 _ I1 q1)
  rintro ws s2 ⟨zs, H2, I2, r2, l2, q2⟩
  have b : BindsTo s2 fd ⟨us, ks.zip ws⟩ (ps.zip (pick perm (us ++ ws))) := .of_eq (hb us ws (by rw [← r1.length]; exact l1) (by rw [← r2.length, hkm]; exact l2))
  rw [hks]
  exact ⟨I2.kIn, wpAny_call (run_g F hr hg tk b I2 (pick_vals (r1.append r2) perm) q2)⟩
theorem e_callPK0 {gz : DA} {perm : List Nat} {m : Nat} {ks : List Str} {kws : List Keyword} (F : FnG X.prog X.w X.K X.mg X.base k f fd ps (spD X.K cm np F0)) (hr : Room k X.A) (hg : X.A.guards = some []) (tk : Takes X W) (hx : Gl X x) (hm : X.mg x = some (.ref f)) (hk : PySem.W.keepIn X.K (.ref f) = true)
    (hb : KB fd ps 0 ks perm) (hz : PK X kws (rdA X.K cm W gz)) (hmm : Cnt gz m) (hp : ∀ l : List D, l.length = 0 + m → (pick perm l).length = np) (hkm : ks.length = m := by rfl)
    (hall : (backToKw pos (keywordEach kws X.env)).all (·.1.isSome) = true := by rfl) (hks : (backToKw pos (keywordEach kws X.env)).filterMap (·.1) = ks := by rfl) (hdb : (x == ("__debug__" : Str)) = false := by decide)
    (hpl : ((backTo pos (starEach [] X.env)).any (·.1) || (backToKw pos (keywordEach kws X.env)).any (·.1.isNone)) = false := by rfl) :
    PE X (.Call (.Name x p) [] kws pos) (rdE X.K cm W (dCallPK F0 perm dNil gz)) := by
  constructor
  intro pins s σ H Q I q
  apply wpAny_Call_Name_kw
  apply ld_glob I hx hm _ hdb
  apply PySem.W.callWith_KW0 (h₀ := X.base) I.ok.mod.kin hk hall _ hpl
  obtain ⟨L, S, a, q0⟩ := rd_callPK q cnt_nil hmm hp
  obtain ⟨_, q1⟩ := q0.give a .nil
  apply thn (hz.run pos pins s σ H _ I q1)
  rintro ws s2 ⟨zs, H2, I2, r2, l2, q2⟩
  have b : BindsTo s2 fd ⟨[], ks.zip ws⟩ (ps.zip (pick perm ([] ++ ws))) := .of_eq (hb [] ws rfl (by rw [← r2.length, hkm]; exact l2))
  rw [hks]
  exact ⟨I2.kIn, wpAny_call (run_g F hr hg tk b I2 (pick_vals (.append .nil r2) perm) q2)⟩
end
end Den

namespace Den
open PySem L2
/-! ### 90. reckoning with what leans on nothing -/
theorem callV_of {F : Fn} {ds : List D} {d : D} {S : DS} (h : F ds [] = .ok d S) (hn : noRefs ds = true) (hd : noRef d = true) : callV F ds = .ok d := by
  unfold callV; rw [if_pos hn, h]; dsimp only; rw [if_pos hd]
theorem V_ret {n : Nat} {b : DSt} {ds : List D} {d : D} (hn : noRefs ds = true) (hd : noRef d = true) (h : ∃ S, b ⟨ds.map some ++ List.replicate (n - ds.length) none, []⟩ = .ok (.ret d) S) : callV (runB n b) ds = .ok d := by
  obtain ⟨S, e⟩ := h
  exact callV_of (runB_ret e) hn hd
theorem V_ok {n : Nat} {b : DSt} {ds : List D} {d : D} (hn : noRefs ds = true) (hd : noRef d = true) (h : Ok (b ⟨ds.map some ++ List.replicate (n - ds.length) none, []⟩) fun f _ => f = .ret d) : callV (runB n b) ds = .ok d := by
  obtain ⟨f, S, e, rfl⟩ := h.ex
  exact V_ret hn hd ⟨S, e⟩
@[simp] theorem nr_non : noRef .non = true := rfl
@[simp] theorem nr_bl (b : Bool) : noRef (.bl b) = true := rfl
@[simp] theorem nr_int (b : Int) : noRef (.int b) = true := rfl
@[simp] theorem nr_str (b : Str) : noRef (.str b) = true := rfl
@[simp] theorem nr_tup (xs : List D) : noRef (.tup xs) = noRefs xs := rfl
@[simp] theorem nr_nil : noRefs [] = true := rfl
@[simp] theorem nr_cons (d : D) (ds : List D) : noRefs (d :: ds) = (noRef d && noRefs ds) := rfl
theorem nr_map {α : Type} {f : α → D} (h : ∀ x, noRef (f x) = true) : ∀ l : List α, noRefs (l.map f) = true
  | [] => rfl
  | x :: l => by rw [List.map_cons, nr_cons, h x, nr_map h l]; rfl
theorem nr_all : ∀ {l : List D}, noRefs l = true ↔ ∀ d ∈ l, noRef d = true
  | [] => by simp
  | d :: l => by simp [nr_all (l := l)]
@[simp] theorem z_asgG (e : DE) (n : Nat) (r : DGs) (S : DS) : sAsg e (gTup n r) S = (e S).bind fun d S1 => match gTup n r d S1 with
  | some S2 => .ok .next S2
  | none => .stuck := rfl
@[simp] theorem z_gTup (n : Nat) (r : DGs) (xs : List D) (S : DS) : gTup n r (.tup xs) S = if xs.length = n then r xs S else none := rfl
@[simp] theorem z_gCons (g : DG) (r : DGs) (d : D) (t : List D) (S : DS) : gCons g r (d :: t) S = (g d S).bind fun S1 => r t S1 := rfl
@[simp] theorem z_gNil (S : DS) : gNil [] S = some S := rfl
@[simp] theorem z_gN (i : Nat) (d : D) (S : DS) : gN i d S = some { S with loc := S.loc.set i (some d) } := rfl
@[simp] theorem z_par3 (i j l : Nat) (a : DA) (S : DS) : sPar3 i j l a S = (a S).bind fun ds S1 => match ds with
  | [d, e, f] => .ok .next { S1 with loc := ((S1.loc.set i (some d)).set j (some e)).set l (some f) }
  | _ => .stuck := rfl
@[simp] theorem z_not (a : DE) (S : DS) : dNot a S = (a S).bind fun d S1 => (toB d S1).bind fun c S2 => .ok (.bl (!c)) S2 := rfl
@[simp] theorem z_mulRef (n : Nat) (j : Int) (S : DS) : oMulB (.ref n) (.int j) S = match S.h[n]? with
  | some (.lst xs) => if -1000000 ≤ j ∧ j ≤ 1000000 ∧ xs.length * j.toNat ≤ mxL then newO (.lst (List.replicate j.toNat xs).flatten) S else .stuck
  | _ => .stuck := rfl
@[simp] theorem z_isNonN : isNon .non = true := rfl
@[simp] theorem z_isNonT (xs : List D) : isNon (.tup xs) = false := rfl
@[simp] theorem z_isNonS (xs : Str) : isNon (.str xs) = false := rfl
@[simp] theorem z_isNonI (xs : Int) : isNon (.int xs) = false := rfl
/-- the place of an item -/
theorem atI_at {α : Type} {xs : List α} {r : Int} {d : α} (h0 : 0 ≤ r) (h : xs[r.toNat]? = some d) : atI xs r = some d := by
  have lt := (List.getElem?_eq_some_iff.mp h).1
  obtain ⟨d', e, _⟩ := atI_nat (xs := xs) (r := r) h0 (by omega)
  rw [e]
  unfold atI at e
  have : ixN xs.length r = some r.toNat := by
    unfold ixN
    have h1 : ¬ r < 0 := by omega
    have h2 : r < xs.length := by omega
    simp [h1, h2, h0]
  rw [this] at e
  simp at e
  rw [h] at e
  exact e.symm
theorem ixT_at {xs : List D} {r : Int} {d : D} (S : DS) (h0 : 0 ≤ r) (h : xs[r.toNat]? = some d) : oIx (.tup xs) (.int r) S = .ok d S := by
  rw [z_ixT, atI_at h0 h]
theorem sIx_some {n d : Nat} {i : Int} (h0 : 0 ≤ i) (h : i ≤ n) : HT.sIx n d (some i) = i.toNat := by
  obtain ⟨k, rfl⟩ := Int.eq_ofNat_of_zero_le h0
  rw [HT.sIx_nat]
  omega
theorem cut_lo {xs : List D} {i : Int} (h0 : 0 ≤ i) (h : i ≤ xs.length) : cutD xs none (some i) = xs.take i.toNat := by
  unfold cutD
  rw [sIx_some h0 h, HT.sIx_none]
  simp
theorem cut_hi {xs : List D} {i : Int} (h0 : 0 ≤ i) (h : i ≤ xs.length) : cutD xs (some i) none = xs.drop i.toNat := by
  unfold cutD
  rw [sIx_some h0 h, HT.sIx_none]
  rw [List.take_of_length_le]
  simp
theorem set_eq {α : Type} (xs : List α) (k : Nat) (d : α) (h : k < xs.length) : xs.take k ++ [d] ++ xs.drop (k + 1) = xs.set k d := by
  rw [List.set_eq_take_append_cons_drop, if_pos h]; simp
/-- not, of whatever has a truth -/
def dNotT (a : DE) : DE := fun S => (a S).bind fun d S1 => (toTru d S1).bind fun c S2 => .ok (.bl (!c)) S2
@[simp] theorem z_notT (a : DE) (S : DS) : dNotT a S = (a S).bind fun d S1 => (toTru d S1).bind fun c S2 => .ok (.bl (!c)) S2 := rfl
section
variable {X : Cx} {cm : Str → Value} {W : WX} {e : Expr} {fa : DE} {pos : Pos}
theorem e_notT (he : PE X e (rdE X.K cm W fa)) : PE X (.UnaryOp .Not e pos) (rdE X.K cm W (dNotT fa)) := weakE (pe_notT he) fun σ H Q q => by
  obtain ⟨L, S, a, q⟩ := q
  refine ⟨L, S, a, (Aft.step (R := Rep X.K cm) q).mono fun v H1 z => ?_⟩
  obtain ⟨L1, S1, d, e1, x1, r1, q1⟩ := z
  unfold toTru at q1
  split at q1
  · cases r1; exact ⟨_, rfl, q1.give x1 (.bl _)⟩
  · cases r1; exact ⟨_, rfl, q1.give x1 (.bl _)⟩
  · cases r1; exact ⟨_, rfl, q1.give x1 (.bl _)⟩
  · split at q1
    · rename_i h
      cases r1; exact ⟨_, ⟨mx_line h, rfl⟩, q1.give x1 (.bl _)⟩
    · exact q1.elim
  · cases r1 with
    | tup hs rr =>
      refine ⟨_, .inr (.inl ⟨_, hs, ?_⟩), q1.give x1 (.bl _)⟩
      cases rr <;> rfl
  · cases r1 with
    | ro hs rr =>
      refine ⟨_, .inl ⟨_, hs.sq, ?_⟩, q1.give x1 (.bl _)⟩
      cases rr <;> rfl
  · split at q1
    · rename_i hx
      obtain ⟨p1, vs1, rfl, g1, h1, rr⟩ := x1.lst r1 hx
      refine ⟨_, .inl ⟨_, SqL.of h1, ?_⟩, q1.give x1 (.bl _)⟩
      cases rr <;> rfl
    · rename_i hx
      obtain ⟨p1, vs1, rfl, g1, h1, rr⟩ := x1.dct r1 hx
      refine ⟨_, .inr (.inr ⟨_, h1, ?_⟩), q1.give x1 (.bl _)⟩
      cases rr <;> rfl
    · exact q1.elim
  · exact q1.elim
end
/-! comprehensions over typed items -/
/-- one turn: nothing is changed -/
def Turn (g : DG) (t : DT) (e : DE) (w : List (Option D)) (h : List Ob) (d : D) (r : Option D) : Prop := ∃ S0, g d ⟨w, h⟩ = some S0 ∧ match r with
  | none => ∃ S1, t S0 = .ok false S1 ∧ S1.h = h
  | some y => ∃ S1, t S0 = .ok true S1 ∧ ∃ S2, e S1 = .ok y S2 ∧ S2.h = h
theorem comp_t {α β : Type} {enc : α → D} {enc' : β → D} (f : α → Option β) {l : List α} {vs : List Nat} {it : DS → Res Iter0} {g : DG} {t : DT} {e : DE} {S S1 : DS} {I : Iter0} (hi : it S = .ok I S1) (ov : Over I (l.map enc) S1.h) (hl : l.length < 100000)
    (hp : ∀ x ∈ l, Turn g t e (wipeD S1.loc vs) S1.h (enc x) ((f x).map enc')) : dComp vs it g t e S = .ok (.ref S1.h.length) ⟨S1.loc, S1.h ++ [.lst ((l.filterMap f).map enc')]⟩ := by
  -- by compV or compO, typed
  have tv : ∀ x ∈ l, ∀ acc : List D, acc.length < 1000000 → ∃ S0 S3, g (enc x) ⟨wipeD S1.loc vs, S1.h⟩ = some S0 ∧ S3.h = S1.h ∧ compT t e S0 acc = .ok (acc ++ ((f x).map enc').toList) S3 := by
    intro x hx acc hl
    obtain ⟨S0, h1, h3⟩ := hp x hx
    unfold compT
    split at h3
    · rename_i hf
      obtain ⟨S2, e1, h2⟩ := h3
      refine ⟨S0, S2, h1, h2, ?_⟩
      rw [e1, Res.only_ok, if_neg (by decide), hf]; simp
    · rename_i y hf
      obtain ⟨S2, e1, S3, e2, h2⟩ := h3
      refine ⟨S0, S3, h1, h2, ?_⟩
      rw [e1, Res.only_ok, if_pos rfl, e2, Res.only_ok, mxL_eq, if_pos hl, hf]; rfl
  have bits : ∀ x : α, (((f x).map enc').toList).length ≤ 1 := fun x => by cases f x <;> simp
  unfold dComp
  rw [hi, Res.bind_ok]
  cases I with
  | vals ys =>
    obtain rfl : ys = l.map enc := ov
    dsimp only
    have go : ∀ (k : List α) (acc : List D), (∀ x ∈ k, x ∈ l) → acc.length + k.length ≤ 1000000 → compV g t e (wipeD S1.loc vs) (k.map enc) acc S1.h = .ok (acc ++ (k.filterMap f).map enc') ⟨wipeD S1.loc vs, S1.h⟩ := by
      intro k
      induction k with
      | nil => intro acc _ _; unfold compV; simp
      | cons x k ih =>
        intro acc hk hl
        simp only [List.length_cons] at hl
        obtain ⟨S0, S3, h1, h2, h3⟩ := tv x (hk x (by simp)) acc (by omega)
        rw [List.map_cons]
        unfold compV
        rw [h1]
        dsimp only
        rw [h3, Res.only_ok, h2]
        have hz := bits x
        rw [ih _ (fun y hy => hk y (by simp [hy])) (by rw [List.length_append]; omega), List.filterMap_cons]
        cases f x <;> simp
    rw [go l [] (fun _ h => h) (by simp; omega)]
    simp [newO]
  | dyn it2 =>
    dsimp only
    have ov : ∀ i, it2 S1.h i = some (l.map enc)[i]? := ov
    have go : ∀ (k i : Nat) (acc : List D), l.length < i + k → i ≤ l.length → acc.length + (l.length - i) ≤ 1000000 → compO it2 g t e (wipeD S1.loc vs) k i acc S1.h = .ok (acc ++ ((l.drop i).filterMap f).map enc') ⟨wipeD S1.loc vs, S1.h⟩ := by
      intro k
      induction k with
      | zero => intro i acc h1 h2 _; omega
      | succ k ih =>
        intro i acc hk hi hl
        unfold compO
        rw [ov i]
        by_cases lt : i < l.length
        · rw [List.getElem?_map, List.getElem?_eq_getElem lt]
          dsimp only [Option.map]
          obtain ⟨S0, S3, h1, h2, h3⟩ := tv l[i] (List.getElem_mem lt) acc (by omega)
          rw [h1]
          dsimp only
          rw [h3, Res.only_ok, h2]
          have hz := bits l[i]
          rw [ih (i + 1) _ (by omega) (by omega) (by rw [List.length_append]; omega)]
          rw [List.drop_eq_getElem_cons lt, List.filterMap_cons]
          cases f l[i] <;> simp
        · have e0 : i = l.length := by omega
          subst e0
          rw [List.getElem?_eq_none (by simp), List.drop_length]
          simp
    rw [go 100000 0 [] (by omega) (by omega) (by simp; omega)]
    simp [newO]
/-- over a tuple -/
theorem comp_tt {α β : Type} {enc : α → D} {enc' : β → D} (f : α → Option β) {l : List α} {vs : List Nat} {a : DE} {g : DG} {t : DT} {e : DE} {S S1 : DS} (hi : a S = .ok (.tup (l.map enc)) S1) (hl : l.length < 100000)
    (hp : ∀ x ∈ l, Turn g t e (wipeD S1.loc vs) S1.h (enc x) ((f x).map enc')) : dComp vs (dIter a) g t e S = .ok (.ref S1.h.length) ⟨S1.loc, S1.h ++ [.lst ((l.filterMap f).map enc')]⟩ :=
  comp_t f (iter_tup hi) rfl hl hp
/-- over a list of ours -/
theorem comp_tl {α β : Type} {enc : α → D} {enc' : β → D} (f : α → Option β) {l : List α} {n : Nat} {vs : List Nat} {a : DE} {g : DG} {t : DT} {e : DE} {S S1 : DS} (hi : a S = .ok (.ref n) S1) (hn : S1.h[n]? = some (.lst (l.map enc))) (hl : l.length < 100000)
    (hp : ∀ x ∈ l, Turn g t e (wipeD S1.loc vs) S1.h (enc x) ((f x).map enc')) : dComp vs (dIter a) g t e S = .ok (.ref S1.h.length) ⟨S1.loc, S1.h ++ [.lst ((l.filterMap f).map enc')]⟩ :=
  comp_t f (iter_ref hi hn) (over_lst hn) hl hp
/-! sorted -/
theorem mapM_map {α β γ : Type} {f : α → β} {g : β → Option γ} {h : α → γ} : ∀ {l : List α}, (∀ x ∈ l, g (f x) = some (h x)) → (l.map f).mapM g = some (l.map h)
  | [], _ => rfl
  | x :: l, p => by
    rw [List.map_cons, List.mapM_cons, p x (by simp), mapM_map fun y hy => p y (by simp [hy])]; rfl
theorem sorted_t {α : Type} {enc : α → D} {py : α → PyData} {l : List α} {n : Nat} {S : DS} (hn : S.h[n]? = some (.lst (l.map enc))) (hp : ∀ x ∈ l, pyD S (enc x) = some (py x)) (ok : srtOk (l.map py) = true) :
    cSorted [.ref n] S = .ok (.ref S.h.length) { S with h := S.h ++ [.lst ((l.mergeSort (PySem.W.dataLe false py)).map enc)] } := by
  unfold cSorted
  dsimp only
  rw [hn]
  dsimp only
  rw [mapM_map hp]
  dsimp only
  rw [if_pos ok]
  have e : srtD (l.map enc) (l.map py) = (l.mergeSort (PySem.W.dataLe false py)).map enc := by
    unfold srtD
    have z : (l.map enc).zip (l.map py) = l.map fun x => (enc x, py x) := by
      rw [List.zip_map']
    rw [z, isort_eq (dataLe_total _), ← List.map_mergeSort (r := PySem.W.dataLe false py) (f := fun x => (enc x, py x)) (s := PySem.W.dataLe false Prod.snd) (fun a _ b _ => rfl), List.map_map]
    rfl
  rw [e]; rfl
/-- over a tuple -/
theorem sortedT_t {α : Type} {enc : α → D} {py : α → PyData} {l : List α} {S : DS} (hp : ∀ x ∈ l, pyD S (enc x) = some (py x)) (ok : srtOk (l.map py) = true) :
    cSorted [.tup (l.map enc)] S = .ok (.ref S.h.length) { S with h := S.h ++ [.lst ((l.mergeSort (PySem.W.dataLe false py)).map enc)] } := by
  unfold cSorted
  dsimp only
  rw [mapM_map hp]
  dsimp only
  rw [if_pos ok]
  have e : srtD (l.map enc) (l.map py) = (l.mergeSort (PySem.W.dataLe false py)).map enc := by
    unfold srtD
    have z : (l.map enc).zip (l.map py) = l.map fun x => (enc x, py x) := by
      rw [List.zip_map']
    rw [z, isort_eq (dataLe_total _), ← List.map_mergeSort (r := PySem.W.dataLe false py) (f := fun x => (enc x, py x)) (s := PySem.W.dataLe false Prod.snd) (fun a _ b _ => rfl), List.map_map]
    rfl
  rw [e]; rfl
/-- a comprehension that leaves some out -/
theorem comp_f {α : Type} {enc enc' : α → D} (p : α → Bool) {l : List α} {vs : List Nat} {it : DS → Res Iter0} {g : DG} {t : DT} {e : DE} {S S1 : DS} {I : Iter0} (hi : it S = .ok I S1) (ov : Over I (l.map enc) S1.h) (hl : l.length < 100000)
    (hp : ∀ x ∈ l, ∃ S0, g (enc x) ⟨wipeD S1.loc vs, S1.h⟩ = some S0 ∧ ∃ S2, t S0 = .ok (p x) S2 ∧ S2.h = S1.h ∧ (p x = true → ∃ S3, e S2 = .ok (enc' x) S3 ∧ S3.h = S1.h)) : dComp vs it g t e S = .ok (.ref S1.h.length) ⟨S1.loc, S1.h ++ [.lst ((l.filter p).map enc')]⟩ := by
  have e : l.filter p = l.filterMap fun x => if p x then some x else none := by
    rw [← List.filterMap_eq_filter]; rfl
  rw [e]
  refine comp_t _ hi ov hl fun x hx => ?_
  obtain ⟨S0, h1, S2, h2, h3, h4⟩ := hp x hx
  refine ⟨S0, h1, ?_⟩
  cases hpx : p x with
  | false =>
    rw [hpx] at h2
    exact ⟨S2, h2, h3⟩
  | true =>
    rw [hpx] at h2
    obtain ⟨S3, h5, h6⟩ := h4 hpx
    exact ⟨S2, h2, S3, h5, h6⟩
/-- a comprehension of each -/
theorem comp_m {α β : Type} {enc : α → D} {enc' : β → D} (f : α → β) {l : List α} {vs : List Nat} {it : DS → Res Iter0} {g : DG} {e : DE} {S S1 : DS} {I : Iter0} (hi : it S = .ok I S1) (ov : Over I (l.map enc) S1.h) (hl : l.length < 100000)
    (hp : ∀ x ∈ l, ∃ S0, g (enc x) ⟨wipeD S1.loc vs, S1.h⟩ = some S0 ∧ ∃ S3, e S0 = .ok (enc' (f x)) S3 ∧ S3.h = S1.h) : dComp vs it g tTrue e S = .ok (.ref S1.h.length) ⟨S1.loc, S1.h ++ [.lst ((l.map f).map enc')]⟩ := by
  have e : l.map f = l.filterMap fun x => some (f x) := by simp
  rw [e]
  refine comp_t _ hi ov hl fun x hx => ?_
  obtain ⟨S0, h1, S3, h2, h3⟩ := hp x hx
  exact ⟨S0, h1, S0, rfl, S3, h2, h3⟩
theorem iterV {i : Nat} {S : DS} {xs : List D} (h : S.loc[i]? = some (some (.tup xs))) : dIter (dVar i) S = .ok (.vals xs) S := iter_tup (by simp [h])
theorem iterC {S : DS} {xs : List D} : dIter (dC (.tup xs)) S = .ok (.vals xs) S := iter_tup rfl
/-! equality kept by looking -/
mutual
def eqD : D → D → Bool
  | .non, .non => true
  | .bl a, .bl b => a == b
  | .int a, .int b => a == b
  | .str a, .str b => a == b
  | .tup a, .tup b => eqDs a b
  | _, _ => false
def eqDs : List D → List D → Bool
  | [], [] => true
  | a :: r, b :: s => eqD a b && eqDs r s
  | _, _ => false
end
mutual
theorem eqD_eq : ∀ {a b : D}, eqD a b = true → a = b
  | .non, .non, _ => rfl
  | .bl a, .bl b, h => by rw [eq_of_beq (show (a == b) = true from h)]
  | .int a, .int b, h => by rw [eq_of_beq (show (a == b) = true from h)]
  | .str a, .str b, h => by rw [eq_of_beq (show (a == b) = true from h)]
  | .tup a, .tup b, h => by rw [eqDs_eq (show eqDs a b = true from h)]
  | .non, .bl _, h | .non, .int _, h | .non, .str _, h | .non, .tup _, h | .non, .ro _, h | .non, .ref _, h | .non, .ty _, h | .non, .cls _, h => by simp [eqD] at h
  | .bl _, .non, h | .bl _, .int _, h | .bl _, .str _, h | .bl _, .tup _, h | .bl _, .ro _, h | .bl _, .ref _, h | .bl _, .ty _, h | .bl _, .cls _, h => by simp [eqD] at h
  | .int _, .non, h | .int _, .bl _, h | .int _, .str _, h | .int _, .tup _, h | .int _, .ro _, h | .int _, .ref _, h | .int _, .ty _, h | .int _, .cls _, h => by simp [eqD] at h
  | .str _, .non, h | .str _, .bl _, h | .str _, .int _, h | .str _, .tup _, h | .str _, .ro _, h | .str _, .ref _, h | .str _, .ty _, h | .str _, .cls _, h => by simp [eqD] at h
  | .tup _, .non, h | .tup _, .bl _, h | .tup _, .int _, h | .tup _, .str _, h | .tup _, .ro _, h | .tup _, .ref _, h | .tup _, .ty _, h | .tup _, .cls _, h => by simp [eqD] at h
  | .ro _, _, h | .ref _, _, h | .ty _, _, h | .cls _, _, h => by simp [eqD] at h
theorem eqDs_eq : ∀ {a b : List D}, eqDs a b = true → a = b
  | [], [], _ => rfl
  | a :: r, b :: s, h => by
    simp [eqDs] at h
    rw [eqD_eq h.1, eqDs_eq h.2]
  | [], _ :: _, h => by simp [eqDs] at h
  | _ :: _, [], h => by simp [eqDs] at h
end
def vIs (r : RV) (d : D) : Bool := match r with
  | .ok e => eqD e d
  | _ => false
theorem vIs_eq {r : RV} {d : D} (h : vIs r d = true) : r = .ok d := by
  cases r with
  | ok e => rw [eqD_eq h]
  | exc e => cases h
  | stuck => cases h
theorem eq_pair (a b c d : Int) (S : DS) : oEq (.tup [.int a, .int b]) (.tup [.int c, .int d]) S = .ok (.bl (a == c && b == d)) S := by
  show Res.ok (D.bl ((a == c) && ((b == d) && true))) S = _
  simp
theorem ne_pair (a b c d : Int) (S : DS) : oNe (.tup [.int a, .int b]) (.tup [.int c, .int d]) S = .ok (.bl (!(a == c && b == d))) S := by
  show Res.ok (D.bl (!((a == c) && ((b == d) && true)))) S = _
  simp
end Den

namespace Den
open PySem L2
variable {X : Cx} {K : PySem.W.Frag} {cm : Str → Value} {W : WX} {L : List Addr} {H : Hp} {pos p : Pos} {fa : DE} {a : Expr}
/-! ### tuple(range(..)) -/
def dTupRg (a : DE) : DE := fun S => (a S).bind fun d S1 => match d with
  | .int j => if -1000000 ≤ j ∧ j ≤ 1000 then .ok (.tup (rgD 0 j.toNat)) S1 else .stuck
  | _ => .stuck
@[simp] theorem z_tupRg (a : DE) (S : DS) : dTupRg a S = (a S).bind fun d S1 => match d with
  | .int j => if -1000000 ≤ j ∧ j ≤ 1000 then .ok (.tup (rgD 0 j.toNat)) S1 else .stuck
  | _ => .stuck := rfl
theorem reps_rg (lo : Int) (f : Nat → Nat) : ∀ l : List Nat, Reps K cm L H (l.map fun k => D.int (lo + (k : Nat))) (l.map fun k => V.int (lo + (k : Nat)))
  | [] => .nil
  | k :: l => .cons (.int _) (reps_rg lo f l)
theorem e_tupRg {p2 pos2 : Pos} (hc : X.calm = true) (hg : Gl X "tuple") (hm : X.mg "tuple" = none) (hg2 : Gl X "range") (hm2 : X.mg "range" = none) (ha : PE X a (rdE X.K cm W fa)) (na : starEach [.Call (.Name "range" p2) [a] [] pos2] X.env = (false, eval (.Call (.Name "range" p2) [a] [] pos2) X.env) :: starEach [] X.env := by rfl) (nb : starEach [a] X.env = (false, eval a X.env) :: starEach [] X.env := by rfl) : PE X (.Call (.Name "tuple" p) [.Call (.Name "range" p2) [a] [] pos2] [] pos) (rdE X.K cm W (dTupRg fa)) :=
  weakE (pe_tupRg hc hg hm (prg_1 hg2 hm2 ha nb) na) fun σ H Q q => by
    obtain ⟨L, S, b, q⟩ := q
    refine ⟨L, S, b, (Aft.step (R := Rep X.K cm) q).mono fun v H1 z => ?_⟩
    obtain ⟨L1, S1, d, e1, x1, r1, q1⟩ := z
    split at q1
    · rename_i j
      split at q1
      · rename_i h
        cases r1
        refine ⟨j, rfl, ⟨by omega, by omega, by omega, by omega, by omega⟩, fun p hp => ?_⟩
        refine q1.giveE (Ext.beside hp) (x1.beside hp) (.tup (.inl (.inl upd_same)) ?_)
        unfold rgD rgV
        rw [Int.sub_zero]
        exact reps_rg 0 id _
      · exact q1.elim
    · exact q1.elim
end Den

namespace Den
open PySem L2 PySem.Spec PyProof.Rows
/-! ### tuple * 0, tuple * 1 -/
theorem tuple_mul1 (l : Addr) (items : Array Value) (n : Nat) (dd : Option Addr) (sl : Array (Option Value)) (u : Tok) :
    Meets (Builtin.«tuple.__mul__» ⟨[.ref l, .int 1 u], []⟩) (fun _ R s => s.heap.get? l = some { cls := .type "tuple", dict := dd, data := .seq items n, slots := sl } ∧
      R (.ok (.ret (Value.ref l))) s) :=
  .of_wp fun prog w A R s h => by
    obtain ⟨hp, g, d, tk, os⟩ := s
    obtain ⟨hl, h⟩ := h
    have f1 := AutoSeq1.idx_int
    wp_walk using wpAny_loadPart' hl
    exact ⟨_, rfl, h⟩
theorem tuple_mul0 (l : Addr) (items : Array Value) (n : Nat) (dd : Option Addr) (sl : Array (Option Value)) (u : Tok) (c1 : (items.isEmpty || (0 : Int) == 1) = false) :
    Meets (Builtin.«tuple.__mul__» ⟨[.ref l, .int 0 u], []⟩) (fun _ R s => s.heap.get? l = some { cls := .type "tuple", dict := dd, data := .seq items n, slots := sl } ∧
      R (.ok (.ret (Value.ref s.heap.objs.size))) { s with heap := s.heap.push { cls := Value.type "tuple", data := Data.seq #[] }, toks := s.toks }) :=
  .of_wp fun prog w A R s h => by
    obtain ⟨hp, g, d, tk, os⟩ := s
    obtain ⟨hl, h⟩ := h
    have f1 := AutoSeq1.idx_int
    wp_walk using wpAny_loadPart' hl
    refine wpAny_ite_false (decide_eq_false (by rw [c1]; exact Bool.false_ne_true)) ?_
    wp_walk using wpAny_loadPart' hl
    exact ⟨_, rfl, h⟩
def rRepT1 (K : PySem.W.Frag) : R2 := fun x y H Q => ∃ l xs, x = .ref l ∧ y = .int 1 ∧ SqT K H l xs ∧ xs ≠ [] ∧ Q (.ref l) H
def rRepT0 (K : PySem.W.Frag) : R2 := fun x y H Q => ∃ l xs, x = .ref l ∧ y = .int 0 ∧ SqT K H l xs ∧ xs ≠ [] ∧ ∀ p, H p = none → Q (.ref p) (upd H p (.tup []))
section
variable {X : Cx}
theorem op_repT1 : OpR X (binaryOp .Mult) (rRepT1 X.K) := by
  intro pins s σ H x y v u Q I rx ry h
  obtain ⟨l, xs, rfl, rfl, hT, hne, q⟩ := h
  cases rx
  obtain ⟨t, rfl⟩ := ry
  obtain ⟨its, r, ⟨⟨cls, dd, data, sl⟩, ho, hc, n, hd⟩, hs⟩ := I.tuple hT
  simp only at hc hd
  subst hc hd
  refine wpAny_binaryOp_repeat_ref (T := "tuple") (U := "int") (by decide) ⟨_, ho, rfl⟩ (fun s' => typeIs_int s' 1 t) noFill_tuple_mul F.fills_int_mul F.slot_int_rmul repeat_tuple F.slot_int_index.lookup
    (call_meets F.slot_int_rmul (typeIs_int s 1 t) F.entry_int_rmul (F.args_int_rmul_2 _ _) (int_rmul_tuple 1 t l its.toArray n dd sl)
      ⟨ho, rfl, ⟨_, ho, rfl⟩, call_meets F.slot_tuple_mul ⟨_, ho, rfl⟩ F.entry_tuple_mul (F.args_tuple_mul_2 _ _) (tuple_mul1 l its.toArray n dd sl t) ⟨ho, ?_⟩⟩)
  exact ⟨.ref l, H, I, rfl, q⟩
theorem op_repT0 : OpR X (binaryOp .Mult) (rRepT0 X.K) := by
  intro pins s σ H x y v u Q I rx ry h
  obtain ⟨l, xs, rfl, rfl, hT, hne, q⟩ := h
  cases rx
  obtain ⟨t, rfl⟩ := ry
  obtain ⟨its, r, ⟨⟨cls, dd, data, sl⟩, ho, hc, n, hd⟩, hs⟩ := I.tuple hT
  simp only at hc hd
  subst hc hd
  have hle : its.length = xs.length := r.length.symm
  have hn : its ≠ [] := fun e => hne (by
    rw [e] at hle
    exact List.eq_nil_of_length_eq_zero hle.symm)
  have c1 : (its.toArray.isEmpty || (0 : Int) == 1) = false := by
    cases its with
    | nil => exact absurd rfl hn
    | cons a b => rfl
  refine wpAny_binaryOp_repeat_ref (T := "tuple") (U := "int") (by decide) ⟨_, ho, rfl⟩ (fun s' => typeIs_int s' 0 t) noFill_tuple_mul F.fills_int_mul F.slot_int_rmul repeat_tuple F.slot_int_index.lookup
    (call_meets F.slot_int_rmul (typeIs_int s 0 t) F.entry_int_rmul (F.args_int_rmul_2 _ _) (int_rmul_tuple 0 t l its.toArray n dd sl)
      ⟨ho, rfl, ⟨_, ho, rfl⟩, call_meets F.slot_tuple_mul ⟨_, ho, rfl⟩ F.entry_tuple_mul (F.args_tuple_mul_2 _ _) (tuple_mul0 l its.toArray n dd sl t c1) ⟨ho, ?_⟩⟩)
  refine ⟨.ref s.heap.objs.size, _, I.laid (t' := s.toks) (o := .tup []) (fun b ob q => Heap.get?_push_of_some _ q) (Nat.le_refl _) ?_, rfl, q _ (I.hok.fresh (Nat.le_refl _))⟩
  exact ⟨Nat.zero_le _, [], .nil, IsTup.new _ _⟩
end
def oMulC : D → D → DS → Res D := fun x y S => match x, y with
  | .tup xs, .int j => if xs ≠ [] ∧ 0 ≤ j ∧ j ≤ 1000 ∧ xs.length ≤ 1000 then .ok (.tup (List.replicate j.toNat xs).flatten) S else .stuck
  | x, y => oMulA x y S
section
variable {X : Cx} {cm : Str → Value} {W : WX} {a b : Expr} {fa fb : DE} {pos : Pos}
theorem ro_mulC : ROp X cm W (fun x y H Q => ((((rI CMul (fun i j => .int (i * j)) x y H Q ∨ rStrRep x y H Q) ∨ rRep x y H Q) ∨ rRepT X.K x y H Q) ∨ rRepT1 X.K x y H Q) ∨ rRepT0 X.K x y H Q) oMulC := by
  intro L H S σ x y d e Q a r1 r2 q
  unfold oMulC at q
  split at q
  · split at q
    · rename_i xs j h
      obtain ⟨h0, h1, h2, h3⟩ := h
      cases r2
      cases r1 with
      | tup hs rr =>
        rename_i vs l
        have ne : vs ≠ [] := fun z => by
          subst z
          cases rr
          exact h0 rfl
        by_cases c0 : j = 0
        · subst c0
          exact .inr ⟨_, _, rfl, rfl, hs, ne, fun p hp => q.giveE (Ext.beside hp) (a.beside hp) (.tup (.inl (.inl upd_same)) .nil)⟩
        · by_cases c1 : j = 1
          · subst c1
            have e : (List.replicate (1 : Int).toNat xs).flatten = xs := by simp
            rw [e] at q
            exact .inl (.inr ⟨_, _, rfl, rfl, hs, ne, q.give a (.tup hs rr)⟩)
          · exact .inl (.inl (.inr ⟨_, _, _, rfl, rfl, hs, ne, by omega, h2, by rw [← rr.length]; exact h3, fun p hp => q.giveE (Ext.beside hp) (a.beside hp) (.tup (.inl (.inl upd_same)) ((reps_repl rr _).mono (Ext.beside hp)))⟩))
    · exact q.elim
  · exact .inl (.inl (.inl (ro_mulA a r1 r2 q)))
theorem b_mulC (ha : PE X a (rdE X.K cm W fa)) (hb : PE X b (rdE X.K cm W fb)) : PE X (.BinOp a .Mult b pos) (rdE X.K cm W (dBin oMulC fa fb)) := e_op (((((op_mul.or op_strRep).or op_rep).or op_repT).or op_repT1).or op_repT0) ro_mulC ha hb
end
@[simp] theorem z_mulC (xs : List D) (j : Int) (S : DS) : oMulC (.tup xs) (.int j) S = if xs ≠ [] ∧ 0 ≤ j ∧ j ≤ 1000 ∧ xs.length ≤ 1000 then .ok (.tup (List.replicate j.toNat xs).flatten) S else .stuck := rfl
end Den

namespace Den
open PySem PyProof.Rows
/-! ### the shortest of a list's tuples -/
def Kpt (h h' : Heap) : Prop := ∀ b o, h.get? b = some o → h'.get? b = some o
theorem Kpt.refl (h : Heap) : Kpt h h := fun _ _ e => e
theorem Kpt.trans {a b c : Heap} (x : Kpt a b) (y : Kpt b c) : Kpt a c := fun d o e => y d o (x d o e)
theorem Kpt.lt {h : Heap} {b : Addr} {o : Obj} (e : h.get? b = some o) : b < h.objs.size := Heap.lt_size e
theorem Kpt.lst {a b : Heap} {l : Addr} {xs : Array Value} (k : Kpt a b) (h : a.IsList l xs) : b.IsList l xs := let ⟨o, e, q⟩ := h; ⟨o, k _ _ e, q⟩
structure MinSt (s : Shared) (l I S : Addr) (kf : Nat → Int) (vs : List Value) (j i : Nat) (h : Heap) : Prop where
  kp : Kpt s.heap h
  it : h.IsListIter I l (j + 1)
  be : ∃ vb tb c, vs[i]? = some vb ∧ h.get? S = some (seqObj "list" #[vb, .int (kf i) tb] c)
  ij : i ≤ j
  jl : j + 1 ≤ vs.length
  mn : ∀ k, k ≤ j → kf i ≤ kf k ∧ (k < i → kf i < kf k)
section
variable {prog : Program} {w : World} {A : Around} {E : Value → Shared → Prop} {s : Shared} {l I S : Addr} {vs : List Value} {R : Result → Shared → Prop} {kf : Nat → Int}
/-- of one's own a built-in tells a whole number -/
def Tells1 (prog : Program) (w : World) (A : Around) (s : Shared) (kid : String) (v : Value) (k : Int) : Prop := ∀ h tk (Q' : Value → Shared → Prop), Kpt s.heap h → (∀ h2 tk2 t, Kpt h h2 → Q' (.int k t) { s with heap := h2, toks := tk2 }) →
  wpAny (model prog w) A.in1 (call (.builtin kid) [v]) Q' (fun _ _ => False) { s with heap := h, toks := tk }
theorem min_loop {kid : String} (hh : A.handled = none) (hl : s.heap.IsList l vs.toArray) (hI : s.heap.objs.size ≤ I) (hS : s.heap.objs.size ≤ S) (hIS : S ≠ I)
    (turn : ∀ (i : Nat) (v : Value), vs[i]? = some v → Tells1 prog w A s kid v (kf i))
    (hR : ∀ i v h' tk', vs[i]? = some v → (∀ j, j < vs.length → kf i ≤ kf j ∧ (j < i → kf i < kf j)) → Kpt s.heap h' → R (.ok (.ret v)) { s with heap := h', toks := tk' }) :
    ∀ (r j i : Nat) (h : Heap) (tk : Nat), vs.length - (j + 1) = r → MinSt s l I S kf vs j i h → codeAny (model prog w) A (.builtin "min.loop" ⟨[.ref I, .builtin kid, .ref S], []⟩) R { s with heap := h, toks := tk } := by
  have nm : (toString "min" ++ toString ".loop" : String) = "min.loop" := by decide
  have ll : l < s.heap.objs.size := by obtain ⟨_, e, _⟩ := hl; exact Heap.lt_size e
  have lI : l ≠ I := Nat.ne_of_lt (Nat.lt_of_lt_of_le ll hI)
  have W := Walks.list (prog := prog) (w := w) (A := A.in1) hh I l lI vs.toArray
  have sz : vs.toArray.size = vs.length := List.size_toArray ..
  have low : ∀ {b : Addr} {o : Obj}, s.heap.get? b = some o → b ≠ I ∧ b ≠ S := fun e => ⟨Nat.ne_of_lt (Nat.lt_of_lt_of_le (Kpt.lt e) hI), Nat.ne_of_lt (Nat.lt_of_lt_of_le (Kpt.lt e) hS)⟩
  intro r
  induction r with
  | zero =>
    intro j i h tk hr m
    obtain ⟨vb, tb, c, hv, gS⟩ := m.be
    have jl := m.jl
    have last : j + 1 = vs.length := by omega
    apply codeAny_builtin PySem.F.entry_min_loop
    rw [Around.under_plainId PySem.F.plain_min_loop]
    show wpAny _ A.in1 (seqItems? (Value.ref S) >>= _) _ _ _
    apply wpAny_bind
    refine wpAny_seqItems gS rfl ?_
    show wpAny _ A.in1 (tryCatch (pyNext (Value.ref I)) _ >>= _) _ _ _
    apply wpAny_bind
    apply wpAny_tryCatch
    refine W.done _ _ _ ⟨by rw [sz, ← last]; exact m.it, m.kp.lst hl⟩ fun h' tk' hk' => ?_
    have gS' := hk' S _ (by simpa using hIS) gS
    have sb := Heap.SameBut.update h' S (Obj.mapSeq fun _ => (#[] : Array Value))
    show wpAny _ A.in1 (updateSeq S (fun _ => (#[] : Array Value)) >>= _) _ _ _
    apply wpAny_bind
    refine wpAny_updateSeq gS' rfl (wpAny_bind (wpAny_letGo (wpAny_pure (hR i vb _ _ hv (fun k hk => m.mn k (by omega)) fun b o e => ?_))))
    have e1 := hk' b o (by simpa using (low e).1) (m.kp b o e)
    exact (sb.2 b (low e).2).trans e1
  | succ r ih =>
    intro j i h tk hr m
    obtain ⟨vb, tb, c, hv, gS⟩ := m.be
    have more : j + 1 < vs.length := by omega
    apply codeAny_builtin PySem.F.entry_min_loop
    rw [Around.under_plainId PySem.F.plain_min_loop]
    show wpAny _ A.in1 (seqItems? (Value.ref S) >>= _) _ _ _
    apply wpAny_bind
    refine wpAny_seqItems gS rfl ?_
    show wpAny _ A.in1 (tryCatch (pyNext (Value.ref I)) _ >>= _) _ _ _
    apply wpAny_bind
    apply wpAny_tryCatch
    refine W.item (j + 1) _ _ _ (by rw [sz]; exact more) ⟨m.it, m.kp.lst hl⟩ fun v h' tk' hP st' hk' => ?_
    have hv1 : vs[j + 1]? = some v := by simpa using hP
    have gS' := hk' S _ (by simpa using hIS) gS
    have kp1 : Kpt s.heap h' := fun b o e => hk' b o (by simpa using (low e).1) (m.kp b o e)
    obtain ⟨oI, goI, oc, od⟩ := id st'.1
    show wpAny _ A.in1 (tryCatch (holding [v] (call (.builtin kid) [v])) _ >>= _) _ _ _
    apply wpAny_bind
    apply wpAny_tryCatch
    apply wpAny_holding
    refine wpAny_mono (turn (j + 1) v hv1 h' tk' (fun x s'' => ∃ h2 tk2 t, x = .int (kf (j + 1)) t ∧ s'' = { s with heap := h2, toks := tk2 } ∧ Kpt h' h2) kp1 fun h2 tk2 t k2 => ⟨h2, tk2, t, rfl, rfl, k2⟩) (fun x s'' he => ?_) fun _ _ hF => hF.elim
    obtain ⟨h2, tk2, t2, rfl, rfl, k2⟩ := he
    have gS2 := k2 S _ gS'
    have gI2 := k2 I _ goI
    show wpAny _ A.in1 (tryCatch (holding [v, .int (kf (j + 1)) t2] (richCompare .Lt (.int (kf (j + 1)) t2) (.int (kf i) tb) >>= _)) _ >>= _) _ _ _
    apply wpAny_bind
    apply wpAny_tryCatch
    apply wpAny_holding
    apply wpAny_bind
    refine CmpOf.ints_lt (prog := prog) (w := w) (A := A.in1) (P := fun i v => ∃ t, v = .int (kf i) t) kf (fun _ _ q => q) (j + 1) i _ _ _ _ _ ⟨t2, rfl⟩ ⟨tb, rfl⟩ ?_
    apply wpAny_bind
    apply wpAny_holding
    apply wpAny_truthy_bool
    apply wpAny_bind
    apply wpAny_letGo
    apply wpAny_pure
    by_cases less : kf (j + 1) < kf i
    · have sb := Heap.SameBut.update h2 S (Obj.mapSeq fun _ => #[v, .int (kf (j + 1)) t2])
      simp only [less, decide_true, if_true]
      apply wpAny_bind
      refine wpAny_updateSeq gS2 rfl (wpAny_bind (wpAny_letGo ?_))
      rw [nm]
      refine wpAny_pure ⟨plainId_quiet PySem.F.plain_min_loop _, ih (j + 1) (j + 1) _ _ (by omega) ⟨fun b o e => (sb.2 b (low e).2).trans (k2 b o (kp1 b o e)), ⟨oI, (sb.2 I hIS.symm).trans gI2, oc, od⟩, ⟨v, t2, _, hv1, get?_update_seq gS2 fun _ => #[v, .int (kf (j + 1)) t2]⟩, Nat.le_refl _, more, fun k hk => ?_⟩⟩
      by_cases e : k = j + 1
      · subst e
        exact ⟨Int.le_refl _, fun z => absurd z (Nat.lt_irrefl _)⟩
      · have q := (m.mn k (by omega)).1
        exact ⟨by omega, fun _ => by omega⟩
    · simp only [less, decide_false, Bool.false_eq_true, if_false]
      apply wpAny_bind
      apply wpAny_letGo
      rw [nm]
      refine wpAny_pure ⟨plainId_quiet PySem.F.plain_min_loop _, ih (j + 1) i _ _ (by omega) ⟨kp1.trans k2, ⟨oI, gI2, oc, od⟩, ⟨vb, tb, c, hv, gS2⟩, by have := m.ij; omega, more, fun k hk => ?_⟩⟩
      by_cases e : k = j + 1
      · subst e
        have := m.ij
        exact ⟨by omega, fun _ => by omega⟩
      · exact m.mn k (by omega)
/-- min(xs, key=kid) -/
theorem min_by {kid : String} {Q : Value → Shared → Prop} (hh : A.handled = none) (hl : s.heap.IsList l vs.toArray) (hne : 0 < vs.length)
    (turn : ∀ (i : Nat) (v : Value), vs[i]? = some v → Tells1 prog w A s kid v (kf i))
    (hQ : ∀ i v h' tk', vs[i]? = some v → (∀ j, j < vs.length → kf i ≤ kf j ∧ (j < i → kf i < kf j)) → Kpt s.heap h' → Q v { s with heap := h', toks := tk' }) :
    wpAny (model prog w) A (call (.builtin "min") [.ref l] [(Str.ofString "key", .builtin kid)]) Q E s := by
  have nm : (toString "min" ++ toString ".loop" : String) = "min.loop" := by decide
  have ll : l < s.heap.objs.size := by obtain ⟨_, e, _⟩ := hl; exact Heap.lt_size e
  apply kmb_tree PySem.F.kind_min PySem.F.plain_min PySem.F.entry_min (kmb_min_key _ _)
  show wpAny _ A.in1 (Builtin.Builtins.bindParams "min" ["key", "default"] 0 ⟨[], [(Str.ofString "key", Value.builtin kid)]⟩ >>= _) _ _ s
  apply wpAny_bind
  apply wpAny_of_eq (show Builtin.Builtins.bindParams "min" ["key", "default"] 0 ⟨[], [(Str.ofString "key", Value.builtin kid)]⟩ = pure [some (Value.builtin kid), none] from rfl)
  apply wpAny_bind
  apply wpAny_pure
  apply wpAny_bind
  refine wpAny_pyIter_list hl (wpAny_bind (wpAny_newList ?_ (Nat.zero_le _)))
  rw [nm]
  have szS : (s.heap.push { cls := .type "list_iterator", data := .fields #[.ref l, .int 0 0] }).objs.size = s.heap.objs.size + 1 := size_push' ..
  have kp0 : Kpt s.heap ((s.heap.push { cls := .type "list_iterator", data := .fields #[.ref l, .int 0 0] }).push (seqObj "list" #[] 0)) := fun b o e => Heap.get?_push_of_some _ (Heap.get?_push_of_some _ e)
  have gI := Heap.get?_push_of_some (seqObj "list" #[] 0) (Heap.get?_push_size s.heap (o := { cls := .type "list_iterator", data := .fields #[.ref l, .int 0 0] }) rfl)
  have gS := Heap.get?_push_size (s.heap.push { cls := .type "list_iterator", data := .fields #[.ref l, .int 0 0] }) (o := seqObj "list" #[] 0) rfl
  rw [szS] at gS ⊢
  generalize hH : (s.heap.push { cls := .type "list_iterator", data := .fields #[.ref l, .int 0 0] }).push (seqObj "list" #[] 0) = H0 at *
  have lI : l ≠ s.heap.objs.size := Nat.ne_of_lt ll
  have SI : s.heap.objs.size + 1 ≠ s.heap.objs.size := Nat.succ_ne_self _
  have W := Walks.list (prog := prog) (w := w) (A := A.in1) hh s.heap.objs.size l lI vs.toArray
  have sz : vs.toArray.size = vs.length := List.size_toArray ..
  have low : ∀ {b : Addr} {o : Obj}, s.heap.get? b = some o → b ≠ s.heap.objs.size ∧ b ≠ s.heap.objs.size + 1 := fun e => ⟨Nat.ne_of_lt (Kpt.lt e), Nat.ne_of_lt (Nat.lt_succ_of_lt (Kpt.lt e))⟩
  refine wpAny_pure ⟨plainId_quiet PySem.F.plain_min_loop _, ?_⟩
  apply codeAny_builtin PySem.F.entry_min_loop
  rw [Around.under_plainId PySem.F.plain_min_loop]
  show wpAny _ A.in1 (seqItems? (Value.ref _) >>= _) _ _ _
  apply wpAny_bind
  refine wpAny_seqItems gS rfl ?_
  show wpAny _ A.in1 (tryCatch (pyNext (Value.ref s.heap.objs.size)) _ >>= _) _ _ _
  apply wpAny_bind
  apply wpAny_tryCatch
  refine W.item 0 _ _ _ (by rw [sz]; exact hne) ⟨⟨_, gI, rfl, rfl⟩, kp0.lst hl⟩ fun v h' tk' hP st' hk' => ?_
  have hv1 : vs[0]? = some v := by simpa using hP
  have gS' := hk' _ _ (by simp) gS
  have kp1 : Kpt s.heap h' := fun b o e => hk' b o (by simpa using (low e).1) (kp0 b o e)
  obtain ⟨oI, goI, oc, od⟩ := id st'.1
  show wpAny _ A.in1 (tryCatch (holding [v] (call (.builtin kid) [v])) _ >>= _) _ _ _
  apply wpAny_bind
  apply wpAny_tryCatch
  apply wpAny_holding
  refine wpAny_mono (turn 0 v hv1 h' tk' (fun x s'' => ∃ h2 tk2 t, x = .int (kf 0) t ∧ s'' = { s with heap := h2, toks := tk2 } ∧ Kpt h' h2) kp1 fun h2 tk2 t k2 => ⟨h2, tk2, t, rfl, rfl, k2⟩) (fun x s'' he => ?_) fun _ _ hF => hF.elim
  obtain ⟨h2, tk2, t2, rfl, rfl, k2⟩ := he
  have gS2 := k2 _ _ gS'
  have gI2 := k2 _ _ goI
  have sb := Heap.SameBut.update h2 (s.heap.objs.size + 1) (Obj.mapSeq fun _ => #[v, .int (kf 0) t2])
  show wpAny _ A.in1 (updateSeq (s.heap.objs.size + 1) (fun _ => #[v, Value.int (kf 0) t2]) >>= _) _ _ _
  apply wpAny_bind
  refine wpAny_updateSeq gS2 rfl ?_
  rw [nm]
  refine wpAny_pure ⟨plainId_quiet PySem.F.plain_min_loop _, min_loop hh hl (Nat.le_refl _) (Nat.le_succ _) SI turn hQ _ 0 0 _ _ rfl ⟨fun b o e => (sb.2 b (low e).2).trans (k2 b o (kp1 b o e)), ⟨oI, (sb.2 _ SI.symm).trans gI2, oc, od⟩, ⟨v, t2, _, hv1, get?_update_seq gS2 fun _ => #[v, .int (kf 0) t2]⟩, Nat.le_refl _, hne, fun k hk => ?_⟩⟩
  have e : k = 0 := Nat.le_zero.mp hk
  subst e
  exact ⟨Int.le_refl _, fun z => absurd z (Nat.lt_irrefl _)⟩
end
end Den

namespace Den
open PySem L2 PySem.Spec PyProof.Rows
def rMinL (K : PySem.W.Frag) : List V → Hp → VK → Prop := fun vs H Q => ∃ (p : Addr) (xs : List V) (kf : Nat → Int), vs = [.ref p] ∧ SqL K H p xs ∧ 0 < xs.length ∧ (∀ i x, xs[i]? = some x → ∃ a ys, x = .ref a ∧ SqT K H a ys ∧ (ys.length : Int) = kf i) ∧
  ∀ i x, xs[i]? = some x → (∀ j, j < xs.length → kf i ≤ kf j ∧ (j < i → kf i < kf j)) → Q x H
section
variable {X : Cx} {pins : List (Addr × Obj)} {s : Shared} {σ : L2.St} {H : Hp} {vs : List V} {us : List Value} {Q : VK}
theorem vals_at : ∀ {xs : List V} {us : List Value} {i : Nat} {u : Value}, Vals xs us → us[i]? = some u → ∃ x, xs[i]? = some x ∧ RelV x u
  | _, _, _, _, .nil, e => by simp at e
  | _, _, 0, _, .cons r _, e => by simp at e; subst e; exact ⟨_, rfl, r⟩
  | _, _, i + 1, u, .cons _ t, e => by
    obtain ⟨x, h1, h2⟩ := vals_at (i := i) (u := u) t (by simpa using e)
    exact ⟨x, by simpa using h1, h2⟩
theorem call_minL (hc : X.calm = true) (I : Inv X pins σ H s) (r : Vals vs us) (h : rMinL X.K vs H Q) : wpAny (model X.prog X.w) X.A (call (.builtin "min") us [(Str.ofString "key", .builtin "len")]) (EP X pins σ Q) X.xe s := by
  obtain ⟨p, xs, kf, rfl, hs, hne, ht, q⟩ := h
  obtain ⟨its, rv, hl, _⟩ := I.list hs
  rw [Vals.ref1 r]
  have le : xs.length = its.length := rv.length
  refine min_by (kf := kf) (I.ok.hd hc) hl.isList (by rw [← le]; exact hne) (fun i v hv => ?_) fun i v h' tk' hv hm kp => ?_
  · obtain ⟨x, hx, rx⟩ := vals_at rv hv
    obtain ⟨a, ys, rfl, hT, hk⟩ := ht i x hx
    cases rx
    obtain ⟨its', r', pl, hz⟩ := I.tuple hT
    have hlen := r'.length
    intro h tk Q' kp cont
    have n63 := line63
    have pl2 : IsTup h a its'.toArray := let ⟨o, e, z⟩ := pl; ⟨o, kp _ _ e, z⟩
    refine len_tuple (s := { s with heap := h, toks := tk }) pl2 (by simp only [List.size_toArray]; omega) ?_
    have e : ((its'.toArray.size : Nat) : Int) = kf i := by rw [List.size_toArray, ← hlen]; exact hk
    rw [e]
    exact cont h _ _ (Kpt.refl h)
  · obtain ⟨x, hx, rx⟩ := vals_at rv hv
    exact ⟨x, H, I.kept kp, rx, q i x hx fun j hj => hm j (by rw [← le]; exact hj)⟩
end
def shortT (b : List D) : List D → Option D
  | [] => some (.tup b)
  | .tup y :: r => if y.length < b.length then shortT y r else shortT b r
  | _ => none
def minLen : List D → Option D
  | .tup y :: r => shortT y r
  | _ => none
def cMinLen : List D → DS → Res D := fun ds S => match ds with
  | [.ref n] => match S.h[n]? with
    | some (.lst xs) => match minLen xs with
      | some d => .ok d S
      | none => .stuck
    | _ => .stuck
  | _ => .stuck
@[simp] theorem z_minLen (n : Nat) (S : DS) : cMinLen [.ref n] S = match S.h[n]? with
    | some (.lst xs) => match minLen xs with
      | some d => .ok d S
      | none => .stuck
    | _ => .stuck := rfl
def lenD : D → Int
  | .tup y => y.length
  | _ => 0
/-- what shortT finds -/
theorem shortT_of : ∀ (r : List D) (pre : List D) (b : List D) (i : Nat) (d : D), (pre ++ r)[i]? = some (.tup b) → i < pre.length → (∀ j, j < pre.length → (b.length : Int) ≤ lenD ((pre ++ r).getD j .non) ∧ (j < i → (b.length : Int) < lenD ((pre ++ r).getD j .non))) → (∀ x ∈ pre, ∃ y, x = .tup y) → shortT b r = some d →
    (∀ x ∈ pre ++ r, ∃ y, x = .tup y) ∧ ∃ k c, d = .tup c ∧ (pre ++ r)[k]? = some d ∧ ∀ j, j < (pre ++ r).length → (c.length : Int) ≤ lenD ((pre ++ r).getD j .non) ∧ (j < k → (c.length : Int) < lenD ((pre ++ r).getD j .non))
  | [], pre, b, i, d, hi, hl, hm, hp, e => by
    have : d = .tup b := by simpa [shortT] using e.symm
    subst this
    refine ⟨by rw [List.append_nil]; exact hp, i, b, rfl, hi, fun j hj => hm j (by simpa using hj)⟩
  | x :: r, pre, b, i, d, hi, hl, hm, hp, e => by
    have cut : pre ++ x :: r = (pre ++ [x]) ++ r := by simp
    cases x with
    | tup y =>
      unfold shortT at e
      have at_ : (pre ++ D.tup y :: r).getD pre.length .non = .tup y := by
        rw [List.getD_eq_getElem?_getD, List.getElem?_append_right (Nat.le_refl _)]; simp
      have hp' : ∀ x ∈ pre ++ [D.tup y], ∃ y, x = .tup y := fun x hx => by
        rcases List.mem_append.mp hx with hx | hx
        · exact hp x hx
        · exact ⟨y, List.mem_singleton.mp hx⟩
      split at e
      · rename_i hlt
        rw [cut]
        refine shortT_of r (pre ++ [.tup y]) y pre.length d (by rw [← cut, List.getElem?_append_right (Nat.le_refl _)]; simp) (by simp) (fun j hj => ?_) hp' e
        rw [← cut]
        by_cases ej : j = pre.length
        · subst ej
          rw [at_]
          exact ⟨Int.le_refl _, fun z => absurd z (Nat.lt_irrefl _)⟩
        · have hj' : j < pre.length := by simp at hj; omega
          have := (hm j hj').1
          exact ⟨by omega, fun _ => by omega⟩
      · rename_i hlt
        rw [cut]
        refine shortT_of r (pre ++ [.tup y]) b i d (by rw [← cut]; exact hi) (by simp; omega) (fun j hj => ?_) hp' e
        rw [← cut]
        by_cases ej : j = pre.length
        · subst ej
          rw [at_]
          show (b.length : Int) ≤ (y.length : Int) ∧ _
          exact ⟨by omega, fun z => by omega⟩
        · exact hm j (by simp at hj; omega)
    | _ => simp [shortT] at e
theorem minLen_of {xs : List D} {d : D} (e : minLen xs = some d) : (∀ x ∈ xs, ∃ y, x = .tup y) ∧ ∃ k c, d = .tup c ∧ xs[k]? = some d ∧ ∀ j, j < xs.length → (c.length : Int) ≤ lenD (xs.getD j .non) ∧ (j < k → (c.length : Int) < lenD (xs.getD j .non)) := by
  cases xs with
  | nil => simp [minLen] at e
  | cons x r =>
    cases x with
    | tup y => exact shortT_of r [.tup y] y 0 d (by simp) (by simp) (fun j hj => by
        have : j = 0 := by simpa using hj
        subst this
        exact ⟨Int.le_refl _, fun z => absurd z (Nat.lt_irrefl _)⟩) (fun x hx => ⟨y, List.mem_singleton.mp hx⟩) e
    | _ => simp [minLen] at e
end Den

namespace Den
open PySem L2 PySem.Spec PyProof.Rows
section
variable {X : Cx} {K : PySem.W.Frag} {cm : Str → Value} {W : WX} {L : List Addr} {H : Hp} {a : Expr} {fa : DE} {p p2 pos kp : Pos}
theorem reps_atV : ∀ {ds : List D} {vs : List V} {i : Nat} {v : V}, Reps K cm L H ds vs → vs[i]? = some v → ∃ d, ds[i]? = some d ∧ Rep K cm L H d v
  | _, _, _, _, .nil, e => by simp at e
  | _, _, 0, _, .cons r _, e => by simp at e; subst e; exact ⟨_, rfl, r⟩
  | _, _, i + 1, v, .cons _ t, e => by
    obtain ⟨x, h1, h2⟩ := reps_atV (i := i) (v := v) t (by simpa using e)
    exact ⟨x, by simpa using h1, h2⟩
theorem co_minLen : COp X cm W (rMinL X.K) cMinLen := by
  intro L H S σ xs ds Q a r q
  unfold cMinLen at q
  split at q
  · cases r with
    | cons r1 r2 =>
      cases r2
      split at q
      · rename_i l h
        split at q
        · rename_i d hd
          obtain ⟨p1, vs1, rfl, g1, e1, q1⟩ := a.lst r1 h
          obtain ⟨all, k, c, rfl, hk, hmin⟩ := minLen_of hd
          have ll : l.length = vs1.length := q1.length
          have lk : k < l.length := (List.getElem?_eq_some_iff.mp hk).1
          refine ⟨p1, vs1, fun i => lenD (l.getD i .non), rfl, SqL.of e1, by omega, fun i x hx => ?_, fun i x hx hm => ?_⟩
          · obtain ⟨d, hd2, rd⟩ := reps_atV q1 hx
            obtain ⟨y, rfl⟩ := all d (List.mem_of_getElem? hd2)
            cases rd with
            | tup hs rr =>
              refine ⟨_, _, rfl, hs, ?_⟩
              dsimp only
              rw [List.getD_eq_getElem?_getD, hd2]
              show _ = ((y.length : Nat) : Int)
              rw [rr.length]
          · obtain ⟨d, hd2, rd⟩ := reps_atV q1 hx
            have li : i < l.length := (List.getElem?_eq_some_iff.mp hd2).1
            have m1 := hm k (by omega)
            have m2 := hmin i li
            have ek : lenD (l.getD k .non) = (c.length : Int) := by rw [List.getD_eq_getElem?_getD, hk]; rfl
            dsimp only at m1
            rw [ek] at m1
            have e : i = k := by
              rcases Nat.lt_trichotomy i k with z | z | z
              · have := m2.2 z; omega
              · exact z
              · have := m1.2 z; omega
            subst e
            rw [hk] at hd2
            cases hd2
            exact q.give a rd
        · exact q.elim
      · exact q.elim
  · exact q.elim
theorem e_minLen (hc : X.calm = true) (hg : Gl X "min") (hm : X.mg "min" = none) (hg2 : Gl X "len") (hm2 : X.mg "len" = none) (pa : PA X [a] (rdA X.K cm W (dCons fa dNil)))
    (he : backTo pos (starEach [a] X.env) = (false, eval a X.env) :: backTo pos (starEach [] X.env) := by rfl) (hpl : (backTo pos (starEach [a] X.env)).any (·.1) = false := by rfl)
    (hall : (backToKw pos (keywordEach [⟨some (Str.ofString "key"), .Name "len" p2, kp⟩] X.env)).all (·.1.isSome) = true := by rfl) (hnone : (backToKw pos (keywordEach [⟨some (Str.ofString "key"), .Name "len" p2, kp⟩] X.env)).any (·.1.isNone) = false := by rfl) :
    PE X (.Call (.Name "min" p) [a] [⟨some (Str.ofString "key"), .Name "len" p2, kp⟩] pos) (rdE X.K cm W (dCB cMinLen (dCons fa dNil))) := by
  constructor
  intro pins s σ H Q I q
  have q2 := rd_cb co_minLen q
  apply wpAny_Call_Name_kw
  apply ld_blt (u := .builtin "min") I hg hm rfl
  refine PyProof.Rows.callWith_kw (thn (pa.run pos pins s σ H _ I q2) fun us s1 ⟨vs, H1, I1, r1, q1⟩ => ?_) he hpl hall hnone
  show wpAny _ _ (evalAll [(do let v ← eval (.Name "len" p2) X.env; standAt pos; pure v)]) _ _ s1
  refine wpAny_evalAll_cons (wpAny_bind (ld_blt (u := .builtin "len") I1 hg2 hm2 rfl (wpAny_bind (wpAny_standAt (wpAny_pure ?_)))))
  refine wpAny_evalAll_nil ?_
  exact call_minL hc I1 r1 q1
end
end Den

namespace Den
open PySem L2 PySem.Spec PyProof.Rows
/-! ### max of a tuple of whole numbers -/
def maxF (m : Int) : List Int → Int
  | [] => m
  | y :: l => maxF (if m < y then y else m) l
theorem maxF_of : ∀ (l : List Int) (m : Int), maxF m l ∈ m :: l ∧ ∀ y ∈ m :: l, y ≤ maxF m l
  | [], m => ⟨by simp [maxF], fun y hy => by rw [List.mem_singleton.mp hy]; exact Int.le_refl _⟩
  | x :: l, m => by
    unfold maxF
    obtain ⟨h1, h2⟩ := maxF_of l (if m < x then x else m)
    have hm := h2 (if m < x then x else m) (by simp)
    refine ⟨?_, fun z hz => ?_⟩
    · rcases List.mem_cons.mp h1 with e | e
      · rw [e]; split <;> simp
      · simp [e]
    · simp only [List.mem_cons] at hz
      rcases hz with rfl | rfl | hz
      · by_cases q : z < x
        · rw [if_pos q] at hm ⊢; omega
        · rw [if_neg q] at hm ⊢; exact hm
      · by_cases q : m < z
        · rw [if_pos q] at hm ⊢; exact hm
        · rw [if_neg q] at hm ⊢; omega
      · exact h2 z (by simp [hz])
section
variable {prog : Program} {w : World} {A : Around} {E : Value → Shared → Prop} {s : Shared} {a : Addr} {xs : Array (Int × Tok)}
theorem max_tupleI {Q : Value → Shared → Prop} (hh : A.handled = none) (ht : s.heap.IsTuple a (intItems xs)) (hne : 0 < xs.size)
    (h : ∀ v h' tk, (intItems xs)[argBest (fun i j => decide (numAt xs i > numAt xs j)) (xs.size - 1)]? = some v → (∀ b o, s.heap.get? b = some o → h'.get? b = some o) → Q v { s with heap := h', toks := tk }) :
    wpAny (model prog w) A (call (.builtin "max") [.ref a]) Q E s := by
  have la : a < s.heap.objs.size := by obtain ⟨_, e, _⟩ := ht; exact Heap.lt_size e
  apply call_max_walk
  refine wpAny_pyIter_tuple ht ⟨s.heap.objs.size, _, _, _, _, _, _, rfl, Walks.tuple (A := A.in1) hh s.heap.objs.size a (Nat.ne_of_lt la) (intItems xs), ⟨⟨_, Heap.get?_push_size _ rfl, rfl, rfl⟩, ht.push _⟩, fun b hb => ?_, by simpa [intItems] using hne, CmpOf.ints_gt (numAt xs) (fun _ _ => intItems_at), fun v h' tk hP hk => ?_⟩
  · show b < (s.heap.push _).objs.size
    rw [Heap.size_push]
    simp only [List.mem_cons, List.not_mem_nil, or_false] at hb
    rcases hb with rfl | rfl
    · exact Nat.lt_succ_self _
    · exact Nat.lt_succ_of_lt la
  · refine h v h' tk (by simpa [intItems] using hP) fun b o e => hk b o (fun hm => ?_) (Heap.get?_push_of_some _ e)
    simp only [List.mem_cons, List.not_mem_nil, or_false] at hm
    subst hm
    exact absurd (Heap.lt_size e) (Nat.lt_irrefl _)
end
section
variable {X : Cx} {cm : Str → Value} {W : WX}
def rMaxT (K : PySem.W.Frag) : List V → Hp → VK → Prop := fun vs H Q => ∃ (a : Addr) (ns : List Int), vs = [V.ref a] ∧ SqT K H a (ns.map V.int) ∧ 0 < ns.length ∧ ∀ m, m ∈ ns → (∀ y, y ∈ ns → y ≤ m) → Q (.int m) H
theorem cr_maxT (hc : X.calm = true) : CallR X (.builtin "max") (rMaxT X.K) := by
  intro pins s σ H vs us Q I r h
  obtain ⟨a, ns, rfl, hs, hne, q⟩ := h
  obtain ⟨its, rv, ht, _⟩ := I.tuple hs
  rw [Vals.ref1 r]
  have hi := rv.ints
  obtain ⟨xs, e⟩ := hi.allInts.items
  have hn : numsOf (intItems xs).toList = ns := by rw [← e]; exact hi.numsOf
  rw [nums_intItems] at hn
  subst hn
  have sz : 0 < xs.size := by simpa using hne
  have ht2 : s.heap.IsTuple a (intItems xs) := by
    obtain ⟨o, e1, e2, n, e3⟩ := ht
    rw [e] at e3
    exact ⟨o, e1, e2, n, e3⟩
  refine max_tupleI (I.ok.hd hc) ht2 sz fun v h' tk hv hk => ?_
  obtain ⟨t, rfl⟩ := intItems_at hv
  obtain ⟨h1, h2⟩ := argBest_gt (numAt xs) (xs.size - 1)
  refine ⟨.int _, H, I.kept hk, ⟨t, rfl⟩, q _ ?_ fun y hy => ?_⟩
  · rw [numAt_eq]
    exact PySem.getD_mem (by rw [List.length_map, Array.length_toList]; omega)
  · obtain ⟨j, hj, rfl⟩ := mem_getD hy
    rw [List.length_map, Array.length_toList] at hj
    rw [← numAt_eq]
    exact h2 j (by omega)
def intsD : List D → Option (List Int)
  | [] => some []
  | .int i :: l => (intsD l).map (i :: ·)
  | _ => none
theorem intsD_map : ∀ l : List Int, intsD (l.map .int) = some l
  | [] => rfl
  | i :: l => by rw [List.map_cons]; unfold intsD; rw [intsD_map l]; rfl
theorem intsD_of : ∀ {ds : List D} {l : List Int}, intsD ds = some l → ds = l.map .int
  | [], l, h => by
    have : l = [] := by simpa [intsD] using h.symm
    subst this; rfl
  | d :: ds, l, h => by
    cases d with
    | int i =>
      unfold intsD at h
      cases e : intsD ds with
      | none => rw [e] at h; cases h
      | some l2 =>
        rw [e] at h
        have : i :: l2 = l := by simpa using h
        subst this
        rw [intsD_of e]; rfl
    | _ => simp [intsD] at h
def cMaxT : List D → DS → Res D := fun ds S => match ds with
  | [.tup xs] => match intsD xs with
    | some (x :: l) => .ok (.int (maxF x l)) S
    | _ => .stuck
  | _ => .stuck
@[simp] theorem z_maxT (xs : List D) (S : DS) : cMaxT [.tup xs] S = match intsD xs with
    | some (x :: l) => .ok (.int (maxF x l)) S
    | _ => .stuck := rfl
theorem reps_ints {K : PySem.W.Frag} {L : List Addr} {H : Hp} : ∀ {l : List Int} {vs : List V}, Reps K cm L H (l.map .int) vs → vs = l.map V.int
  | [], _, .nil => rfl
  | i :: l, _, .cons r t => by cases r; rw [reps_ints t]; rfl
theorem co_maxT : COp X cm W (rMaxT X.K) cMaxT := by
  intro L H S σ xs ds Q a r q
  unfold cMaxT at q
  split at q
  · rename_i ys
    split at q
    · rename_i x l hl
      cases r with
      | cons r1 r2 =>
        cases r2
        cases r1 with
        | tup hs rr =>
          have e := intsD_of hl
          subst e
          have e2 := reps_ints rr
          subst e2
          refine ⟨_, x :: l, rfl, hs, by simp, fun m h1 h2 => ?_⟩
          obtain ⟨g1, g2⟩ := maxF_of l x
          have e3 : maxF x l = m := by
            have := h2 _ g1
            have := g2 _ h1
            omega
          rw [e3] at q
          exact q.give a (.int _)
    · exact q.elim
  · exact q.elim
end
end Den

namespace Den
open PySem L2 PySem.Spec PyProof.Rows
/-! ### products of great numbers -/
def CMulG (i j : Int) : Prop := CMul i j ∨ (i.natAbs < 2 ^ 900 ∧ j.natAbs < 2 ^ 900)
instance (i j : Int) : Decidable (CMulG i j) := by unfold CMulG CMul; infer_instance
theorem bits900 {k : Int} (h : k.natAbs < 2 ^ 900) : Builtin.Int.intBits k ≤ 900 := by
  unfold Builtin.Int.intBits
  split
  · exact Nat.zero_le _
  · rename_i h0
    have p : k.natAbs ≠ 0 := fun z => h0 (by
      have : k = 0 := Int.natAbs_eq_zero.mp z
      subst this; rfl)
    exact (Nat.log2_lt p).mpr h
theorem CMulG.ok {i j : Int} (h : CMulG i j) : IntMulOk i j := by
  rcases h with h | ⟨h1, h2⟩
  · exact h.ok
  · have b1 := bits900 h1
    have b2 := bits900 h2
    have e : Builtin.Int.intTooBig (Builtin.Int.intBits i + Builtin.Int.intBits j) = false := by
      unfold Builtin.Int.intTooBig
      refine decide_eq_false ?_
      have l : (1800 : Int) ≤ (bitsLine : Nat) := by decide +kernel
      show ¬ ((Builtin.Int.intBits i : Int) + (Builtin.Int.intBits j : Int) > ((bitsLine : Nat) : Int))
      omega
    unfold IntMulOk
    rw [e]; simp
def oMulG : D → D → DS → Res D := fun x y S => match x, y with
  | .int i, .int j => if CMulG i j then .ok (.int (i * j)) S else .stuck
  | _, _ => .stuck
section
variable {X : Cx} {cm : Str → Value} {W : WX} {a b : Expr} {fa fb : DE} {pos : Pos}
theorem ro_mulG : ROp X cm W (rI CMulG fun i j => .int (i * j)) oMulG := rop_intC (g' := fun i j => .int (i * j)) (fun _ _ _ _ => .int _) fun d e S => by
  unfold oMulG
  split
  · split
    · rename_i h; exact .inl ⟨_, _, rfl, rfl, h, rfl⟩
    · exact .inr rfl
  · exact .inr rfl
theorem op_mulG : OpR X (binaryOp .Mult) (rI CMulG fun i j => .int (i * j)) := opI fun _ _ _ _ _ _ _ hc q => mul_int q hc.ok
theorem b_mulG (ha : PE X a (rdE X.K cm W fa)) (hb : PE X b (rdE X.K cm W fb)) : PE X (.BinOp a .Mult b pos) (rdE X.K cm W (dBin oMulG fa fb)) := e_op op_mulG ro_mulG ha hb
end
@[simp] theorem z_mulCRef (n : Nat) (j : Int) (S : DS) : oMulC (.ref n) (.int j) S = match S.h[n]? with
  | some (.lst xs) => if -1000000 ≤ j ∧ j ≤ 1000000 ∧ xs.length * j.toNat ≤ mxL then newO (.lst (List.replicate j.toNat xs).flatten) S else .stuck
  | _ => .stuck := rfl
end Den

namespace Den
open PySem L2 PySem.Spec PyProof.Rows
/-! a comprehension that leaves out some of what it walks -/
theorem comp_S {vs : List Nat} {it : DS → Res Iter0} {g : DG} {t : DT} {e : DE} {S S1 : DS} {I : Iter0} {xs : List D} (P : List Ob → Prop) (hi : it S = .ok I S1) (ov : ∀ h, P h → Over I xs h) (hl : xs.length < 100000) (j0 : P S1.h) (p : ∀ d ∈ xs, ∀ h, P h → ∃ S0, g d ⟨wipeD S1.loc vs, h⟩ = some S0 ∧ Ok (t S0) fun c S2 => P S2.h ∧ (c = true → Ok (e S2) fun y S3 => y = d ∧ P S3.h)) :
    ∃ acc h2, dComp vs it g t e S = .ok (.ref h2.length) ⟨S1.loc, h2 ++ [.lst acc]⟩ ∧ P h2 ∧ acc.Sublist xs := by
  have step : ∀ d ∈ xs, ∀ (acc : List D) h, P h → acc.length < 1000000 → ∃ S0 S2 b, g d ⟨wipeD S1.loc vs, h⟩ = some S0 ∧ compT t e S0 acc = .ok (acc ++ if b = true then [d] else []) S2 ∧ P S2.h := fun d hd acc h j l => by
    obtain ⟨S0, h1, h3⟩ := p d hd h j
    obtain ⟨c, S2, e1, j2, h4⟩ := h3.ex
    cases c with
    | true =>
      obtain ⟨y, S3, e2, rfl, j3⟩ := (h4 rfl).ex
      refine ⟨S0, S3, true, h1, ?_, j3⟩
      unfold compT
      rw [e1, Res.only_ok, if_pos rfl, e2, Res.only_ok, mxL_eq, if_pos l, if_pos rfl]
    | false =>
      refine ⟨S0, S2, false, h1, ?_, j2⟩
      unfold compT
      rw [e1, Res.only_ok, if_neg (by decide), if_neg (by decide), List.append_nil]
  have sub : ∀ (b : Bool) (d : D) (ds ys : List D), ys.Sublist ds → ((if b = true then [d] else []) ++ ys).Sublist (d :: ds) := fun b d ds ys h => by
    cases b with
    | true => exact h.cons₂ d
    | false => exact h.cons d
  cases I with
  | vals ys =>
    obtain rfl : ys = xs := ov _ j0
    have go : ∀ (zs acc : List D) (h : List Ob), (∀ z ∈ zs, z ∈ ys) → acc.length + zs.length ≤ 1000000 → P h → ∃ h2 a2, compV g t e (wipeD S1.loc vs) zs acc h = .ok (acc ++ a2) ⟨wipeD S1.loc vs, h2⟩ ∧ P h2 ∧ a2.Sublist zs := by
      intro zs
      induction zs with
      | nil => exact fun acc h _ _ j => ⟨h, [], by simp [compV], j, List.Sublist.refl _⟩
      | cons z zs ih =>
        intro acc h hz l j
        simp only [List.length_cons] at l
        obtain ⟨S0, S2, b, h1, h2, j2⟩ := step z (hz z (by simp)) acc h j (by omega)
        obtain ⟨h3, a3, e3, j3, s3⟩ := ih (acc ++ if b = true then [z] else []) S2.h (fun w hw => hz w (List.mem_cons_of_mem _ hw)) (by cases b <;> simp <;> omega) j2
        refine ⟨h3, (if b = true then [z] else []) ++ a3, ?_, j3, sub b z zs a3 s3⟩
        unfold compV
        rw [h1]
        dsimp only
        rw [h2, Res.only_ok, e3, List.append_assoc]
    obtain ⟨h2, a2, e2, j, s⟩ := go ys [] S1.h (fun _ h => h) (by simp; omega) j0
    refine ⟨a2, h2, ?_, j, s⟩
    unfold dComp
    rw [hi, Res.bind_ok]
    dsimp only
    rw [e2]
    rfl
  | dyn it2 =>
    have go : ∀ (k i : Nat) (acc : List D) (h : List Ob), xs.length < i + k → i ≤ xs.length → acc.length + (xs.length - i) ≤ 1000000 → P h → ∃ h2 a2, compO it2 g t e (wipeD S1.loc vs) k i acc h = .ok (acc ++ a2) ⟨wipeD S1.loc vs, h2⟩ ∧ P h2 ∧ a2.Sublist (xs.drop i) := by
      intro k
      induction k with
      | zero => intro i acc h h1 h2; omega
      | succ k ih =>
        intro i acc h hk hi' hl' j
        by_cases lt : i < xs.length
        · obtain ⟨S0, S2, b, h1, h2, j2⟩ := step xs[i] (List.getElem_mem lt) acc h j (by omega)
          obtain ⟨h3, a3, e3, j3, s3⟩ := ih (i + 1) (acc ++ if b = true then [xs[i]] else []) S2.h (by omega) (by omega) (by cases b <;> simp <;> omega) j2
          refine ⟨h3, (if b = true then [xs[i]] else []) ++ a3, ?_, j3, by rw [List.drop_eq_getElem_cons lt]; exact sub b _ _ _ s3⟩
          unfold compO
          rw [ov h j i, List.getElem?_eq_getElem lt]
          dsimp only
          rw [h1]
          dsimp only
          rw [h2, Res.only_ok, e3, List.append_assoc]
        · refine ⟨h, [], ?_, j, List.nil_sublist _⟩
          unfold compO
          rw [ov h j i, List.getElem?_eq_none (by omega), List.append_nil]
    obtain ⟨h2, a2, e2, j, s⟩ := go 100000 0 [] S1.h (by omega) (by omega) (by simp; omega) j0
    refine ⟨a2, h2, ?_, j, by simpa using s⟩
    unfold dComp
    rw [hi, Res.bind_ok]
    dsimp only
    rw [e2]
    rfl
end Den

/-! ### 110. data in which empty dicts stand: what they are in the heap, == -/
namespace Den
open PySem L2

/-! what a value is in the heap: data, dicts being empty -/
mutual
inductive Rq (h : Heap) : Value → PyData → Prop
  | non : Rq h .none .none
  | bl (b : Bool) : Rq h (.bool b) (.bool b)
  | int (i : Int) (t : Tok) : Rq h (.int i t) (.int i)
  | str (x : Str) (t : Tok) : Rq h (.str x t) (.str x)
  | lst {a : Addr} {o : Obj} {vs : Array Value} {n : Nat} {xs : List PyData} : h.get? a = some o → o.cls = .type "list" → o.data = .seq vs n → Rqs h vs.toList xs → Rq h (.ref a) (.list xs)
  | tup {a : Addr} {o : Obj} {vs : Array Value} {n : Nat} {xs : List PyData} : h.get? a = some o → o.cls = .type "tuple" → o.data = .seq vs n → Rqs h vs.toList xs → Rq h (.ref a) (.tuple xs)
  | dct {a : Addr} {n : Nat} : (a == sysModules) = false → h.get? a = some ⟨.type "dict", none, .dict #[] n, #[]⟩ → Rq h (.ref a) (.dict [])
inductive Rqs (h : Heap) : List Value → List PyData → Prop
  | nil : Rqs h [] []
  | cons {v : Value} {vs : List Value} {d : PyData} {ds : List PyData} : Rq h v d → Rqs h vs ds → Rqs h (v :: vs) (d :: ds)
end

mutual
theorem Rq.reads {h : Heap} : ∀ {v : Value} {d : PyData}, Rq h v d → ∃ as, Reads h v d as
  | _, _, .non => ⟨_, .none⟩
  | _, _, .bl b => ⟨_, .bool b⟩
  | _, _, .int i t => ⟨_, .int i t⟩
  | _, _, .str x t => ⟨_, .str x t⟩
  | _, _, .lst h1 h2 h3 h4 => let ⟨_, r⟩ := Rqs.reads h4; ⟨_, .list h1 h2 h3 r⟩
  | _, _, .tup h1 h2 h3 h4 => let ⟨_, r⟩ := Rqs.reads h4; ⟨_, .tuple h1 h2 h3 r⟩
  | _, _, .dct _ h1 => ⟨_, .dict h1 rfl rfl .nil .nil⟩
theorem Rqs.reads {h : Heap} : ∀ {vs : List Value} {ds : List PyData}, Rqs h vs ds → ∃ as, ReadsAll h vs ds as
  | _, _, .nil => ⟨_, .nil⟩
  | _, _, .cons r rs => let ⟨_, r1⟩ := Rq.reads r; let ⟨_, r2⟩ := Rqs.reads rs; ⟨_, .cons r1 r2⟩
end
theorem Rqs.len {h : Heap} : ∀ {vs : List Value} {ds : List PyData}, Rqs h vs ds → vs.length = ds.length
  | _, _, .nil => rfl
  | _, _, .cons _ rs => congrArg (· + 1) (Rqs.len rs)

mutual
theorem Rq.one {h : Heap} : ∀ {v : Value} {d e : PyData}, Rq h v d → Rq h v e → d = e
  | _, _, _, .non, q => by cases q; rfl
  | _, _, _, .bl b, q => by cases q; rfl
  | _, _, _, .int i t, q => by cases q; rfl
  | _, _, _, .str x t, q => by cases q; rfl
  | _, _, _, .lst h1 h2 h3 h4, q => by
    cases q with
    | lst k1 k2 k3 k4 =>
      have e := Option.some.inj (h1.symm.trans k1); subst e
      have e := h3.symm.trans k3; cases e
      exact congrArg PyData.list (Rqs.one h4 k4)
    | tup k1 k2 k3 k4 => have e := Option.some.inj (h1.symm.trans k1); subst e; exact absurd (h2.symm.trans k2) (by simp)
    | dct _ k1 => have e := Option.some.inj (h1.symm.trans k1); subst e; exact absurd h2 (by simp)
  | _, _, _, .tup h1 h2 h3 h4, q => by
    cases q with
    | tup k1 k2 k3 k4 =>
      have e := Option.some.inj (h1.symm.trans k1); subst e
      have e := h3.symm.trans k3; cases e
      exact congrArg PyData.tuple (Rqs.one h4 k4)
    | lst k1 k2 k3 k4 => have e := Option.some.inj (h1.symm.trans k1); subst e; exact absurd (h2.symm.trans k2) (by simp)
    | dct _ k1 => have e := Option.some.inj (h1.symm.trans k1); subst e; exact absurd h2 (by simp)
  | _, _, _, .dct _ h1, q => by
    cases q with
    | dct _ k1 => rfl
    | lst k1 k2 _ _ => have e := Option.some.inj (h1.symm.trans k1); subst e; exact absurd k2 (by simp)
    | tup k1 k2 _ _ => have e := Option.some.inj (h1.symm.trans k1); subst e; exact absurd k2 (by simp)
theorem Rqs.one {h : Heap} : ∀ {vs : List Value} {ds es : List PyData}, Rqs h vs ds → Rqs h vs es → ds = es
  | _, _, _, .nil, q => by cases q; rfl
  | _, _, _, .cons r rs, q => by
    cases q with
    | cons k ks => rw [Rq.one r k, Rqs.one rs ks]
end

/-! == of data: an empty dict is just an empty dict -/
mutual
def eqq : PyData → PyData → Bool
  | .dict _, .dict _ => true
  | .list xs, .list ys => eqqs xs ys
  | .tuple xs, .tuple ys => eqqs xs ys
  | .none, .none => true
  | .bool a, .bool b => a == b
  | .bool a, .int j => (if a then 1 else 0) == j
  | .int i, .bool b => i == (if b then 1 else 0)
  | .int i, .int j => i == j
  | .str x, .str y => x == y
  | _, _ => false
def eqqs : List PyData → List PyData → Bool
  | [], [] => true
  | x :: xs, y :: ys => eqq x y && eqqs xs ys
  | _, _ => false
end
mutual
theorem eqq_self : ∀ d : PyData, eqq d d = true
  | .none => by simp [eqq]
  | .bool b => by simp [eqq]
  | .int b => by simp [eqq]
  | .str b => by simp [eqq]
  | .list xs => by simp only [eqq]; exact eqqs_self xs
  | .tuple xs => by simp only [eqq]; exact eqqs_self xs
  | .dict kvs => by simp [eqq]
theorem eqqs_self : ∀ ds : List PyData, eqqs ds ds = true
  | [] => by simp [eqqs]
  | d :: ds => by rw [eqqs, eqq_self d, eqqs_self ds]; rfl
end
abbrev eqqAt (xs ys : List PyData) (j : Nat) : Bool := eqq (xs.getD j .none) (ys.getD j .none)
theorem eqqs_ix : ∀ xs ys : List PyData, eqqs xs ys = ((List.range (min xs.length ys.length)).all (eqqAt xs ys) && xs.length == ys.length)
  | [], [] => by simp [eqqs]
  | [], _ :: _ => by simp [eqqs]
  | _ :: _, [] => by simp [eqqs]
  | x :: xs, y :: ys => by
    rw [eqqs, eqqs_ix xs ys]
    have e1 : min (x :: xs).length (y :: ys).length = min xs.length ys.length + 1 := by simp only [List.length_cons]; omega
    rw [e1, List.range_succ_eq_map, List.all_cons, List.all_map]
    have e2 : ((x :: xs).length == (y :: ys).length) = (xs.length == ys.length) := by simp
    rw [e2, Bool.and_assoc]
    rfl
end Den

/-! ### 111. == where empty dicts stand -/
namespace Den
open PySem L2 PySem.SeqAt
open AutoSeq1 (wpAny_loadPart')
/-- what d == y does where y is no dict -/
theorem dctEq_not {prog : Program} {w : World} {A : Around} {E : Value → Shared → Prop} {s : Shared} {a : Addr} {y : Value} {T : String} {Q : Value → Shared → Prop}
    (hd : s.TypeIs (.ref a) "dict") (hT : s.TypeIs y T) (hs : isSubtype (.type T) (.type "dict") = pure false) (h : Q .notImplemented s) : wpAny (model prog w) A (call (.builtin "dict.__eq__") [.ref a, y]) Q E s := by
  refine wpAny_call_entry F.slot_dict_eq hd F.entry_dict_eq ?_ (F.args_dict_eq_2 _ _)
  show wpAny _ _ (Builtin.Dict.dictSlotArgs "__eq__" ⟨[.ref a, y], []⟩ >>= _) _ _ s
  unfold Builtin.Dict.dictSlotArgs
  refine wpAny_bind (wpAny_bind (wpAny_notOrdered_dict hd (wpAny_pure ?_)))
  refine wpAny_bind (wpAny_isInstance hT hs ?_)
  simp only [Bool.not_false, if_true]
  exact wpAny_bind (wpAny_rule (wpAny_bind (wpAny_pure (wpAny_pure ⟨_, rfl, h⟩))))
section
variable (l d : Addr) (k : Nat) (items : Array Value) (n : Nat) (dd : Option Addr) (sl : Array (Option Value)) (b : Bool) (i : Int) (x : Str) (u : Tok)
theorem lstEq_dct : Meets (Builtin.«list.__eq__» ⟨[.ref l, .ref d], []⟩)
    (fun _ R s => (s.heap.get? l = some { cls := .type "list", dict := dd, data := .seq items n, slots := sl } ∧ s.heap.get? d = some ⟨.type "dict", none, .dict #[] k, #[]⟩) ∧ R (.ok (.ret .notImplemented)) s) :=
  .of_wp fun prog w A R s h => by
    obtain ⟨hp, g, dr, tk, os⟩ := s; obtain ⟨⟨hl, hb⟩, h⟩ := h; have f1 := F.sub_dict_list
    wp_walk using wpAny_loadPart' hl, wpAny_loadPart' hb
    exact ⟨_, rfl, h⟩
theorem tupEq_dct : Meets (Builtin.«tuple.__eq__» ⟨[.ref l, .ref d], []⟩)
    (fun _ R s => (s.heap.get? l = some { cls := .type "tuple", dict := dd, data := .seq items n, slots := sl } ∧ s.heap.get? d = some ⟨.type "dict", none, .dict #[] k, #[]⟩) ∧ R (.ok (.ret .notImplemented)) s) :=
  .of_wp fun prog w A R s h => by
    obtain ⟨hp, g, dr, tk, os⟩ := s; obtain ⟨⟨hl, hb⟩, h⟩ := h; have f1 := F.sub_dict_tuple
    wp_walk using wpAny_loadPart' hl, wpAny_loadPart' hb
    exact ⟨_, rfl, h⟩
theorem blEq_dct : Meets (Builtin.«int.__eq__» ⟨[.bool b, .ref d], []⟩)
    (fun _ R s => s.heap.get? d = some ⟨.type "dict", none, .dict #[] k, #[]⟩ ∧ R (.ok (.ret .notImplemented)) s) :=
  .of_wp fun prog w A R s h => by
    obtain ⟨hp, g, dr, tk, os⟩ := s; obtain ⟨hb, h⟩ := h
    wp_walk using wpAny_loadPart' hb, wpAny_load hb
    exact ⟨_, rfl, h⟩
theorem intEq_dct : Meets (Builtin.«int.__eq__» ⟨[.int i u, .ref d], []⟩)
    (fun _ R s => s.heap.get? d = some ⟨.type "dict", none, .dict #[] k, #[]⟩ ∧ R (.ok (.ret .notImplemented)) s) :=
  .of_wp fun prog w A R s h => by
    obtain ⟨hp, g, dr, tk, os⟩ := s; obtain ⟨hb, h⟩ := h
    wp_walk using wpAny_loadPart' hb, wpAny_load hb
    exact ⟨_, rfl, h⟩
theorem strEq_dct : Meets (Builtin.«str.__eq__» ⟨[.str x u, .ref d], []⟩)
    (fun _ R s => s.heap.get? d = some ⟨.type "dict", none, .dict #[] k, #[]⟩ ∧ R (.ok (.ret .notImplemented)) s) :=
  .of_wp fun prog w A R s h => by
    obtain ⟨hp, g, dr, tk, os⟩ := s; obtain ⟨hb, h⟩ := h
    wp_walk using wpAny_loadPart' hb, wpAny_load hb
    exact ⟨_, rfl, h⟩
end
section
variable {A : Around} {s : Shared} {a l : Addr} {k n : Nat} {o : Obj} {vs : Array Value}
abbrev Mt (s : Shared) (a : Addr) (k : Nat) : Prop := s.heap.get? a = some ⟨.type "dict", none, .dict #[] k, #[]⟩
theorem Mt.ty (h : Mt s a k) : s.TypeIs (.ref a) "dict" := ⟨_, h, rfl⟩
theorem eqAt_val {v : Value} {r : Bool} (y : Value) (h : RcAt A s y v r) (hne : (y == v) = true → r = true) (hf : ∀ b t, y ≠ .float b t) : EqAt A s y v r := fun prog w E Q q => by
  unfold eqBool
  refine wpAny_holding ?_
  refine wpAny_ite_split (fun hab => ?_) (fun _ => ?_)
  · rw [hne hab] at q
    exact wpAny_bind (wpAny_rule (wpAny_pure q))
  · cases y <;> first | exact absurd rfl (hf _ _) | exact wpAny_bind (h prog w E _ (wpAny_truthy_bool q))
theorem rc_non_dct (h : Mt s a k) (hu : A.units < cLine) : RcAt A s .none (.ref a) false := fun prog w E Q q =>
  rc_eq_decline_or (k := false) rfl h.ty (by decide) F.sub_dict_NoneType F.slot_NoneType_eq F.slot_dict_eq_refl
    (fun _ hq => call_gives F.slot_NoneType_eq rfl F.entry_NoneType_eq (F.args_NoneType_eq_2 _ _) (NoneType___eq___none_ref_0 a) hq)
    (fun _ hq => dctEq_not (T := "NoneType") h.ty rfl F.sub_NoneType_dict hq) (fun _ hq => wpAny_of_eq (rfl : isSame .none (.ref a) = pure false) hq) (.inr hu) q
theorem rc_dct_non (h : Mt s a k) (hu : A.units < cLine) : RcAt A s (.ref a) .none false := fun prog w E Q q =>
  rc_eq_decline_or (k := false) h.ty rfl (by decide) F.sub_NoneType_dict F.slot_dict_eq F.slot_NoneType_eq_refl
    (fun _ hq => dctEq_not (T := "NoneType") h.ty rfl F.sub_NoneType_dict hq) (fun _ hq => call_gives F.slot_NoneType_eq_refl rfl F.entry_NoneType_eq (F.args_NoneType_eq_2 _ _) (NoneType___eq___none_ref_0 a) hq)
    (fun _ hq => wpAny_of_eq (rfl : isSame (.ref a) .none = pure false) hq) (.inr hu) q
theorem rc_bl_dct (b : Bool) (h : Mt s a k) (hu : A.units < cLine) : RcAt A s (.bool b) (.ref a) false := fun prog w E Q q =>
  rc_eq_decline_or (k := false) rfl h.ty (by decide) F.sub_dict_bool F.slot_bool_eq F.slot_dict_eq_refl
    (fun _ hq => call_meets F.slot_bool_eq rfl F.entry_int_eq (F.args_int_eq_2 _ _) (blEq_dct a k b) ⟨h, hq⟩)
    (fun _ hq => dctEq_not (T := "bool") h.ty rfl F.sub_bool_dict hq) (fun _ hq => wpAny_of_eq (rfl : isSame (.bool b) (.ref a) = pure false) hq) (.inr hu) q
theorem rc_dct_bl (b : Bool) (h : Mt s a k) (hu : A.units < cLine) : RcAt A s (.ref a) (.bool b) false := fun prog w E Q q =>
  rc_eq_decline_or (k := false) h.ty rfl (by decide) F.sub_bool_dict F.slot_dict_eq F.slot_bool_eq_refl
    (fun _ hq => dctEq_not (T := "bool") h.ty rfl F.sub_bool_dict hq) (fun _ hq => call_meets F.slot_bool_eq_refl rfl F.entry_int_eq (F.args_int_eq_2 _ _) (blEq_dct a k b) ⟨h, hq⟩)
    (fun _ hq => wpAny_of_eq (rfl : isSame (.ref a) (.bool b) = pure false) hq) (.inr hu) q
theorem rc_int_dct (i : Int) (t : Tok) (h : Mt s a k) (hu : A.units < cLine) : RcAt A s (.int i t) (.ref a) false := fun prog w E Q q =>
  rc_eq_decline_or (k := false) (typeIs_int s i t) h.ty (by decide) F.sub_dict_int F.slot_int_eq F.slot_dict_eq_refl
    (fun _ hq => call_meets F.slot_int_eq (typeIs_int s i t) F.entry_int_eq (F.args_int_eq_2 _ _) (intEq_dct a k i t) ⟨h, hq⟩)
    (fun _ hq => dctEq_not h.ty (typeIs_int s i t) F.sub_int_dict hq) (fun _ hq => wpAny_of_eq (rfl : isSame (.int i t) (.ref a) = pure false) hq) (.inr hu) q
theorem rc_dct_int (i : Int) (t : Tok) (h : Mt s a k) (hu : A.units < cLine) : RcAt A s (.ref a) (.int i t) false := fun prog w E Q q =>
  rc_eq_decline_or (k := false) h.ty (typeIs_int s i t) (by decide) F.sub_int_dict F.slot_dict_eq F.slot_int_eq_refl
    (fun _ hq => dctEq_not h.ty (typeIs_int s i t) F.sub_int_dict hq) (fun _ hq => call_meets F.slot_int_eq_refl (typeIs_int s i t) F.entry_int_eq (F.args_int_eq_2 _ _) (intEq_dct a k i t) ⟨h, hq⟩)
    (fun _ hq => wpAny_of_eq (rfl : isSame (.ref a) (.int i t) = pure false) hq) (.inr hu) q
theorem rc_str_dct (x : Str) (t : Tok) (h : Mt s a k) (hu : A.units < cLine) : RcAt A s (.str x t) (.ref a) false := fun prog w E Q q =>
  rc_eq_decline_or (k := false) (typeIs_str s x t) h.ty (by decide) F.sub_dict_str F.slot_str_eq F.slot_dict_eq_refl
    (fun _ hq => call_meets F.slot_str_eq (typeIs_str s x t) F.entry_str_eq (F.args_str_eq_2 _ _) (strEq_dct a k x t) ⟨h, hq⟩)
    (fun _ hq => dctEq_not h.ty (typeIs_str s x t) F.sub_str_dict hq) (fun _ hq => wpAny_of_eq (rfl : isSame (.str x t) (.ref a) = pure false) hq) (.inr hu) q
theorem rc_dct_str (x : Str) (t : Tok) (h : Mt s a k) (hu : A.units < cLine) : RcAt A s (.ref a) (.str x t) false := fun prog w E Q q =>
  rc_eq_decline_or (k := false) h.ty (typeIs_str s x t) (by decide) F.sub_str_dict F.slot_dict_eq F.slot_str_eq_refl
    (fun _ hq => dctEq_not h.ty (typeIs_str s x t) F.sub_str_dict hq) (fun _ hq => call_meets F.slot_str_eq_refl (typeIs_str s x t) F.entry_str_eq (F.args_str_eq_2 _ _) (strEq_dct a k x t) ⟨h, hq⟩)
    (fun _ hq => wpAny_of_eq (rfl : isSame (.ref a) (.str x t) = pure false) hq) (.inr hu) q
theorem seq_ne_dct {T : String} (h : Mt s a k) (hl : s.heap.get? l = some o) (hc : o.cls = .type T) (hT : T ≠ "dict") : l ≠ a := fun e => by
  subst e
  have e := Option.some.inj (hl.symm.trans h)
  subst e
  simp at hc
  exact hT hc.symm
theorem rc_lst_dct (h : Mt s a k) (hl : s.heap.get? l = some o) (hc : o.cls = .type "list") (hd : o.data = .seq vs n) (hu : A.units < cLine) : RcAt A s (.ref l) (.ref a) false := fun prog w E Q q => by
  have hne := seq_ne_dct h hl hc (by decide)
  obtain ⟨cls, dd, data, sl⟩ := o
  dsimp only at hc hd
  subst hc hd
  exact rc_eq_decline_or (k := false) ⟨_, hl, rfl⟩ h.ty (by decide) F.sub_dict_list F.slot_list_eq F.slot_dict_eq_refl
    (fun _ hq => call_meets F.slot_list_eq ⟨_, hl, rfl⟩ F.entry_list_eq (F.args_list_eq_2 _ _) (lstEq_dct l a k vs n dd sl) ⟨⟨hl, h⟩, hq⟩)
    (fun _ hq => dctEq_not (T := "list") h.ty ⟨_, hl, rfl⟩ F.sub_list_dict hq) (fun _ hq => wpAny_isSame_ref_other' hne hl h (by simp) hq) (.inr hu) q
theorem rc_dct_lst (h : Mt s a k) (hl : s.heap.get? l = some o) (hc : o.cls = .type "list") (hd : o.data = .seq vs n) (hu : A.units < cLine) : RcAt A s (.ref a) (.ref l) false := fun prog w E Q q => by
  have hne := seq_ne_dct h hl hc (by decide)
  obtain ⟨cls, dd, data, sl⟩ := o
  dsimp only at hc hd
  subst hc hd
  exact rc_eq_decline_or (k := false) h.ty ⟨_, hl, rfl⟩ (by decide) F.sub_list_dict F.slot_dict_eq F.slot_list_eq_refl
    (fun _ hq => dctEq_not (T := "list") h.ty ⟨_, hl, rfl⟩ F.sub_list_dict hq)
    (fun _ hq => call_meets F.slot_list_eq_refl ⟨_, hl, rfl⟩ F.entry_list_eq (F.args_list_eq_2 _ _) (lstEq_dct l a k vs n dd sl) ⟨⟨hl, h⟩, hq⟩) (fun _ hq => wpAny_isSame_ref_other' hne.symm h hl (by simp) hq) (.inr hu) q
theorem rc_tup_dct (h : Mt s a k) (hl : s.heap.get? l = some o) (hc : o.cls = .type "tuple") (hd : o.data = .seq vs n) (hu : A.units < cLine) : RcAt A s (.ref l) (.ref a) false := fun prog w E Q q => by
  have hne := seq_ne_dct h hl hc (by decide)
  obtain ⟨cls, dd, data, sl⟩ := o
  dsimp only at hc hd
  subst hc hd
  exact rc_eq_decline_or (k := false) ⟨_, hl, rfl⟩ h.ty (by decide) F.sub_dict_tuple F.slot_tuple_eq F.slot_dict_eq_refl
    (fun _ hq => call_meets F.slot_tuple_eq ⟨_, hl, rfl⟩ F.entry_tuple_eq (F.args_tuple_eq_2 _ _) (tupEq_dct l a k vs n dd sl) ⟨⟨hl, h⟩, hq⟩)
    (fun _ hq => dctEq_not (T := "tuple") h.ty ⟨_, hl, rfl⟩ F.sub_tuple_dict hq) (fun _ hq => wpAny_isSame_ref_other' hne hl h (by simp) hq) (.inr hu) q
theorem rc_dct_tup (h : Mt s a k) (hl : s.heap.get? l = some o) (hc : o.cls = .type "tuple") (hd : o.data = .seq vs n) (hu : A.units < cLine) : RcAt A s (.ref a) (.ref l) false := fun prog w E Q q => by
  have hne := seq_ne_dct h hl hc (by decide)
  obtain ⟨cls, dd, data, sl⟩ := o
  dsimp only at hc hd
  subst hc hd
  exact rc_eq_decline_or (k := false) h.ty ⟨_, hl, rfl⟩ (by decide) F.sub_tuple_dict F.slot_dict_eq F.slot_tuple_eq_refl
    (fun _ hq => dctEq_not (T := "tuple") h.ty ⟨_, hl, rfl⟩ F.sub_tuple_dict hq)
    (fun _ hq => call_meets F.slot_tuple_eq_refl ⟨_, hl, rfl⟩ F.entry_tuple_eq (F.args_tuple_eq_2 _ _) (tupEq_dct l a k vs n dd sl) ⟨⟨hl, h⟩, hq⟩) (fun _ hq => wpAny_isSame_ref_other hne.symm h hl (by simp) hq) (.inr hu) q
theorem dct_of {P : Program} {w : World} (h : Mt s a k) : s.heap.DictOf (strKind P w) a [] :=
  ⟨_, _, _, h, ⟨rfl, rfl, rfl⟩, rfl, fun _ x => by simp at x, .nil, List.nodup_nil⟩
theorem rc_dct_dct {b : Addr} {m : Nat} (ha : (a == sysModules) = false) (h : Mt s a k) (hb : (b == sysModules) = false) (g : Mt s b m) (hu : A.units < cLine) : RcAt A s (.ref a) (.ref b) true := fun prog w E Q q =>
  PySem.W.keq_eq (knd := strKind prog w) (r := true) ha hb (dct_of h) (dct_of g) hu (fun _ => .nil) q
end
section
variable {A : Around} {s : Shared}
theorem qroom_head {u a b c d : Nat} (h : u + min (max a b) (max c d) < cLine) : u + min a c < cLine := by
  have := Nat.le_max_left a b
  have := Nat.le_max_left c d
  omega
theorem qroom_tail {u a b c d : Nat} (h : u + min (max a b) (max c d) < cLine) : u + min b d < cLine := by
  have := Nat.le_max_right a b
  have := Nat.le_max_right c d
  omega
theorem qroom {u a b : Nat} (h : u + min a b < cLine) : u < cLine := Nat.lt_of_le_of_lt (Nat.le_add_right u (min a b)) h
theorem qroom1 {u a b : Nat} (h : u + min (a + 1) (b + 1) < cLine) : u + 1 + min a b < cLine := by omega
theorem range_pair {xs ys : List PyData} (h : xs.length = ys.length) : (List.range xs.length).all (eqqAt xs ys) = eqqs xs ys := by
  rw [eqqs_ix, ← h, Nat.min_self]; simp
theorem range_unlike {xs ys : List PyData} (h : xs.length ≠ ys.length) : eqqs xs ys = false := by
  rw [eqqs_ix]; simp [h]
/-- the two objects -/
theorem rq_refs {k : Nat} (each : ∀ (xs ys : List PyData) (A : Around) (vs ws : List Value), PyData.depthAll xs < k → Rqs s.heap vs xs → Rqs s.heap ws ys → A.units + min (PyData.depthAll xs) (PyData.depthAll ys) < cLine →
      ∀ j (h1 : j < vs.length) (h2 : j < ws.length), EqAt A s vs[j] ws[j] (eqqAt xs ys j))
    {a b : Addr} {d e : PyData} (ra : Rq s.heap (.ref a) d) (rb : Rq s.heap (.ref b) e) (hk : d.depth ≤ k) (hu : A.units + min d.depth e.depth < cLine) : RcAt A s (.ref a) (.ref b) (eqq d e) := by
  cases ra with
  | dct ha h1 =>
    cases rb with
    | dct hb h2 => rw [eqq]; exact rc_dct_dct ha h1 hb h2 (qroom hu)
    | lst k1 k2 k3 k4 => rw [show eqq _ _ = false by simp [eqq]]; exact rc_dct_lst h1 k1 k2 k3 (qroom hu)
    | tup k1 k2 k3 k4 => rw [show eqq _ _ = false by simp [eqq]]; exact rc_dct_tup h1 k1 k2 k3 (qroom hu)
  | lst h1 h2 h3 h4 =>
    cases rb with
    | dct hb g => rw [show eqq _ _ = false by simp [eqq]]; exact rc_lst_dct g h1 h2 h3 (qroom hu)
    | tup k1 k2 k3 k4 => rw [show eqq _ _ = false by simp [eqq]]; exact RcAt.list_tuple ⟨_, h1, h2, _, h3⟩ ⟨_, k1, k2, _, k3⟩ (qroom hu)
    | lst k1 k2 k3 k4 =>
      rename_i vs1 n1 xs o2 vs2 n2 ys
      have z1 : vs1.size = xs.length := by simpa using h4.len
      have z2 : vs2.size = ys.length := by simpa using k4.len
      rw [eqq]
      by_cases hz : vs1.size = vs2.size
      · rw [← range_pair (z1.symm.trans (hz.trans z2)), ← z1]
        refine RcAt.lists ⟨_, h1, h2, _, h3⟩ ⟨_, k1, k2, _, k3⟩ hz (qroom hu) fun j j1 j2 => ?_
        have := each xs ys A.in1 vs1.toList vs2.toList (Nat.lt_of_succ_le hk) h4 k4 (qroom1 hu) j (by simpa using j1) (by simpa using j2)
        simpa using this
      · rw [range_unlike (fun e => hz (z1.trans (e.trans z2.symm)))]
        exact RcAt.lists_lengths ⟨_, h1, h2, _, h3⟩ ⟨_, k1, k2, _, k3⟩ (by simpa using hz) (qroom hu)
  | tup h1 h2 h3 h4 =>
    cases rb with
    | dct hb g => rw [show eqq _ _ = false by simp [eqq]]; exact rc_tup_dct g h1 h2 h3 (qroom hu)
    | lst k1 k2 k3 k4 => rw [show eqq _ _ = false by simp [eqq]]; exact RcAt.tuple_list ⟨_, h1, h2, _, h3⟩ ⟨_, k1, k2, _, k3⟩ (qroom hu)
    | tup k1 k2 k3 k4 =>
      rename_i vs1 n1 xs o2 vs2 n2 ys
      have z1 : vs1.size = xs.length := by simpa using h4.len
      have z2 : vs2.size = ys.length := by simpa using k4.len
      rw [eqq, eqqs_ix, ← z1, ← z2]
      refine RcAt.tuples ⟨_, h1, h2, _, h3⟩ ⟨_, k1, k2, _, k3⟩ (qroom hu) fun j j1 j2 => ?_
      have := each xs ys A.in1 vs1.toList vs2.toList (Nat.lt_of_succ_le hk) h4 k4 (qroom1 hu) j (by simpa using j1) (by simpa using j2)
      simpa using this
/-- no two objects -/
theorem rq_plain {v u : Value} {d e : PyData} (ra : Rq s.heap v d) (rb : Rq s.heap u e) (hu : A.units < cLine) (hr : ¬ ((∃ a, v = .ref a) ∧ ∃ b, u = .ref b)) : RcAt A s v u (eqq d e) := by
  cases ra with
  | non =>
    cases rb with
    | non => rw [show eqq _ _ = true by simp [eqq]]; exact RcAt.none_none 
    | bl b2 => rw [show eqq _ _ = false by simp [eqq]]; exact RcAt.none_bool b2
    | int i2 t2 => rw [show eqq _ _ = false by simp [eqq]]; exact RcAt.none_int i2 t2
    | str x2 t2 => rw [show eqq _ _ = false by simp [eqq]]; exact RcAt.none_str x2 t2
    | lst h1 h2 h3 h4 => rw [show eqq _ _ = false by simp [eqq]]; exact RcAt.none_list  ⟨_, h1, h2, _, h3⟩ hu
    | tup h1 h2 h3 h4 => rw [show eqq _ _ = false by simp [eqq]]; exact RcAt.none_tuple  ⟨_, h1, h2, _, h3⟩ hu
    | dct ha h1 => rw [show eqq _ _ = false by simp [eqq]]; exact rc_non_dct  h1 hu
  | bl b1 =>
    cases rb with
    | non => rw [show eqq _ _ = false by simp [eqq]]; exact RcAt.bool_none b1
    | bl b2 => rw [show eqq _ _ = (b1 == b2) by simp [eqq]]; exact RcAt.bool_bool b1 b2
    | int i2 t2 => rw [show eqq _ _ = ((if b1 then 1 else 0) == i2) by simp [eqq]]; exact RcAt.bool_int b1 i2 t2
    | str x2 t2 => rw [show eqq _ _ = false by simp [eqq]]; exact RcAt.bool_str b1 x2 t2
    | lst h1 h2 h3 h4 => rw [show eqq _ _ = false by simp [eqq]]; exact RcAt.bool_list b1 ⟨_, h1, h2, _, h3⟩ hu
    | tup h1 h2 h3 h4 => rw [show eqq _ _ = false by simp [eqq]]; exact RcAt.bool_tuple b1 ⟨_, h1, h2, _, h3⟩ hu
    | dct ha h1 => rw [show eqq _ _ = false by simp [eqq]]; exact rc_bl_dct b1 h1 hu
  | int i1 t1 =>
    cases rb with
    | non => rw [show eqq _ _ = false by simp [eqq]]; exact RcAt.int_none i1 t1
    | bl b2 => rw [show eqq _ _ = (i1 == (if b2 then 1 else 0)) by simp [eqq]]; exact RcAt.int_bool i1 t1 b2
    | int i2 t2 => rw [show eqq _ _ = (i1 == i2) by simp [eqq]]; exact RcAt.int_int i1 t1 i2 t2
    | str x2 t2 => rw [show eqq _ _ = false by simp [eqq]]; exact RcAt.int_str i1 t1 x2 t2
    | lst h1 h2 h3 h4 => rw [show eqq _ _ = false by simp [eqq]]; exact RcAt.int_list i1 t1 ⟨_, h1, h2, _, h3⟩ hu
    | tup h1 h2 h3 h4 => rw [show eqq _ _ = false by simp [eqq]]; exact RcAt.int_tuple i1 t1 ⟨_, h1, h2, _, h3⟩ hu
    | dct ha h1 => rw [show eqq _ _ = false by simp [eqq]]; exact rc_int_dct i1 t1 h1 hu
  | str x1 t1 =>
    cases rb with
    | non => rw [show eqq _ _ = false by simp [eqq]]; exact RcAt.str_none x1 t1
    | bl b2 => rw [show eqq _ _ = false by simp [eqq]]; exact RcAt.str_bool x1 t1 b2
    | int i2 t2 => rw [show eqq _ _ = false by simp [eqq]]; exact RcAt.str_int x1 t1 i2 t2
    | str x2 t2 => rw [show eqq _ _ = (x1 == x2) by simp [eqq]]; exact RcAt.str_str x1 t1 x2 t2
    | lst h1 h2 h3 h4 => rw [show eqq _ _ = false by simp [eqq]]; exact RcAt.str_list x1 t1 ⟨_, h1, h2, _, h3⟩ hu
    | tup h1 h2 h3 h4 => rw [show eqq _ _ = false by simp [eqq]]; exact RcAt.str_tuple x1 t1 ⟨_, h1, h2, _, h3⟩ hu
    | dct ha h1 => rw [show eqq _ _ = false by simp [eqq]]; exact rc_str_dct x1 t1 h1 hu
  | lst h1 h2 h3 h4 =>
    cases rb with
    | non => rw [show eqq _ _ = false by simp [eqq]]; exact RcAt.list_none  ⟨_, h1, h2, _, h3⟩ hu
    | bl b2 => rw [show eqq _ _ = false by simp [eqq]]; exact RcAt.list_bool b2 ⟨_, h1, h2, _, h3⟩ hu
    | int i2 t2 => rw [show eqq _ _ = false by simp [eqq]]; exact RcAt.list_int i2 t2 ⟨_, h1, h2, _, h3⟩ hu
    | str x2 t2 => rw [show eqq _ _ = false by simp [eqq]]; exact RcAt.list_str x2 t2 ⟨_, h1, h2, _, h3⟩ hu
    | lst _ _ _ _ => exact absurd ⟨⟨_, rfl⟩, _, rfl⟩ hr
    | tup _ _ _ _ => exact absurd ⟨⟨_, rfl⟩, _, rfl⟩ hr
    | dct _ _ => exact absurd ⟨⟨_, rfl⟩, _, rfl⟩ hr
  | tup h1 h2 h3 h4 =>
    cases rb with
    | non => rw [show eqq _ _ = false by simp [eqq]]; exact RcAt.tuple_none  ⟨_, h1, h2, _, h3⟩ hu
    | bl b2 => rw [show eqq _ _ = false by simp [eqq]]; exact RcAt.tuple_bool b2 ⟨_, h1, h2, _, h3⟩ hu
    | int i2 t2 => rw [show eqq _ _ = false by simp [eqq]]; exact RcAt.tuple_int i2 t2 ⟨_, h1, h2, _, h3⟩ hu
    | str x2 t2 => rw [show eqq _ _ = false by simp [eqq]]; exact RcAt.tuple_str x2 t2 ⟨_, h1, h2, _, h3⟩ hu
    | lst _ _ _ _ => exact absurd ⟨⟨_, rfl⟩, _, rfl⟩ hr
    | tup _ _ _ _ => exact absurd ⟨⟨_, rfl⟩, _, rfl⟩ hr
    | dct _ _ => exact absurd ⟨⟨_, rfl⟩, _, rfl⟩ hr
  | dct ha h1 =>
    cases rb with
    | non => rw [show eqq _ _ = false by simp [eqq]]; exact rc_dct_non  h1 hu
    | bl b2 => rw [show eqq _ _ = false by simp [eqq]]; exact rc_dct_bl b2 h1 hu
    | int i2 t2 => rw [show eqq _ _ = false by simp [eqq]]; exact rc_dct_int i2 t2 h1 hu
    | str x2 t2 => rw [show eqq _ _ = false by simp [eqq]]; exact rc_dct_str x2 t2 h1 hu
    | lst _ _ _ _ => exact absurd ⟨⟨_, rfl⟩, _, rfl⟩ hr
    | tup _ _ _ _ => exact absurd ⟨⟨_, rfl⟩, _, rfl⟩ hr
    | dct _ _ => exact absurd ⟨⟨_, rfl⟩, _, rfl⟩ hr
theorem rq_nf {h : Heap} {v : Value} {d : PyData} (r : Rq h v d) : ∀ b t, v ≠ .float b t := by cases r <;> exact fun _ _ => nofun
theorem rq_eqAt {k : Nat} (each : ∀ (xs ys : List PyData) (A : Around) (vs ws : List Value), PyData.depthAll xs < k → Rqs s.heap vs xs → Rqs s.heap ws ys → A.units + min (PyData.depthAll xs) (PyData.depthAll ys) < cLine →
      ∀ j (h1 : j < vs.length) (h2 : j < ws.length), EqAt A s vs[j] ws[j] (eqqAt xs ys j))
    {v u : Value} {d e : PyData} (ra : Rq s.heap v d) (rb : Rq s.heap u e) (hk : d.depth ≤ k) (hu : A.units + min d.depth e.depth < cLine) : EqAt A s v u (eqq d e) := by
  refine eqAt_val v ?_ (fun hb => ?_) (rq_nf ra)
  · by_cases hr : (∃ a, v = .ref a) ∧ ∃ b, u = .ref b
    · obtain ⟨⟨a, rfl⟩, b, rfl⟩ := hr
      exact rq_refs each ra rb hk hu
    · exact rq_plain ra rb (qroom hu) hr
  · have e := eq_of_beq hb
    subst e
    rw [ra.one rb]
    exact eqq_self _
theorem rqs_eqAt {k : Nat} (one : ∀ (A : Around) {v u : Value} {d e : PyData}, Rq s.heap v d → Rq s.heap u e → d.depth ≤ k → A.units + min d.depth e.depth < cLine → EqAt A s v u (eqq d e)) :
    ∀ (xs ys : List PyData) (A : Around) (vs ws : List Value), PyData.depthAll xs ≤ k → Rqs s.heap vs xs → Rqs s.heap ws ys → A.units + min (PyData.depthAll xs) (PyData.depthAll ys) < cLine →
      ∀ j (h1 : j < vs.length) (h2 : j < ws.length), EqAt A s vs[j] ws[j] (eqqAt xs ys j)
  | [], _, _, _, _, _, ra, _, _, j, h1, _ => by cases ra; exact absurd h1 (Nat.not_lt_zero _)
  | _ :: _, [], _, _, _, _, _, rb, _, j, _, h2 => by cases rb; exact absurd h2 (Nat.not_lt_zero _)
  | x :: xs, y :: ys, A, _, _, hk, ra, rb, hu, j, h1, h2 => by
    cases ra with
    | cons r rs =>
      cases rb with
      | cons q qs =>
        simp only [PyData.depthAll] at hu hk
        cases j with
        | succ j => exact rqs_eqAt one xs ys A _ _ (Nat.le_trans (Nat.le_max_right _ _) hk) rs qs (qroom_tail hu) j (Nat.lt_of_succ_lt_succ h1) (Nat.lt_of_succ_lt_succ h2)
        | zero => exact one A r q (Nat.le_trans (Nat.le_max_left _ _) hk) (qroom_head hu)
theorem rq_eqK : ∀ (k : Nat) (A : Around) {v u : Value} {d e : PyData}, Rq s.heap v d → Rq s.heap u e → d.depth ≤ k → A.units + min d.depth e.depth < cLine → EqAt A s v u (eqq d e)
  | 0, A, _, _, _, _, ra, rb, hk, hu => rq_eqAt (k := 0) (fun _ _ _ _ _ h => absurd h (Nat.not_lt_zero _)) ra rb hk hu
  | k + 1, A, _, _, _, _, ra, rb, hk, hu => rq_eqAt (k := k + 1) (fun xs ys A vs ws h => rqs_eqAt (rq_eqK k) xs ys A vs ws (Nat.le_of_lt_succ h)) ra rb hk hu
/-- v == u -/
theorem rq_at {v u : Value} {d e : PyData} (ra : Rq s.heap v d) (rb : Rq s.heap u e) (hu : A.units + min d.depth e.depth < cLine) : EqAt A s v u (eqq d e) := rq_eqK d.depth A ra rb (Nat.le_refl _) hu
theorem rq_rc {v u : Value} {d e : PyData} (ra : Rq s.heap v d) (rb : Rq s.heap u e) (hu : A.units + min d.depth e.depth < cLine) : RcAt A s v u (eqq d e) := by
  by_cases hr : (∃ a, v = .ref a) ∧ ∃ b, u = .ref b
  · obtain ⟨⟨a, rfl⟩, b, rfl⟩ := hr
    exact rq_refs (k := d.depth) (fun xs ys A vs ws h => rqs_eqAt (rq_eqK _) xs ys A vs ws (Nat.le_refl _)) ra rb (Nat.le_refl _) hu
  · exact rq_plain ra rb (qroom hu) hr
end
section
variable {prog : Program} {w : World} {A : Around} {E : Value → Shared → Prop} {s : Shared}
/-- each value of some is told by e as its data are -/
theorem rqs_anyL {e : Value → Bool} {d : PyData} (he : ∀ y dy, Rq s.heap y dy → e y = eqq dy d) : ∀ {vs : List Value} {xs : List PyData}, Rqs s.heap vs xs → vs.any e = xs.any fun z => eqq z d
  | _, _, .nil => rfl
  | _, _, .cons r rs => by rw [List.any_cons, List.any_cons, rqs_anyL he rs, he _ _ r]
open Classical in
/-- x in c, a list or a tuple -/
theorem rqs_any {vs : Array Value} {xs : List PyData} (rs : Rqs s.heap vs.toList xs) (d : PyData) : ∃ e : Value → Bool, (∀ y dy, Rq s.heap y dy → e y = eqq dy d) ∧ vs.any e = xs.any fun z => eqq z d := by
  have he : ∀ y dy, Rq s.heap y dy → (fun y => if h : ∃ dy, Rq s.heap y dy then eqq h.choose d else false) y = eqq dy d := fun y dy r => by
    have h : ∃ dy, Rq s.heap y dy := ⟨dy, r⟩
    show (if h : ∃ dy, Rq s.heap y dy then eqq h.choose d else false) = _
    rw [dif_pos h, h.choose_spec.one r]
  exact ⟨_, he, by rw [← Array.any_toList]; exact rqs_anyL he rs⟩
theorem rqs_mem : ∀ {vs : List Value} {xs : List PyData}, Rqs s.heap vs xs → ∀ y ∈ vs, ∃ dy, Rq s.heap y dy ∧ dy.depth ≤ PyData.depthAll xs
  | _, _, .nil, y, h => absurd h (by simp)
  | _, _, .cons r rs, y, h => by
    simp only [PyData.depthAll]
    rcases List.mem_cons.mp h with rfl | h
    · exact ⟨_, r, Nat.le_max_left _ _⟩
    · obtain ⟨dy, q, hd⟩ := rqs_mem rs y h
      exact ⟨dy, q, Nat.le_trans hd (Nat.le_max_right _ _)⟩
theorem rqs_hits {vs : Array Value} {xs : List PyData} {x : Value} {d : PyData} {e : Value → Bool} (rs : Rqs s.heap vs.toList xs) (rx : Rq s.heap x d) (he : ∀ y dy, Rq s.heap y dy → e y = eqq dy d) (hu : A.units + 1 + d.depth < cLine) :
    ∀ y, y ∈ vs → EqAt A.in1 s y x (e y) := fun y hy => by
  obtain ⟨dy, r, hd⟩ := rqs_mem rs y (by simpa using hy)
  rw [he y dy r]
  refine rq_at r rx ?_
  show A.units + 1 + min dy.depth d.depth < cLine
  have := Nat.min_le_right dy.depth d.depth
  omega
theorem in_lstQ {l : Addr} {x : Value} {xs : List PyData} {d : PyData} {Q : Value → Shared → Prop} (rc : Rq s.heap (.ref l) (.list xs)) (rx : Rq s.heap x d) (hu : A.units + 1 + d.depth < cLine) (h : Q (.bool (xs.any fun z => eqq z d)) s) :
    wpAny (model prog w) A (compareOp .In x (.ref l)) Q E s := by
  cases rc with
  | lst h1 h2 h3 h4 => obtain ⟨e, h5, h6⟩ := rqs_any h4 d; exact in_listAt e ⟨_, h1, h2, _, h3⟩ (rqs_hits h4 rx h5 hu) (by rw [h6]; exact h)
theorem in_tupQ {l : Addr} {x : Value} {xs : List PyData} {d : PyData} {Q : Value → Shared → Prop} (rc : Rq s.heap (.ref l) (.tuple xs)) (rx : Rq s.heap x d) (hu : A.units + 1 + d.depth < cLine) (h : Q (.bool (xs.any fun z => eqq z d)) s) :
    wpAny (model prog w) A (compareOp .In x (.ref l)) Q E s := by
  cases rc with
  | tup h1 h2 h3 h4 => obtain ⟨e, h5, h6⟩ := rqs_any h4 d; exact in_tupleAt e ⟨_, h1, h2, _, h3⟩ (rqs_hits h4 rx h5 hu) (by rw [h6]; exact h)
theorem nin_lstQ {l : Addr} {x : Value} {xs : List PyData} {d : PyData} {Q : Value → Shared → Prop} (rc : Rq s.heap (.ref l) (.list xs)) (rx : Rq s.heap x d) (hu : A.units + 1 + d.depth < cLine) (h : Q (.bool (!xs.any fun z => eqq z d)) s) :
    wpAny (model prog w) A (compareOp .NotIn x (.ref l)) Q E s := by
  cases rc with
  | lst h1 h2 h3 h4 => obtain ⟨e, h5, h6⟩ := rqs_any h4 d; exact notIn_listAt e ⟨_, h1, h2, _, h3⟩ (rqs_hits h4 rx h5 hu) (by rw [h6]; exact h)
theorem nin_tupQ {l : Addr} {x : Value} {xs : List PyData} {d : PyData} {Q : Value → Shared → Prop} (rc : Rq s.heap (.ref l) (.tuple xs)) (rx : Rq s.heap x d) (hu : A.units + 1 + d.depth < cLine) (h : Q (.bool (!xs.any fun z => eqq z d)) s) :
    wpAny (model prog w) A (compareOp .NotIn x (.ref l)) Q E s := by
  cases rc with
  | tup h1 h2 h3 h4 => obtain ⟨e, h5, h6⟩ := rqs_any h4 d; exact notIn_tupleAt e ⟨_, h1, h2, _, h3⟩ (rqs_hits h4 rx h5 hu) (by rw [h6]; exact h)
end
end Den

/-! ### 112. repr where empty dicts stand -/
namespace Den
open PySem L2
section
variable {prog : Program} {w : World} {h₀ : Heap}
/-- how long what is told of each item may be -/
theorem shown_items_lst {xs : List PyData} (hz : (PyData.shown (.list xs)).length ≤ sizeLine) : ∀ t ∈ PyData.shownAll xs, t.length ≤ sizeLine := fun t ht => by
  rw [PyData.shown] at hz
  exact Nat.le_trans (listText_mem_le ht) hz
theorem shown_items_tup {xs : List PyData} (hz : (PyData.shown (.tuple xs)).length ≤ sizeLine) : ∀ t ∈ PyData.shownAll xs, t.length ≤ sizeLine := fun t ht => by
  rw [PyData.shown] at hz
  exact Nat.le_trans (tupleText_mem_le ht) hz
theorem rq_read {a : Addr} {d : PyData} (r : Rq h₀ (.ref a) d) {n : Nat} (hn : n ≤ d.depth) {bs : List Addr} (hb : ReadAtMost h₀ n bs) : ReadAtMost h₀ d.depth (a :: bs) := by
  obtain ⟨as, q⟩ := r.reads
  exact ReadAtMost.cons q hn hb
theorem rq_out {a : Addr} {d : PyData} (r : Rq h₀ (.ref a) d) {n : Nat} (hn : n < d.depth) {bs : List Addr} (hb : ReadAtMost h₀ n bs) : a ∉ bs := by
  obtain ⟨as, q⟩ := r.reads
  exact not_mem_of_deeper q hn hb
theorem depth_lst (xs : List PyData) : PyData.depth (.list xs) = PyData.depthAll xs + 1 := by rw [PyData.depth]
theorem depth_tup (xs : List PyData) : PyData.depth (.tuple xs) = PyData.depthAll xs + 1 := by rw [PyData.depth]
theorem entriesQ (as : List Addr) (n : Nat) : ReprEntriesK prog w as h₀ n (#[] : Array DictEntry).toList [] := .nil
mutual
theorem Rq.rk : ∀ {v : Value} {d : PyData}, Rq h₀ v d → d.showable = true → d.shown.length ≤ sizeLine → ∃ bs, ReadAtMost h₀ d.depth bs ∧ ReprK prog w bs h₀ d.depth v d.shown
  | _, _, .non, _, _ => ⟨[], nofun, by rw [PyData.shown]; exact .of_is ReprIs.none _ _ _⟩
  | _, _, .bl b, _, _ => ⟨[], nofun, by rw [PyData.shown]; exact .of_is (ReprIs.bool b) _ _ _⟩
  | _, _, .int i t, hs, _ => ⟨[], nofun, by rw [PyData.shown]; exact .of_is (ReprIs.int t (by simpa [PyData.showable] using hs)) _ _ _⟩
  | _, _, .str x t, _, hz => ⟨[], nofun, by rw [PyData.shown] at hz ⊢; exact .of_is (ReprIs.str x t hz) _ _ _⟩
  | _, _, .dct (a := a) (n := n) hl hg, _, _ => by
    refine ⟨[a], rq_read (.dct hl hg) (Nat.le_refl _) nofun, ?_⟩
    have e1 : PyData.depth (.dict []) = 0 + 1 := by simp [PyData.depth, PyData.depthKv]
    have e2 : PyData.shown (.dict []) = dictText [] := by rw [PyData.shown, PyData.shownKv]
    rw [e1, e2]
    exact ReprK.dict hg rfl rfl hl (List.not_mem_nil) (entriesQ _ _)
  | _, _, .lst (a := a) (vs := vs) (xs := xs) g1 g2 g3 g4, hs, hz => by
    obtain ⟨bs, hb, hk⟩ := Rqs.rk g4 (by simpa [PyData.showable] using hs) (shown_items_lst hz)
    have r : Rq h₀ (.ref a) (.list xs) := .lst g1 g2 g3 g4
    refine ⟨a :: bs, rq_read r (by rw [depth_lst]; exact Nat.le_succ _) hb, ?_⟩
    have hno := rq_out r (by rw [depth_lst]; exact Nat.lt_succ_self _) hb
    rw [depth_lst, PyData.shown]
    match vs, g3, g4, hk with
    | ⟨[]⟩, g3, g4, hk =>
      have e : xs = [] := List.eq_nil_of_length_eq_zero (by simpa using g4.len.symm)
      subst e
      rw [PyData.shownAll, listText_nil]
      exact ReprK.listEmpty g1 g2 g3
    | ⟨y :: l⟩, g3, g4, hk => exact ReprK.list g1 g2 g3 hno (by simpa using hk.length_eq) (fun i z e => hk.item i z (by simpa using e))
  | _, _, .tup (a := a) (xs := xs) g1 g2 g3 g4, hs, hz => by
    obtain ⟨bs, hb, hk⟩ := Rqs.rk g4 (by simpa [PyData.showable] using hs) (shown_items_tup hz)
    have r : Rq h₀ (.ref a) (.tuple xs) := .tup g1 g2 g3 g4
    refine ⟨a :: bs, rq_read r (by rw [depth_tup]; exact Nat.le_succ _) hb, ?_⟩
    have hno := rq_out r (by rw [depth_tup]; exact Nat.lt_succ_self _) hb
    rw [depth_tup, PyData.shown]
    exact ReprK.tuple g1 g2 g3 hno hk
theorem Rqs.rk : ∀ {vs : List Value} {ds : List PyData}, Rqs h₀ vs ds → PyData.showableAll ds = true → (∀ t ∈ PyData.shownAll ds, t.length ≤ sizeLine) → ∃ bs, ReadAtMost h₀ (PyData.depthAll ds) bs ∧ ReprAllK prog w bs h₀ (PyData.depthAll ds) vs (PyData.shownAll ds)
  | _, _, .nil, _, _ => ⟨[], nofun, by rw [PyData.shownAll]; exact .nil⟩
  | _, _, .cons (d := d) (ds := ds) r rs, hs, hz => by
    rw [PyData.showableAll, Bool.and_eq_true] at hs
    rw [PyData.shownAll] at hz ⊢
    rw [PyData.depthAll]
    obtain ⟨b1, m1, k1⟩ := Rq.rk r hs.1 (hz _ (List.mem_cons_self ..))
    obtain ⟨b2, m2, k2⟩ := Rqs.rk rs hs.2 (fun t ht => hz t (List.mem_cons_of_mem _ ht))
    exact ⟨b1 ++ b2, (m1.mono (Nat.le_max_left _ _)).append (m2.mono (Nat.le_max_right _ _)),
      .cons ((k1.more fun b hb => List.mem_append_left _ hb).level_le (Nat.le_max_left _ _)) (k2.more_le (fun b hb => List.mem_append_right _ hb) (Nat.le_max_right _ _))⟩
end
/-- repr of an object -/
theorem rq_repr {a : Addr} {d : PyData} {A : Around} {E : Value → Shared → Prop} {s : Shared} {Q : Value → Shared → Prop} (r : Rq s.heap (.ref a) d) (hs : d.showable = true) (hz : d.shown.length ≤ sizeLine) (hg : A.guards = some []) (hu : A.units + (d.depth + 1) < cLine)
    (hQ : ∀ h' u tk, (∀ b o, s.heap.get? b = some o → h'.get? b = some o) → Q (.str d.shown u) { s with heap := h', toks := tk }) : wpAny (model prog w) A (call (.builtin "repr") [.ref a]) Q E s := by
  have hu1 : A.in1.units + d.depth < cLine := by show A.units + 1 + d.depth < cLine; omega
  cases r with
  | dct hl h1 =>
    have e2 : PyData.shown (.dict []) = dictText [] := by rw [PyData.shown, PyData.shownKv]
    have e1 : PyData.depth (.dict []) = 0 + 1 := by simp [PyData.depth, PyData.depthKv]
    rw [e2] at hQ hz
    rw [e1] at hu1
    exact call_repr_slot (by omega) ⟨_, h1, rfl⟩ F.slot_dict_repr (call_dict_reprK (h₀ := s.heap) (as := []) h1 rfl rfl hl List.not_mem_nil (entriesQ _ _) hg (fun b _ => Clear.nil b) hu1 (fun _ _ e => e) (fun h' u tk k => ⟨_, _, rfl, hQ h' u tk k⟩) hz)
  | tup g1 g2 g3 g4 =>
    rename_i o vs n xs
    have r : Rq s.heap (.ref a) (.tuple xs) := .tup g1 g2 g3 g4
    obtain ⟨bs, hb, hk⟩ := Rqs.rk (prog := prog) (w := w) g4 (by simpa [PyData.showable] using hs) (shown_items_tup hz)
    have hno := rq_out r (by rw [depth_tup]; exact Nat.lt_succ_self _) hb
    rw [depth_tup] at hu1
    rw [PyData.shown] at hQ hz
    exact call_repr_slot (by omega) ⟨_, g1, g2⟩ F.slot_tuple_repr (call_tuple_reprK g1 g2 g3 hno hk hg (fun b _ => Clear.nil b) hu1 (fun _ _ e => e) (fun h' u tk k => ⟨_, _, rfl, hQ h' u tk k⟩) hz)
  | lst g1 g2 g3 g4 =>
    rename_i o vs n xs
    have r : Rq s.heap (.ref a) (.list xs) := .lst g1 g2 g3 g4
    obtain ⟨bs, hb, hk⟩ := Rqs.rk (prog := prog) (w := w) g4 (by simpa [PyData.showable] using hs) (shown_items_lst hz)
    have hno := rq_out r (by rw [depth_lst]; exact Nat.lt_succ_self _) hb
    rw [depth_lst] at hu1
    rw [PyData.shown] at hQ hz
    refine call_repr_slot (by omega) ⟨_, g1, g2⟩ F.slot_list_repr.toG ?_
    match vs, g3, g4, hk with
    | ⟨[]⟩, g3, g4, hk =>
      have e : xs = [] := List.eq_nil_of_length_eq_zero (by simpa using g4.len.symm)
      subst e
      rw [PyData.shownAll, listText_nil] at hQ
      exact call_list_repr_empty ⟨_, g1, g2⟩ g1 g3 ⟨_, _, rfl, hQ s.heap _ _ fun _ _ e => e⟩
    | ⟨y :: l⟩, g3, g4, hk => exact call_list_reprK g1 g2 g3 hno (by simpa using hk.length_eq) (fun i z e => hk.item i z (by simpa using e)) hg (fun b _ => Clear.nil b) hu1 (fun _ _ e => e) (fun h' u tk k => ⟨_, _, rfl, hQ h' u tk k⟩) hz
end
end Den

/-! ### 113. plain values in which empty dicts stand: ==, in, repr -/
namespace Den
open PySem L2
/-! data of the hand layer's values, dicts being empty -/
mutual
inductive Dq (K : PySem.W.Frag) (H : Hp) : V → PyData → Prop
  | non : Dq K H .non .none
  | bl (b : Bool) : Dq K H (.bl b) (.bool b)
  | int (i : Int) : Dq K H (.int i) (.int i)
  | str (x : Str) : Dq K H (.str x) (.str x)
  | lst {a : Addr} {vs : List V} {ps : List PyData} : SqL K H a vs → Dqs K H vs ps → Dq K H (.ref a) (.list ps)
  | tup {a : Addr} {vs : List V} {ps : List PyData} : SqT K H a vs → Dqs K H vs ps → Dq K H (.ref a) (.tuple ps)
  | dct {a : Addr} : Rd H a (.dK []) → Dq K H (.ref a) (.dict [])
inductive Dqs (K : PySem.W.Frag) (H : Hp) : List V → List PyData → Prop
  | nil : Dqs K H [] []
  | cons {v : V} {vs : List V} {p : PyData} {ps : List PyData} : Dq K H v p → Dqs K H vs ps → Dqs K H (v :: vs) (p :: ps)
end
section
variable {X : Cx} {pins : List (Addr × Obj)} {σ : St} {H : Hp} {s : Shared}
mutual
theorem Dq.rq (I : Inv X pins σ H s) : ∀ {v : V} {p : PyData} {u : Value}, Dq X.K H v p → RelV v u → Rq s.heap u p
  | _, _, _, .non, r => by cases r; exact .non
  | _, _, _, .bl b, r => by cases r; exact .bl b
  | _, _, _, .int i, r => by obtain ⟨t, rfl⟩ := r; exact .int i t
  | _, _, _, .str x, r => by obtain ⟨t, rfl⟩ := r; exact .str x t
  | _, _, _, .lst h1 h2, r => by
    cases r
    obtain ⟨its, rv, ⟨o, n, g1, g2, _, g3⟩, _⟩ := I.list h1
    exact .lst g1 g2 g3 (Dqs.rq I h2 rv)
  | _, _, _, .tup h1 h2, r => by
    cases r
    obtain ⟨its, rv, ⟨o, g1, g2, n, g3⟩, _⟩ := I.tuple h1
    exact .tup g1 g2 g3 (Dqs.rq I h2 rv)
  | _, _, _, .dct h1, r => by
    cases r
    obtain ⟨_, lo, vs, rk, ⟨cls, dd, data, sl⟩, es, ep, g1, ⟨g2, g3, g4⟩, g5, _, g6, _⟩ := dk_rd I.hok h1
    dsimp only at g2 g3 g4 g5
    subst g2 g3 g4 g5
    cases rk
    have e : es.toList = [] := List.eq_nil_of_length_eq_zero (by simpa using g6.length)
    have e' : es = #[] := by simpa using e
    subst e'
    exact .dct lo g1
theorem Dqs.rq (I : Inv X pins σ H s) : ∀ {vs : List V} {ps : List PyData} {us : List Value}, Dqs X.K H vs ps → Vals vs us → Rqs s.heap us ps
  | _, _, _, .nil, r => by cases r; exact .nil
  | _, _, _, .cons h hs, r => by
    cases r with
    | cons r rs => exact .cons (Dq.rq I h r) (Dqs.rq I hs rs)
end
end
/-- the data of a plain value -/
def toQ (h : List Ob) : Nat → D → Option PyData
  | _, .non => some .none
  | _, .bl b => some (.bool b)
  | _, .int i => some (.int i)
  | _, .str x => some (.str x)
  | n + 1, .tup xs => (xs.mapM (toQ h n)).map .tuple
  | n + 1, .ro xs => (xs.mapM (toQ h n)).map .list
  | n + 1, .ref k => match h[k]? with
    | some (.lst xs) => (xs.mapM (toQ h n)).map .list
    | some (.dct []) => some (.dict [])
    | some (.fdct []) => some (.dict [])
    | _ => none
  | _, _ => none
def qD (S : DS) (d : D) : Option PyData := toQ S.h 20 d
def oEqQ : D → D → DS → Res D := fun x y S => match qD S x, qD S y with
  | some p, some q => if decide (p.depth ≤ 40) && decide (q.depth ≤ 40) then .ok (.bl (eqq p q)) S else .stuck
  | _, _ => .stuck
def inQ : D → D → DS → Option Bool := fun x y S => match y with
  | .tup ys => match qD S x, ys.mapM (qD S) with
    | some p, some ps => if p.depth ≤ 40 then some (ps.any fun z => eqq z p) else none
    | _, _ => none
  | .ro ys => match qD S x, ys.mapM (qD S) with
    | some p, some ps => if p.depth ≤ 40 then some (ps.any fun z => eqq z p) else none
    | _, _ => none
  | .ref n => match S.h[n]? with
    | some (.lst ys) => match qD S x, ys.mapM (qD S) with
      | some p, some ps => if p.depth ≤ 40 then some (ps.any fun z => eqq z p) else none
      | _, _ => none
    | _ => inD x y S
  | _ => inD x y S
def oInQ : D → D → DS → Res D := fun x y S => match inQ x y S with
  | some b => .ok (.bl b) S
  | none => .stuck
def oNotInQ : D → D → DS → Res D := fun x y S => match inQ x y S with
  | some b => .ok (.bl (!b)) S
  | none => .stuck
def cReprQ : List D → DS → Res D := fun ds S => match ds with
  | [d] => match qD S d with
    | some p => if PyData.showable p && decide (p.depth ≤ 40) && decide (p.shown.length ≤ 1000000) then .ok (.str p.shown) S else .stuck
    | none => .stuck
  | _ => .stuck
section
variable {X : Cx} {cm : Str → Value} {W : WX}
theorem toQs_rep {K : PySem.W.Frag} {L : List Addr} {H : Hp} {f : D → Option PyData} (hf : ∀ d v p, Rep K cm L H d v → f d = some p → Dq K H v p) :
    ∀ {ds : List D} {vs : List V} {ps : List PyData}, Reps K cm L H ds vs → ds.mapM f = some ps → Dqs K H vs ps
  | _, _, _, .nil, h => by rw [mapM_nil'] at h; cases h; exact .nil
  | _, _, _, .cons r t, h => by
    obtain ⟨y, q, h1, h2, rfl⟩ := mapM_some h
    exact .cons (hf _ _ _ r h1) (toQs_rep hf t h2)
theorem toQ_rep {K : PySem.W.Frag} {L : List Addr} {H : Hp} {h : List Ob} (a : HAb K cm L H h) : ∀ (n : Nat) (d : D) (v : V) (p : PyData), Rep K cm L H d v → toQ h n d = some p → Dq K H v p := by
  intro n
  induction n with
  | zero =>
    intro d v p r e
    cases r <;> simp [toQ] at e <;> subst e
    · exact .non
    · exact .bl _
    · exact .int _
    · exact .str _
  | succ n ih =>
    intro d v p r e
    cases r with
    | non => simp [toQ] at e; subst e; exact .non
    | bl b => simp [toQ] at e; subst e; exact .bl _
    | int b => simp [toQ] at e; subst e; exact .int _
    | str b => simp [toQ] at e; subst e; exact .str _
    | ty b => simp [toQ] at e
    | cls b => simp [toQ] at e
    | tup hs r =>
      simp only [toQ, Option.map_eq_some_iff] at e
      obtain ⟨ps, e1, rfl⟩ := e
      exact .tup hs (toQs_rep ih r e1)
    | ro hs r =>
      simp only [toQ, Option.map_eq_some_iff] at e
      obtain ⟨ps, e1, rfl⟩ := e
      exact .lst hs.sq (toQs_rep ih r e1)
    | ref hL =>
      simp only [toQ] at e
      split at e
      · rename_i xs hx
        obtain ⟨ps, e1, rfl⟩ := Option.map_eq_some_iff.mp e
        obtain ⟨vs, q, r⟩ := a.obs _ _ _ hx hL
        exact .lst (SqL.of q) (toQs_rep ih r e1)
      · rename_i hx
        cases e
        obtain ⟨vs, q, r⟩ := a.obs _ _ _ hx hL
        cases r
        exact .dct (.inl q)
      · rename_i hx
        cases e
        obtain ⟨o, vs, q, r⟩ := a.obs _ _ _ hx hL
        cases r
        exact .dct (.inr ⟨o, q⟩)
      · cases e
theorem qD_rep {L : List Addr} {H : Hp} {S : DS} {σ : St} {K : PySem.W.Frag} (a : AbS K cm L H S σ) {d : D} {v : V} {p : PyData} (r : Rep K cm L H d v) (e : qD S d = some p) : Dq K H v p := toQ_rep a.hp 20 d v p r e
def rEqQ (K : PySem.W.Frag) : R2 := fun x y H Q => ∃ d e, Dq K H x d ∧ Dq K H y e ∧ d.depth ≤ 40 ∧ Q (.bl (eqq d e)) H
theorem op_eqQ (hu : X.A.units + 64 < cLine) : OpR X (compareOp .Eq) (rEqQ X.K) := by
  intro pins s σ H x y v u Q I rx ry h
  obtain ⟨d, e, hd, he, hp, q⟩ := h
  refine rq_rc (hd.rq I rx) (he.rq I ry) ?_ X.prog X.w _ _ ⟨.bl _, H, I, rfl, q⟩
  have := Nat.min_le_left d.depth e.depth
  omega
theorem ro_eqQ : ROp X cm W (rEqQ X.K) oEqQ := by
  intro L H S σ x y d e Q a r1 r2 q
  unfold oEqQ at q
  split at q
  · rename_i p1 p2 h1 h2
    split at q
    · rename_i h
      obtain ⟨s1, s2⟩ := Bool.and_eq_true_iff.mp h
      exact ⟨_, _, qD_rep a r1 h1, qD_rep a r2 h2, of_decide_eq_true s1, q.give a (.bl _)⟩
    · exact q.elim
  · exact q.elim
/-- what in asks -/
def rInQ (K : PySem.W.Frag) (g : Bool → Bool) : R2 := fun x y H Q => rInA K g x y H Q ∨ ∃ d ds, Dq K H x d ∧ (Dq K H y (.list ds) ∨ Dq K H y (.tuple ds)) ∧ d.depth ≤ 40 ∧ Q (.bl (g (ds.any fun z => eqq z d))) H
theorem op_inQ (hu : X.A.units + 66 < cLine) : OpR X (compareOp .In) (rInQ X.K id) := by
  refine OpR.or (op_inA hu) ?_
  intro pins s σ H x y v u Q I rx ry h
  obtain ⟨d, ds, hd, he, hp, q⟩ := h
  rcases he with he | he
  · cases he with
    | lst h1 h2 =>
      have r := (Dq.lst h1 h2).rq I ry
      cases ry
      exact in_lstQ r (hd.rq I rx) (by omega) ⟨.bl _, H, I, rfl, q⟩
  · cases he with
    | tup h1 h2 =>
      have r := (Dq.tup h1 h2).rq I ry
      cases ry
      exact in_tupQ r (hd.rq I rx) (by omega) ⟨.bl _, H, I, rfl, q⟩
theorem op_notInQ (hu : X.A.units + 66 < cLine) : OpR X (compareOp .NotIn) (rInQ X.K not) := by
  refine OpR.or (op_notInA hu) ?_
  intro pins s σ H x y v u Q I rx ry h
  obtain ⟨d, ds, hd, he, hp, q⟩ := h
  rcases he with he | he
  · cases he with
    | lst h1 h2 =>
      have r := (Dq.lst h1 h2).rq I ry
      cases ry
      exact nin_lstQ r (hd.rq I rx) (by omega) ⟨.bl _, H, I, rfl, q⟩
  · cases he with
    | tup h1 h2 =>
      have r := (Dq.tup h1 h2).rq I ry
      cases ry
      exact nin_tupQ r (hd.rq I rx) (by omega) ⟨.bl _, H, I, rfl, q⟩
theorem inQ_core {K : PySem.W.Frag} {L : List Addr} {H : Hp} {S : DS} {σ : St} {x y : V} {d e : D} (a : AbS K cm L H S σ) (r1 : Rep K cm L H d x) (r2 : Rep K cm L H e y) {b : Bool} (h : inQ d e S = some b) {g : Bool → Bool} {Q : VK} (q : Q (.bl (g b)) H) : rInQ K g x y H Q := by
  unfold inQ at h
  split at h
  · split at h
    · rename_i p ps h1 h2
      split at h
      · rename_i hs
        cases h
        cases r2 with
        | tup ht rr => exact .inr ⟨p, ps, qD_rep a r1 h1, .inr (.tup ht (toQs_rep (fun _ _ _ r e => qD_rep a r e) rr h2)), hs, q⟩
      · cases h
    · cases h
  · split at h
    · rename_i p ps h1 h2
      split at h
      · rename_i hs
        cases h
        cases r2 with
        | ro ht rr => exact .inr ⟨p, ps, qD_rep a r1 h1, .inl (.lst ht.sq (toQs_rep (fun _ _ _ r e => qD_rep a r e) rr h2)), hs, q⟩
      · cases h
    · cases h
  · split at h
    · rename_i hx
      split at h
      · rename_i p ps h1 h2
        split at h
        · rename_i hs
          cases h
          obtain ⟨p1, vs1, rfl, g1, e1, rr⟩ := a.lst r2 hx
          exact .inr ⟨p, ps, qD_rep a r1 h1, .inl (.lst (SqL.of e1) (toQs_rep (fun _ _ _ r e => qD_rep a r e) rr h2)), hs, q⟩
        · cases h
      · cases h
    · exact .inl (in_core a r1 r2 h q)
  · exact .inl (in_core a r1 r2 h q)
theorem ro_inQ : ROp X cm W (rInQ X.K id) oInQ := by
  intro L H S σ x y d e Q a r1 r2 q
  unfold oInQ at q
  split at q
  · rename_i b h
    exact inQ_core a r1 r2 h (q.give a (.bl _))
  · exact q.elim
theorem ro_notInQ : ROp X cm W (rInQ X.K not) oNotInQ := by
  intro L H S σ x y d e Q a r1 r2 q
  unfold oNotInQ at q
  split at q
  · rename_i b h
    exact inQ_core a r1 r2 h (q.give a (.bl _))
  · exact q.elim
/-- repr -/
def rReprQ (K : PySem.W.Frag) : List V → Hp → VK → Prop := fun xs H Q => ∃ v p, xs = [v] ∧ Dq K H v p ∧ PyData.showable p = true ∧ p.depth ≤ 40 ∧ p.shown.length ≤ sizeLine ∧ Q (.str p.shown) H
theorem call_reprQ (hu : X.A.units + 64 < cLine) (hg : X.A.guards = some []) : CallR X (.builtin "repr") (rReprQ X.K) := by
  intro pins s σ H xs us Q I r h
  obtain ⟨v, p, rfl, hd, hs, hdp, hz, q⟩ := h
  obtain ⟨u, rfl, ru⟩ := vals1 r
  have rr := hd.rq I ru
  have big : ∀ a, Rq s.heap (.ref a) p → wpAny (model X.prog X.w) X.A (call (.builtin "repr") [.ref a]) (EP X pins σ Q) X.xe s := fun a rr =>
    rq_repr rr hs hz hg (by omega) (fun h' t tk k => ⟨.str p.shown, H, I.kept k, ⟨_, rfl⟩, q⟩)
  cases rr with
  | non =>
    rw [PyData.shown] at q
    exact PySem.P.repr_of_none ⟨.str _, H, I.tok _, ⟨_, rfl⟩, q⟩
  | bl b =>
    rw [PyData.shown] at q
    exact PySem.P.repr_of_bool ⟨.str _, H, I.tok _, ⟨_, rfl⟩, q⟩
  | int i t =>
    rw [PyData.shown] at q
    exact PySem.P.repr_of_int (by simpa [PyData.showable] using hs) ⟨.str _, H, I.tok _, ⟨_, rfl⟩, q⟩
  | str x t =>
    rw [PyData.shown] at q hz
    exact PySem.P.repr_of_str ⟨.str _, H, I.tok _, ⟨_, rfl⟩, q⟩ hz
  | lst h1 h2 h3 h4 => exact big _ (.lst h1 h2 h3 h4)
  | tup h1 h2 h3 h4 => exact big _ (.tup h1 h2 h3 h4)
  | dct h1 h2 => exact big _ (.dct h1 h2)
theorem co_reprQ : COp X cm W (rReprQ X.K) cReprQ := by
  intro L H S σ xs ds Q a r q
  unfold cReprQ at q
  split at q
  · split at q
    · rename_i p hp
      split at q
      · rename_i h
        rw [Bool.and_eq_true, Bool.and_eq_true] at h
        cases r with
        | cons r0 rn =>
          cases rn
          exact ⟨_, p, rfl, qD_rep a r0 hp, h.1.1, of_decide_eq_true h.1.2, mx_line (of_decide_eq_true h.2), q.give a (.str _)⟩
      · exact q.elim
    · exact q.elim
  · exact q.elim
end
section
variable {X : Cx} {cm : Str → Value} {W : WX} {a b : Expr} {pos : Pos} {fa fb : DE} {k : Nat}
theorem c_eqQ (r : Room k X.A) (ha : PE X a (rdE X.K cm W fa)) (hb : PE X b (rdE X.K cm W fb)) : PE X (.Compare a [.Eq] [b] pos) (rdE X.K cm W (dBin oEqQ fa fb)) := e_cmp (op_eqQ (hu64 r)) ro_eqQ (nomark _) ha hb
theorem t_eqQ (r : Room k X.A) (ha : PE X a (rdE X.K cm W fa)) (hb : PE X b (rdE X.K cm W fb)) : PT X (.Compare a [.Eq] [b] pos) (rdT X.K cm W (tV (dBin oEqQ fa fb))) := t_cmp (op_eqQ (hu64 r)) ro_eqQ (nomark _) ha hb
theorem c_inQ (r : Room k X.A) (ha : PE X a (rdE X.K cm W fa)) (hb : PE X b (rdE X.K cm W fb)) (hm : behindInMarks .In b = false := by rfl) : PE X (.Compare a [.In] [b] pos) (rdE X.K cm W (dBin oInQ fa fb)) := e_cmp (op_inQ (hu66 r)) ro_inQ hm ha hb
theorem t_inQ (r : Room k X.A) (ha : PE X a (rdE X.K cm W fa)) (hb : PE X b (rdE X.K cm W fb)) (hm : behindInMarks .In b = false := by rfl) : PT X (.Compare a [.In] [b] pos) (rdT X.K cm W (tV (dBin oInQ fa fb))) := t_cmp (op_inQ (hu66 r)) ro_inQ hm ha hb
theorem c_ninQ (r : Room k X.A) (ha : PE X a (rdE X.K cm W fa)) (hb : PE X b (rdE X.K cm W fb)) (hm : behindInMarks .NotIn b = false := by rfl) : PE X (.Compare a [.NotIn] [b] pos) (rdE X.K cm W (dBin oNotInQ fa fb)) := e_cmp (op_notInQ (hu66 r)) ro_notInQ hm ha hb
theorem t_ninQ (r : Room k X.A) (ha : PE X a (rdE X.K cm W fa)) (hb : PE X b (rdE X.K cm W fb)) (hm : behindInMarks .NotIn b = false := by rfl) : PT X (.Compare a [.NotIn] [b] pos) (rdT X.K cm W (tV (dBin oNotInQ fa fb))) := t_cmp (op_notInQ (hu66 r)) ro_notInQ hm ha hb
end
end Den

namespace Den
open PySem L2
/-! ### 114. a <= b, a > b, a >= b of alike data -/
def ordOk (p q : PyData) : Bool := PySem.W.alike p q && notNone p && decide (p.depth ≤ 64)
def oCmpA (f : PyData → PyData → Bool) : D → D → DS → Res D := fun x y S => match pyD S x, pyD S y with
  | some p, some q => if ordOk p q then .ok (.bl (f p q)) S else .stuck
  | _, _ => .stuck
def oLeA : D → D → DS → Res D := oCmpA fun p q => !PySem.W.dataLt q p
def oGtA : D → D → DS → Res D := oCmpA fun p q => PySem.W.dataLt q p
def oGeA : D → D → DS → Res D := oCmpA fun p q => !PySem.W.dataLt p q
def rCmpD (K : PySem.W.Frag) (f : PyData → PyData → Bool) : R2 := fun x y H Q => ∃ p q, Dp K H x p ∧ Dp K H y q ∧ ordOk p q = true ∧ Q (.bl (f p q)) H
section
variable {X : Cx} {cm : Str → Value} {W : WX} {a b : Expr} {pos : Pos} {fa fb : DE} {k : Nat}
theorem ordOk_of {p q : PyData} (h : ordOk p q = true) : PySem.W.alike p q = true ∧ p ≠ .none ∧ p.depth ≤ 64 := by
  unfold ordOk at h
  simp only [Bool.and_eq_true, decide_eq_true_eq] at h
  exact ⟨h.1.1, fun z => by rw [z] at h; exact absurd h.1.2 (by decide), h.2⟩
theorem ro_cmpA (f : PyData → PyData → Bool) : ROp X cm W (rCmpD X.K f) (oCmpA f) := by
  intro L H S σ x y d e Q a r1 r2 q
  unfold oCmpA at q
  split at q
  · rename_i p1 p2 h1 h2
    split at q
    · rename_i h
      exact ⟨_, _, pyD_rep a r1 h1, pyD_rep a r2 h2, h, q.give a (.bl _)⟩
    · exact q.elim
  · exact q.elim
theorem op_leA (hu : X.A.units + 64 < cLine) : OpR X (compareOp .LtE) (rCmpD X.K fun p q => !PySem.W.dataLt q p) := by
  intro pins s σ H x y v u Q I rx ry h
  obtain ⟨d, q, hd, he, ok, hq⟩ := h
  obtain ⟨al, nn, dp⟩ := ordOk_of ok
  obtain ⟨as, r1⟩ := Dp.reads I d x v hd rx
  obtain ⟨bs, r2⟩ := Dp.reads I q y u he ry
  have h1 : min d.depth q.depth ≤ d.depth := Nat.min_le_left _ _
  exact PySem.W.le_data r1 r2 al nn (by omega) ⟨.bl _, H, I, rfl, hq⟩
theorem op_gtA (hu : X.A.units + 64 < cLine) : OpR X (compareOp .Gt) (rCmpD X.K fun p q => PySem.W.dataLt q p) := by
  intro pins s σ H x y v u Q I rx ry h
  obtain ⟨d, q, hd, he, ok, hq⟩ := h
  obtain ⟨al, nn, dp⟩ := ordOk_of ok
  obtain ⟨as, r1⟩ := Dp.reads I d x v hd rx
  obtain ⟨bs, r2⟩ := Dp.reads I q y u he ry
  have h1 : min d.depth q.depth ≤ d.depth := Nat.min_le_left _ _
  exact PySem.W.gt_data r1 r2 al nn (by omega) ⟨.bl _, H, I, rfl, hq⟩
theorem op_geA (hu : X.A.units + 64 < cLine) : OpR X (compareOp .GtE) (rCmpD X.K fun p q => !PySem.W.dataLt p q) := by
  intro pins s σ H x y v u Q I rx ry h
  obtain ⟨d, q, hd, he, ok, hq⟩ := h
  obtain ⟨al, nn, dp⟩ := ordOk_of ok
  obtain ⟨as, r1⟩ := Dp.reads I d x v hd rx
  obtain ⟨bs, r2⟩ := Dp.reads I q y u he ry
  have h1 : min d.depth q.depth ≤ d.depth := Nat.min_le_left _ _
  exact PySem.W.ge_data r1 r2 al nn (by omega) ⟨.bl _, H, I, rfl, hq⟩
theorem c_leA (r : Room k X.A) (ha : PE X a (rdE X.K cm W fa)) (hb : PE X b (rdE X.K cm W fb)) : PE X (.Compare a [.LtE] [b] pos) (rdE X.K cm W (dBin oLeA fa fb)) := e_cmp (op_leA (hu64 r)) (ro_cmpA _) (nomark _) ha hb
theorem t_leA (r : Room k X.A) (ha : PE X a (rdE X.K cm W fa)) (hb : PE X b (rdE X.K cm W fb)) : PT X (.Compare a [.LtE] [b] pos) (rdT X.K cm W (tV (dBin oLeA fa fb))) := t_cmp (op_leA (hu64 r)) (ro_cmpA _) (nomark _) ha hb
theorem c_gtA (r : Room k X.A) (ha : PE X a (rdE X.K cm W fa)) (hb : PE X b (rdE X.K cm W fb)) : PE X (.Compare a [.Gt] [b] pos) (rdE X.K cm W (dBin oGtA fa fb)) := e_cmp (op_gtA (hu64 r)) (ro_cmpA _) (nomark _) ha hb
theorem t_gtA (r : Room k X.A) (ha : PE X a (rdE X.K cm W fa)) (hb : PE X b (rdE X.K cm W fb)) : PT X (.Compare a [.Gt] [b] pos) (rdT X.K cm W (tV (dBin oGtA fa fb))) := t_cmp (op_gtA (hu64 r)) (ro_cmpA _) (nomark _) ha hb
theorem c_geA (r : Room k X.A) (ha : PE X a (rdE X.K cm W fa)) (hb : PE X b (rdE X.K cm W fb)) : PE X (.Compare a [.GtE] [b] pos) (rdE X.K cm W (dBin oGeA fa fb)) := e_cmp (op_geA (hu64 r)) (ro_cmpA _) (nomark _) ha hb
theorem t_geA (r : Room k X.A) (ha : PE X a (rdE X.K cm W fa)) (hb : PE X b (rdE X.K cm W fb)) : PT X (.Compare a [.GtE] [b] pos) (rdT X.K cm W (tV (dBin oGeA fa fb))) := t_cmp (op_geA (hu64 r)) (ro_cmpA _) (nomark _) ha hb
end
end Den

/-! ### 115. what a plain value is, dicts being empty -/
namespace Den
open PySem L2
mutual
inductive Vq (h : List Ob) : D → PyData → Prop
  | non : Vq h .non .none
  | bl (b : Bool) : Vq h (.bl b) (.bool b)
  | int (i : Int) : Vq h (.int i) (.int i)
  | str (x : Str) : Vq h (.str x) (.str x)
  | tup {xs : List D} {ps : List PyData} : Vqs h xs ps → Vq h (.tup xs) (.tuple ps)
  | ro {xs : List D} {ps : List PyData} : Vqs h xs ps → Vq h (.ro xs) (.list ps)
  | lst {n : Nat} {xs : List D} {ps : List PyData} : h[n]? = some (.lst xs) → Vqs h xs ps → Vq h (.ref n) (.list ps)
  | dct {n : Nat} : h[n]? = some (.dct []) → Vq h (.ref n) (.dict [])
inductive Vqs (h : List Ob) : List D → List PyData → Prop
  | nil : Vqs h [] []
  | cons {d : D} {ds : List D} {p : PyData} {ps : List PyData} : Vq h d p → Vqs h ds ps → Vqs h (d :: ds) (p :: ps)
end
section
variable {h h' : List Ob}
mutual
theorem Vq.mono (k : Kp0 h h') : ∀ {d : D} {p : PyData}, Vq h d p → Vq h' d p
  | _, _, .non => .non
  | _, _, .bl b => .bl b
  | _, _, .int i => .int i
  | _, _, .str x => .str x
  | _, _, .tup r => .tup (Vqs.mono k r)
  | _, _, .ro r => .ro (Vqs.mono k r)
  | _, _, .lst e r => .lst (k _ _ e) (Vqs.mono k r)
  | _, _, .dct e => .dct (k _ _ e)
theorem Vqs.mono (k : Kp0 h h') : ∀ {ds : List D} {ps : List PyData}, Vqs h ds ps → Vqs h' ds ps
  | _, _, .nil => .nil
  | _, _, .cons r rs => .cons (Vq.mono k r) (Vqs.mono k rs)
end
theorem Vqs.len : ∀ {ds : List D} {ps : List PyData}, Vqs h ds ps → ds.length = ps.length
  | _, _, .nil => rfl
  | _, _, .cons _ rs => congrArg (· + 1) (Vqs.len rs)
theorem Vqs.app : ∀ {ds es : List D} {ps qs : List PyData}, Vqs h ds ps → Vqs h es qs → Vqs h (ds ++ es) (ps ++ qs)
  | _, _, _, _, .nil, q => q
  | _, _, _, _, .cons r rs, q => .cons r (Vqs.app rs q)
theorem Vqs.get : ∀ {ds : List D} {ps : List PyData} {i : Nat} {d : D}, Vqs h ds ps → ds[i]? = some d → ∃ p, ps[i]? = some p ∧ Vq h d p
  | _, _, _, _, .nil, q => by simp at q
  | _, _, 0, _, .cons r _, q => by simp at q; subst q; exact ⟨_, rfl, r⟩
  | _, _, i + 1, _, .cons _ t, q => by
    obtain ⟨v, a, r⟩ := Vqs.get (i := i) t (by simpa using q)
    exact ⟨v, by simpa using a, r⟩
theorem Vqs.take : ∀ (n : Nat) {ds : List D} {ps : List PyData}, Vqs h ds ps → Vqs h (ds.take n) (ps.take n)
  | 0, _, _, _ => .nil
  | n + 1, _, _, .nil => .nil
  | n + 1, _, _, .cons r t => .cons r (Vqs.take n t)
theorem Vqs.drop : ∀ (n : Nat) {ds : List D} {ps : List PyData}, Vqs h ds ps → Vqs h (ds.drop n) (ps.drop n)
  | 0, _, _, q => q
  | n + 1, _, _, .nil => .nil
  | n + 1, _, _, .cons _ t => Vqs.drop n t
theorem Vqs.rev : ∀ {ds : List D} {ps : List PyData}, Vqs h ds ps → Vqs h ds.reverse ps.reverse
  | _, _, .nil => .nil
  | _, _, .cons r t => by rw [List.reverse_cons, List.reverse_cons]; exact (Vqs.rev t).app (.cons r .nil)
theorem Vqs.of_map {α : Type} {enc : α → D} {py : α → PyData} (hv : ∀ x, Vq h (enc x) (py x)) : ∀ l : List α, Vqs h (l.map enc) (l.map py)
  | [] => .nil
  | x :: l => .cons (hv x) (Vqs.of_map hv l)
mutual
theorem Vq.toQ : ∀ {d : D} {p : PyData} (n : Nat), Vq h d p → p.depth ≤ n → toQ h n d = some p
  | _, _, n, .non, _ => by cases n <;> rfl
  | _, _, n, .bl b, _ => by cases n <;> rfl
  | _, _, n, .int i, _ => by cases n <;> rfl
  | _, _, n, .str x, _ => by cases n <;> rfl
  | _, _, 0, .tup r, k => by rw [PyData.depth] at k; omega
  | _, _, 0, .ro r, k => by rw [PyData.depth] at k; omega
  | _, _, 0, .lst _ r, k => by rw [PyData.depth] at k; omega
  | _, _, 0, .dct _, k => by rw [PyData.depth] at k; omega
  | _, _, n + 1, .tup r, k => by rw [PyData.depth] at k; rw [Den.toQ, Vqs.toQ n r (by omega)]; rfl
  | _, _, n + 1, .ro r, k => by rw [PyData.depth] at k; rw [Den.toQ, Vqs.toQ n r (by omega)]; rfl
  | _, _, n + 1, .lst e r, k => by rw [PyData.depth] at k; rw [Den.toQ, e]; dsimp only; rw [Vqs.toQ n r (by omega)]; rfl
  | _, _, n + 1, .dct e, k => by rw [Den.toQ, e]
theorem Vqs.toQ : ∀ {ds : List D} {ps : List PyData} (n : Nat), Vqs h ds ps → PyData.depthAll ps ≤ n → ds.mapM (Den.toQ h n) = some ps
  | _, _, _, .nil, _ => rfl
  | _, _, n, .cons r rs, k => by
    rw [PyData.depthAll] at k
    rw [List.mapM_cons, Vq.toQ n r (by omega), Vqs.toQ n rs (by omega)]
    rfl
end
theorem Vq.qD {d : D} {p : PyData} {S : DS} (r : Vq S.h d p) (k : p.depth ≤ 20) : qD S d = some p := r.toQ 20 k
theorem Vqs.qD {ds : List D} {ps : List PyData} {S : DS} (r : Vqs S.h ds ps) (k : PyData.depthAll ps ≤ 20) : ds.mapM (qD S) = some ps := r.toQ 20 k
end
/-- the type's name -/
def tyP : PyData → String
  | .none => "NoneType"
  | .bool _ => "bool"
  | .int _ => "int"
  | .str _ => "str"
  | .tuple _ => "tuple"
  | .list _ => "list"
  | .dict _ => "dict"
theorem Vq.ty {S : DS} {d : D} {p : PyData} (r : Vq S.h d p) : tyName S d = some (tyP p) := by
  cases r with
  | lst e _ => unfold tyName; simp only [e]; rfl
  | dct e => unfold tyName; simp only [e]; rfl
  | _ => rfl
def isP : PyData → String → Bool
  | .tuple _, "tuple" => true
  | .list _, "list" => true
  | .dict _, "dict" => true
  | .str _, "str" => true
  | .int _, "int" => true
  | .bool _, "int" => true
  | .bool _, "bool" => true
  | _, _ => false
theorem isi_of {S : DS} {d : D} {p : PyData} {t : String} (r : Vq S.h d p) (ht : ["bool", "int", "str", "tuple", "list", "dict"].contains t = true) : cIsi [d, .ty t] S = .ok (.bl (isP p t)) S := by
  unfold cIsi
  dsimp only
  rw [r.ty]
  dsimp only
  have m2 : t ∈ ["bool", "int", "str", "tuple", "list", "dict"] := by simpa using ht
  simp only [List.mem_cons, List.not_mem_nil, or_false] at m2
  cases p <;> rcases m2 with rfl | rfl | rfl | rfl | rfl | rfl <;> rfl
theorem len_of {S : DS} {d : D} {ps : List PyData} (r : Vq S.h d (.tuple ps)) : ∃ xs, d = .tup xs ∧ Vqs S.h xs ps := by
  cases r with
  | tup r => exact ⟨_, rfl, r⟩
/-! data whose repr is short, dicts being empty -/
structure Sq (p : PyData) (n k : Nat) : Prop where
  s : PyData.showable p = true
  d : p.depth ≤ k
  l : p.shown.length ≤ n
  g : Good p.shown
def sqB (p : PyData) (n k : Nat) : Bool := PyData.showable p && decide (p.depth ≤ k) && decide (p.shown.length ≤ n) && goodB p.shown
theorem sq_of {p : PyData} {n k : Nat} (h : sqB p n k = true) : Sq p n k := by
  unfold sqB at h
  simp only [Bool.and_eq_true, decide_eq_true_eq] at h
  exact ⟨h.1.1.1, h.1.1.2, h.1.2, good_of h.2⟩
theorem Sq.le {p : PyData} {n k n' k' : Nat} (a : Sq p n k) (h : n ≤ n') (h2 : k ≤ k') : Sq p n' k' := ⟨a.s, Nat.le_trans a.d h2, Nat.le_trans a.l h, a.g⟩
theorem Sm.q {p : PyData} {n k : Nat} (a : Sm p n k) : Sq p n k := ⟨a.s, a.d, a.l, a.g⟩
theorem sq_mem {ps : List PyData} {n k : Nat} (h : ∀ p ∈ ps, Sq p n k) : (∀ t ∈ ps.map PyData.shown, t.length ≤ n) ∧ ∀ t ∈ ps.map PyData.shown, Good t :=
  ⟨fun t ht => by obtain ⟨p, hp, rfl⟩ := List.mem_map.mp ht; exact (h p hp).l, fun t ht => by obtain ⟨p, hp, rfl⟩ := List.mem_map.mp ht; exact (h p hp).g⟩
theorem sq_list {ps : List PyData} {n k : Nat} (h : ∀ p ∈ ps, Sq p n k) : Sq (.list ps) (ps.length * (n + 2) + 2) (k + 1) := by
  obtain ⟨h1, h2⟩ := sq_mem h
  have e : PyData.shown (.list ps) = PySem.textFrom 0 "[" (ps.map PyData.shown) ++ "]" := by
    unfold PyData.shown
    rw [shownAll_map]; rfl
  obtain ⟨t1, t2⟩ := textFrom_le (ps.map PyData.shown) 0 "["
  refine ⟨?_, ?_, ?_, ?_⟩
  · unfold PyData.showable; exact showableAll_of fun p hp => (h p hp).s
  · unfold PyData.depth
    have := depthAll_of fun p hp => (h p hp).d
    omega
  · rw [e, len_app, show (("]" : String) : Str).length = 1 by decide +kernel]
    have l1 := lenS_le h1
    rw [List.length_map] at l1 t1
    rw [show (("[" : String) : Str).length = 1 by decide +kernel] at t1
    rw [Nat.mul_add]
    omega
  · rw [e]
    exact (t2 (good_of (by decide +kernel)) h2).app (good_of (by decide +kernel))
theorem sq_tup {ps : List PyData} {n k : Nat} (h : ∀ p ∈ ps, Sq p n k) : Sq (.tuple ps) (ps.length * (n + 2) + 3) (k + 1) := by
  obtain ⟨h1, h2⟩ := sq_mem h
  have e : PyData.shown (.tuple ps) = ("(" : Str) ++ Str.join ", " (ps.map PyData.shown) ++ (if (ps.map PyData.shown).length == 1 then ",)" else ")" : String) := by
    unfold PyData.shown
    rw [shownAll_map]; rfl
  refine ⟨?_, ?_, ?_, ?_⟩
  · unfold PyData.showable; exact showableAll_of fun p hp => (h p hp).s
  · unfold PyData.depth
    have := depthAll_of fun p hp => (h p hp).d
    omega
  · rw [e, len_app, len_app, show (("(" : String) : Str).length = 1 by decide +kernel]
    have l1 := lenS_le h1
    have l2 := join_len ", " (ps.map PyData.shown)
    rw [List.length_map] at l1 l2
    rw [show ((", " : String) : Str).length = 2 by decide +kernel] at l2
    rw [Nat.mul_add]
    have l3 : ((if (ps.map PyData.shown).length == 1 then ",)" else ")" : String) : Str).length ≤ 2 := by split <;> decide +kernel
    omega
  · rw [e]
    refine ((good_of (by decide +kernel)).app (good_join (good_of (by decide +kernel)) h2)).app ?_
    split <;> exact good_of (by decide +kernel)
theorem sq_int {i : Int} {n : Nat} (h1 : i.natAbs.log2 < 1920) (hl : (toString i : Str).length ≤ n) (hg : Good (toString i)) : Sq (.int i) n 0 :=
  ⟨by simpa [PyData.showable] using h1, by simp [PyData.depth], by rw [PyData.shown]; exact hl, by rw [PyData.shown]; exact hg⟩
theorem Sq.repr {S : DS} {d : D} {p : PyData} {n k : Nat} (a : Sq p n k) (hn : n ≤ 1000000) (hk : k ≤ 20) (r : Vq S.h d p) : cReprQ [d] S = .ok (.str p.shown) S := by
  unfold cReprQ
  dsimp only
  rw [r.qD (Nat.le_trans a.d hk)]
  dsimp only
  rw [a.s, decide_eq_true (Nat.le_trans a.d (by omega : k ≤ 40)), decide_eq_true (Nat.le_trans a.l hn)]
  rfl
theorem Sq.ne {S : DS} {p : PyData} {n k : Nat} (a : Sq p n k) : oNe (.str p.shown) (.str p.shown) S = .ok (.bl false) S := by
  rw [ne_str a.g.shaped a.g.shaped]; simp
theorem eqQ_of {S : DS} {d e : D} {p q : PyData} (r : Vq S.h d p) (t : Vq S.h e q) (hp : p.depth ≤ 20) (hq : q.depth ≤ 20) : oEqQ d e S = .ok (.bl (eqq p q)) S := by
  unfold oEqQ
  rw [r.qD hp, t.qD hq]
  dsimp only
  rw [decide_eq_true (by omega : p.depth ≤ 40), decide_eq_true (by omega : q.depth ≤ 40)]
  rfl
theorem inT_of {S : DS} {d : D} {xs : List D} {p : PyData} {ps : List PyData} (r : Vq S.h d p) (t : Vqs S.h xs ps) (hp : p.depth ≤ 20) (hq : PyData.depthAll ps ≤ 20) : oInQ d (.tup xs) S = .ok (.bl (ps.any fun z => eqq z p)) S ∧ oNotInQ d (.tup xs) S = .ok (.bl (!ps.any fun z => eqq z p)) S := by
  have e : inQ d (.tup xs) S = some (ps.any fun z => eqq z p) := by
    unfold inQ
    dsimp only
    rw [r.qD hp, t.qD hq]
    dsimp only
    rw [if_pos (by omega)]
  unfold oInQ oNotInQ
  rw [e]
  exact ⟨rfl, rfl⟩
/-- the depth of a value among others -/
theorem depth_mem {p : PyData} : ∀ {ps : List PyData}, p ∈ ps → p.depth ≤ PyData.depthAll ps
  | q :: ps, h => by
    rw [PyData.depthAll]
    rcases List.mem_cons.mp h with rfl | h
    · omega
    · have := depth_mem h; omega
end Den
namespace Den
open PySem L2
theorem runB_o {n : Nat} {b : DSt} {ds : List D} {h h' : List Ob} {d : D} (e : Ok (b ⟨ds.map some ++ List.replicate (n - ds.length) none, h⟩) fun f S => f = .ret d ∧ S.h = h') : runB n b ds h = .ok d ⟨[], h'⟩ := by
  obtain ⟨f, S, e1, rfl, rfl⟩ := e.ex
  exact runB_ret e1
end Den
namespace Den
open PySem L2
theorem Vq.tyL {h : List Ob} {d : D} {p : PyData} (r : Vq h d p) (l : List (Option D)) : tyName ⟨l, h⟩ d = some (tyP p) := Vq.ty (S := ⟨l, h⟩) r
theorem ia_int (p : PyData) : isaB (tyP p) "int" = some (isP p "int") := by cases p <;> rfl
theorem ia_bool (p : PyData) : isaB (tyP p) "bool" = some (isP p "bool") := by cases p <;> rfl
theorem ia_str (p : PyData) : isaB (tyP p) "str" = some (isP p "str") := by cases p <;> rfl
theorem ia_tuple (p : PyData) : isaB (tyP p) "tuple" = some (isP p "tuple") := by cases p <;> rfl
theorem ia_list (p : PyData) : isaB (tyP p) "list" = some (isP p "list") := by cases p <;> rfl
theorem ia_dict (p : PyData) : isaB (tyP p) "dict" = some (isP p "dict") := by cases p <;> rfl
end Den

/-! ### 116. values beside two objects that change -/
namespace Den
open PySem L2
mutual
inductive Vz (n m : Nat) (h : List Ob) : D → PyData → Prop
  | non : Vz n m h .non .none
  | bl (b : Bool) : Vz n m h (.bl b) (.bool b)
  | int (i : Int) : Vz n m h (.int i) (.int i)
  | str (x : Str) : Vz n m h (.str x) (.str x)
  | tup {xs : List D} {ps : List PyData} : Vzs n m h xs ps → Vz n m h (.tup xs) (.tuple ps)
  | lst {k : Nat} {xs : List D} {ps : List PyData} : k ≠ n → k ≠ m → h[k]? = some (.lst xs) → Vzs n m h xs ps → Vz n m h (.ref k) (.list ps)
  | dct {k : Nat} : k ≠ n → k ≠ m → h[k]? = some (.dct []) → Vz n m h (.ref k) (.dict [])
inductive Vzs (n m : Nat) (h : List Ob) : List D → List PyData → Prop
  | nil : Vzs n m h [] []
  | cons {d : D} {ds : List D} {p : PyData} {ps : List PyData} : Vz n m h d p → Vzs n m h ds ps → Vzs n m h (d :: ds) (p :: ps)
end
section
variable {n m : Nat} {h h' : List Ob}
mutual
theorem Vz.kp (k : Kp n m h h') : ∀ {d : D} {p : PyData}, Vz n m h d p → Vz n m h' d p
  | _, _, .non => .non
  | _, _, .bl b => .bl b
  | _, _, .int i => .int i
  | _, _, .str x => .str x
  | _, _, .tup r => .tup (Vzs.kp k r)
  | _, _, .lst a b e r => .lst a b (k _ _ a b e) (Vzs.kp k r)
  | _, _, .dct a b e => .dct a b (k _ _ a b e)
theorem Vzs.kp (k : Kp n m h h') : ∀ {ds : List D} {ps : List PyData}, Vzs n m h ds ps → Vzs n m h' ds ps
  | _, _, .nil => .nil
  | _, _, .cons r rs => .cons (Vz.kp k r) (Vzs.kp k rs)
end
theorem Vz.app {d : D} {p : PyData} (t : List Ob) (r : Vz n m h d p) : Vz n m (h ++ t) d p := r.kp ((Kp0.app h t).kp n m)
theorem Vzs.appH {d : List D} {p : List PyData} (t : List Ob) (r : Vzs n m h d p) : Vzs n m (h ++ t) d p := r.kp ((Kp0.app h t).kp n m)
mutual
theorem Vz.vq : ∀ {d : D} {p : PyData}, Vz n m h d p → Vq h d p
  | _, _, .non => .non
  | _, _, .bl b => .bl b
  | _, _, .int i => .int i
  | _, _, .str x => .str x
  | _, _, .tup r => .tup (Vzs.vq r)
  | _, _, .lst _ _ e r => .lst e (Vzs.vq r)
  | _, _, .dct _ _ e => .dct e
theorem Vzs.vq : ∀ {ds : List D} {ps : List PyData}, Vzs n m h ds ps → Vqs h ds ps
  | _, _, .nil => .nil
  | _, _, .cons r rs => .cons (Vz.vq r) (Vzs.vq rs)
end
theorem Vzs.len : ∀ {ds : List D} {ps : List PyData}, Vzs n m h ds ps → ds.length = ps.length
  | _, _, .nil => rfl
  | _, _, .cons _ rs => congrArg (· + 1) (Vzs.len rs)
theorem Vzs.app : ∀ {ds es : List D} {ps qs : List PyData}, Vzs n m h ds ps → Vzs n m h es qs → Vzs n m h (ds ++ es) (ps ++ qs)
  | _, _, _, _, .nil, q => q
  | _, _, _, _, .cons r rs, q => .cons r (Vzs.app rs q)
theorem Vzs.take : ∀ (k : Nat) {ds : List D} {ps : List PyData}, Vzs n m h ds ps → Vzs n m h (ds.take k) (ps.take k)
  | 0, _, _, _ => .nil
  | k + 1, _, _, .nil => .nil
  | k + 1, _, _, .cons r t => .cons r (Vzs.take k t)
theorem Vzs.drop : ∀ (k : Nat) {ds : List D} {ps : List PyData}, Vzs n m h ds ps → Vzs n m h (ds.drop k) (ps.drop k)
  | 0, _, _, q => q
  | k + 1, _, _, .nil => .nil
  | k + 1, _, _, .cons _ t => Vzs.drop k t
theorem Vzs.rev : ∀ {ds : List D} {ps : List PyData}, Vzs n m h ds ps → Vzs n m h ds.reverse ps.reverse
  | _, _, .nil => .nil
  | _, _, .cons r t => by rw [List.reverse_cons, List.reverse_cons]; exact (Vzs.rev t).app (.cons r .nil)
theorem Vzs.cut {ds : List D} {ps : List PyData} (lo hi : Option Int) (r : Vzs n m h ds ps) : Vzs n m h (cutD ds lo hi) ((ps.drop (HT.sIx ps.length 0 lo)).take (HT.sIx ps.length ps.length hi - HT.sIx ps.length 0 lo)) := by
  unfold cutD
  rw [r.len]
  exact (r.drop _).take _
theorem Vzs.mem {P : PyData → Prop} : ∀ {ds : List D} {ps : List PyData}, Vzs n m h ds ps → (∀ p ∈ ps, P p) → ∀ d ∈ ds, ∃ p, Vz n m h d p ∧ P p
  | _, _, .nil, _, _, hd => by simp at hd
  | _, _, .cons r rs, hp, d, hd => by
    rcases List.mem_cons.mp hd with rfl | hd
    · exact ⟨_, r, hp _ (by simp)⟩
    · exact Vzs.mem rs (fun p h => hp p (List.mem_cons_of_mem _ h)) d hd
theorem Vzs.of {P : PyData → Prop} : ∀ {ds : List D}, (∀ d ∈ ds, ∃ p, Vz n m h d p ∧ P p) → ∃ ps, Vzs n m h ds ps ∧ ∀ p ∈ ps, P p
  | [], _ => ⟨[], .nil, by simp⟩
  | d :: ds, hd => by
    obtain ⟨p, r, hp⟩ := hd d (by simp)
    obtain ⟨ps, rs, hps⟩ := Vzs.of (ds := ds) fun e he => hd e (List.mem_cons_of_mem _ he)
    exact ⟨p :: ps, .cons r rs, fun q hq => by
      rcases List.mem_cons.mp hq with rfl | hq
      · exact hp
      · exact hps q hq⟩
theorem Vzs.of_map {α : Type} {enc : α → D} {py : α → PyData} (hv : ∀ x, Vz n m h (enc x) (py x)) : ∀ l : List α, Vzs n m h (l.map enc) (l.map py)
  | [] => .nil
  | x :: l => .cons (hv x) (Vzs.of_map hv l)
end
/-- small whole numbers -/
theorem sq_small {i : Int} (h0 : -9 ≤ i) (h1 : i ≤ 99) : Sq (.int i) 2 0 := by
  have : ∀ k : Nat, k < 109 → sqB (.int ((k : Int) - 9)) 2 0 = true := by decide +kernel
  have e : ((i + 9).toNat : Int) - 9 = i := by omega
  have := this (i + 9).toNat (by omega)
  rw [e] at this
  exact sq_of this
end Den
namespace Den
open PySem L2
/-! data without dicts -/
structure Sl (p : PyData) (n k : Nat) : Prop where
  q : Sq p n k
  c : p.canLay0 = true
def slB (p : PyData) (n k : Nat) : Bool := sqB p n k && p.canLay0
theorem sl_of {p : PyData} {n k : Nat} (h : slB p n k = true) : Sl p n k := by
  unfold slB at h
  rw [Bool.and_eq_true] at h
  exact ⟨sq_of h.1, h.2⟩
theorem Sl.le {p : PyData} {n k n' k' : Nat} (a : Sl p n k) (h : n ≤ n') (h2 : k ≤ k') : Sl p n' k' := ⟨a.q.le h h2, a.c⟩
theorem canLays : ∀ {ps : List PyData}, (∀ p ∈ ps, p.canLay0 = true) → PyData.canLayAll0 ps = true
  | [], _ => by simp [PyData.canLayAll0]
  | p :: ps, h => by rw [PyData.canLayAll0, h p (by simp), canLays fun q hq => h q (List.mem_cons_of_mem _ hq)]; rfl
theorem sl_tup {ps : List PyData} {n k : Nat} (h : ∀ p ∈ ps, Sl p n k) : Sl (.tuple ps) (ps.length * (n + 2) + 3) (k + 1) := ⟨sq_tup fun p hp => (h p hp).q, by rw [PyData.canLay0]; exact canLays fun p hp => (h p hp).c⟩
theorem sl_list {ps : List PyData} {n k : Nat} (h : ∀ p ∈ ps, Sl p n k) : Sl (.list ps) (ps.length * (n + 2) + 2) (k + 1) := ⟨sq_list fun p hp => (h p hp).q, by rw [PyData.canLay0]; exact canLays fun p hp => (h p hp).c⟩
theorem sl_small {i : Int} (h0 : -9 ≤ i) (h1 : i ≤ 99) : Sl (.int i) 2 0 := ⟨sq_small h0 h1, by simp [PyData.canLay0]⟩
section
variable {h : List Ob}
mutual
theorem Vq.toPy : ∀ {d : D} {p : PyData} (n : Nat), Vq h d p → p.depth ≤ n → p.canLay0 = true → toPy h n d = some p
  | _, _, n, .non, _, _ => by cases n <;> rfl
  | _, _, n, .bl b, _, _ => by cases n <;> rfl
  | _, _, n, .int i, _, _ => by cases n <;> rfl
  | _, _, n, .str x, _, _ => by cases n <;> rfl
  | _, _, 0, .tup r, k, _ => by rw [PyData.depth] at k; omega
  | _, _, 0, .ro r, k, _ => by rw [PyData.depth] at k; omega
  | _, _, 0, .lst _ r, k, _ => by rw [PyData.depth] at k; omega
  | _, _, n, .dct _, _, c => by rw [PyData.canLay0] at c; cases c
  | _, _, n + 1, .tup r, k, c => by rw [PyData.depth] at k; rw [PyData.canLay0] at c; rw [Den.toPy, Vqs.toPy n r (by omega) c]; rfl
  | _, _, n + 1, .ro r, k, c => by rw [PyData.depth] at k; rw [PyData.canLay0] at c; rw [Den.toPy, Vqs.toPy n r (by omega) c]; rfl
  | _, _, n + 1, .lst e r, k, c => by rw [PyData.depth] at k; rw [PyData.canLay0] at c; rw [Den.toPy, e]; dsimp only; rw [Vqs.toPy n r (by omega) c]; rfl
theorem Vqs.toPy : ∀ {ds : List D} {ps : List PyData} (n : Nat), Vqs h ds ps → PyData.depthAll ps ≤ n → PyData.canLayAll0 ps = true → ds.mapM (Den.toPy h n) = some ps
  | _, _, _, .nil, _, _ => rfl
  | _, _, n, .cons r rs, k, c => by
    rw [PyData.depthAll] at k
    rw [PyData.canLayAll0, Bool.and_eq_true] at c
    rw [List.mapM_cons, Vq.toPy n r (by omega) c.1, Vqs.toPy n rs (by omega) c.2]
    rfl
end
end
theorem Sl.py {S : DS} {d : D} {p : PyData} {n k : Nat} (a : Sl p n k) (hk : k ≤ 20) (r : Vq S.h d p) : pyD S d = some p := r.toPy 20 (Nat.le_trans a.q.d hk) a.c
theorem Sl.shaped {p : PyData} {n k : Nat} (a : Sl p n k) (hk : k ≤ 20) : SeqAt.shaped p = true := by
  unfold SeqAt.shaped
  rw [a.c, decide_eq_true (Nat.le_trans a.q.d (by omega : k ≤ 64))]; rfl
/-- x != () -/
theorem ne_empty {S : DS} {xs : List D} {ps : List PyData} {n k : Nat} (a : Sl (.tuple ps) n k) (hk : k ≤ 20) (r : Vqs S.h xs ps) : oNe (.tup xs) (.tup []) S = .ok (.bl (!xs.isEmpty)) S := by
  unfold oNe
  rw [a.py hk (.tup r), show pyD S (.tup []) = some (.tuple []) from rfl]
  dsimp only
  rw [a.shaped hk, show SeqAt.shaped (.tuple []) = true from rfl]
  cases r with
  | nil => rfl
  | cons r rs => rw [PyData.eqv, PyData.eqvAll]; rfl
end Den
namespace Den
open PySem L2
theorem ok_run {n : Nat} {b : DSt} {ds : List D} {h h' : List Ob} {d : D} {Q : D → DS → Prop} (e : Ok (b ⟨ds.map some ++ List.replicate (n - ds.length) none, h⟩) fun f S => f = .ret d ∧ S.h = h') (q : Q d ⟨[], h'⟩) : Ok (runB n b ds h) Q := by
  rw [runB_o e]; exact q
end Den

/-! ### 117. t[::-1] of a tuple -/
namespace Den
open PySem L2 PyProof.Rows
theorem adj_rev (n : Nat) : Builtin.Slice.sliceAdjust none none (-1) (n : Int) = ((n : Int) - 1, -1) := by
  unfold Builtin.Slice.sliceAdjust
  have h1 : ((-1 : Int) < 0) = True := by simp
  simp only [h1, if_true]
theorem places_rev (n : Nat) : Builtin.Slice.slicePlaces ((n : Int) - 1) (-1) (-1) = n := by
  unfold Builtin.Slice.slicePlaces
  rw [if_neg (by decide)]
  by_cases h : (n : Int) - 1 > -1
  · rw [if_pos h, show (- -1 : Int) = 1 from by decide, Int.ediv_one]; omega
  · rw [if_neg h]; omega
theorem pick_rev (xs : Array Value) : ((List.range xs.size).filterMap fun (k : Nat) => xs[(((xs.size : Int) - 1) + (k : Int) * (-1)).toNat]?).toArray = xs.toList.reverse.toArray := by
  have e : ((List.range xs.size).filterMap fun (k : Nat) => xs[(((xs.size : Int) - 1) + (k : Int) * (-1)).toNat]?) = ((List.range xs.size).map fun k => xs.size - 1 - k).filterMap (xs[·]?) := by
    rw [List.filterMap_map]
    congr 1
    funext k
    have : (((xs.size : Int) - 1) + (k : Int) * (-1)).toNat = xs.size - 1 - k := by omega
    rw [this]; rfl
  rw [e, PySem.W.krv_range, List.filterMap_reverse, PySem.W.krv_all]
section
variable {prog : Program} {w : World} {A : Around} {E : Value → Shared → Prop} {s : Shared}
theorem sliceApplied_rev {sl : Addr} {n : Nat} {u : Tok} {Q : Int × Int × Nat → Shared → Prop} (hs : s.heap.IsSliceOf sl .none .none (.int (-1) u)) (h : Q ((n : Int) - 1, -1, n) s) :
    wpAny (model prog w) A (Builtin.Slice.sliceApplied (.ref sl) (pure (n : Int))) Q E s := by
  obtain ⟨ob, g1, g2, g3⟩ := id hs
  unfold Builtin.Slice.sliceApplied Builtin.Slice.sliceFields
  apply wpAny_bind
  apply wpAny_bind
  apply wpAny_field g1 g3 (x := .none) rfl
  apply wpAny_bind
  apply wpAny_field g1 g3 (x := .none) rfl
  apply wpAny_bind
  apply wpAny_field g1 g3 (x := .int (-1) u) rfl
  apply wpAny_pure
  apply wpAny_bind
  apply slicePart_int
  show wpAny _ _ (if ((-1 : Int) == 0) = true then _ else _) _ _ s
  rw [if_neg (by decide)]
  apply wpAny_bind
  apply slicePart_none
  apply wpAny_bind
  apply slicePart_none
  apply wpAny_bind
  apply wpAny_pure
  show wpAny _ _ (match Builtin.Slice.sliceAdjust none none (-1) (n : Int) with | (lo, hi) => pure (lo, (-1 : Int), Builtin.Slice.slicePlaces lo hi (-1))) _ _ s
  rw [adj_rev]
  show wpAny _ _ (pure ((n : Int) - 1, (-1 : Int), Builtin.Slice.slicePlaces ((n : Int) - 1) (-1) (-1))) _ _ s
  rw [places_rev]
  exact wpAny_pure h
theorem getItem_tuple_rev {t sl : Addr} {items : Array Value} {u : Tok} {Q : Value → Shared → Prop} (ht : IsTup s.heap t items) (hs : s.heap.IsSliceOf sl .none .none (.int (-1) u))
    (h : Q (.ref s.heap.objs.size) { s with heap := s.heap.push { cls := .type "tuple", data := .seq items.toList.reverse.toArray } }) (hz : items.size ≤ sizeLine) : wpAny (model prog w) A (getItem (.ref t) (.ref sl)) Q E s := by
  have hok : sizeOk (.seq items.toList.reverse.toArray) := by
    show items.toList.reverse.toArray.size ≤ sizeLine
    simpa using hz
  obtain ⟨ob, g1, g2, g3⟩ := id hs
  have hTs : s.TypeIs (.ref sl) "slice" := ⟨ob, g1, g2⟩
  unfold getItem
  try with_reducible apply wpAny_holding
  first | refine wpAny_bind (wpAny_pure ?_) | skip
  apply wpAny_bind
  apply wpAny_sequenceKey ht.typeIs (by decide)
  apply wpAny_bind
  apply wpAny_callSpecial?_slot (name := Str.ofString "__getitem__") ht.typeIs slot_tuple_getitem
  refine wpAny_call_entry slot_tuple_getitem ht.typeIs entry_tuple_getitem ?_ (args_tuple_getitem _ _)
  show wpAny _ _ (Builtin.Tuple.tupleItemsOf (.ref t) >>= _) _ _ s
  apply wpAny_bind
  apply tupleItemsOf_ ht
  apply wpAny_bind
  apply wpAny_typeOf hTs
  rw [if_pos (by decide)]
  apply wpAny_bind
  apply sliceApplied_rev hs
  have hno : ¬ ((((items.size : Int) - 1) == 0 && (-1 : Int) == 1 && items.size == items.size) = true) := by simp
  show wpAny _ _ (if (((items.size : Int) - 1) == 0 && (-1 : Int) == 1 && items.size == items.size) = true then _ else _) _ _ s
  rw [if_neg hno, pick_rev]
  first
    | exact wpAny_bind (m := Builtin.Tuple.tupleExact _) (wpAny_newObj_type (wpAny_pure ⟨_, rfl, wpAny_pure h⟩) hok)
    | exact wpAny_bind (m := Builtin.Tuple.tupleExact _) (wpAny_newObj_type (wpAny_bind (wpAny_pure (wpAny_pure ⟨_, rfl, wpAny_pure h⟩))) hok)
    | exact wpAny_bind (wpAny_bind (m := Builtin.Tuple.tupleExact _) (wpAny_newObj_type (wpAny_pure (wpAny_pure ⟨_, rfl, wpAny_pure h⟩)) hok))
    | exact wpAny_bind (wpAny_bind (m := Builtin.Tuple.tupleExact _) (wpAny_newObj_type (wpAny_pure ⟨_, rfl, wpAny_pure h⟩) hok))
end
def tRevT (K : PySem.W.Frag) (te : TE) : TE := fun σ H Q => te σ H fun x H1 => ∃ a xs, x = .ref a ∧ SqT K H1 a xs ∧ ∀ p, H1 p = none → Q (.ref p) (upd H1 p (.tup xs.reverse))
def dRevT (a : DE) : DE := fun S => (a S).bind fun d S1 => match d with
  | .tup xs => .ok (.tup xs.reverse) S1
  | _ => .stuck
@[simp] theorem z_revT (a : DE) (S : DS) : dRevT a S = (a S).bind fun d S1 => match d with
  | .tup xs => .ok (.tup xs.reverse) S1
  | _ => .stuck := rfl
section
variable {X : Cx} {cm : Str → Value} {W : WX} {e : Expr} {fa : DE} {te : TE} {k : Nat} {p1 p2 p3 pos : Pos}
theorem pe_revT (he : PE X e te) : PE X (.Subscript e (.Slice none none (some (.UnaryOp .USub (.Constant (.int 1) k p1) p2)) p3) pos) (tRevT X.K te) := by
  constructor
  intro pins s σ H Q I hh
  apply PyProof.Rows.Subscript_
  apply thn (he.run pins s σ H _ I hh)
  rintro v s1 ⟨x, H1, I1, rx, a, xs, rfl, hx, hq⟩
  have step1 : PO X (some (.UnaryOp .USub (.Constant (.int 1) k p1) p2)) (tPart (tUn (rU fun i => .int (-i)) (tC (.int 1)))) := po_some (pe_un un_neg pe_int)
  apply wpAny_Slice
  apply thn (po_none.run pins s1 σ H1 (fun o G => o = none ∧ G = H1) I1 ⟨rfl, rfl⟩)
  rintro vl s2 ⟨l, H2, I2, pl, rfl, rfl⟩
  apply thn (po_none.run pins s2 σ H2 (fun o G => o = none ∧ G = H2) I2 ⟨rfl, rfl⟩)
  rintro vu s3 ⟨u, H3, I3, pu, rfl, rfl⟩
  apply thn (step1.run pins s3 σ H3 (fun o G => o = some (-1) ∧ G = H3) I3 ⟨1, rfl, -1, rfl, rfl, rfl⟩)
  rintro vs s4 ⟨o, H4, I4, ps, rfl, rfl⟩
  have J : Inv X pins σ H4 { s4 with heap := s4.heap.push { cls := .type "slice", data := .fields #[vl, vu, vs] } } := I4.kept (t' := s4.toks) fun b ob q => Heap.get?_push_of_some _ q
  cases rx
  cases pl
  cases pu
  cases ps
  rename_i tk
  obtain ⟨its, r, ht, hz⟩ := J.tuple hx
  have hn := r.length
  show wpAny (model X.prog X.w) X.A (PyProof.Rows.subscriptTail e (.Slice none none (some (.UnaryOp .USub (.Constant (.int 1) k p1) p2)) p3) (.ref a) (.ref s4.heap.objs.size)) (EP X pins σ Q) X.xe { s4 with heap := s4.heap.push { cls := .type "slice", data := .fields #[.none, .none, .int (-1) tk] } }
  apply PyProof.Rows.tail_any (ops := [.ref a, .ref s4.heap.objs.size]) ht.typeIs PyProof.Rows.slot_tuple_getitem.lookup _ (by with_unfolding_all rfl)
  refine getItem_tuple_rev ht (Heap.IsSliceOf.new _ .none .none (.int (-1) tk)) ?_ (by rw [List.size_toArray]; omega)
  refine ⟨.ref _, _, J.laid (t' := s4.toks) (o := .tup xs.reverse) (fun b ob q => Heap.get?_push_of_some _ q) (Nat.le_refl _) ?_, rfl, hq _ (J.hok.fresh (Nat.le_refl _))⟩
  exact ⟨by rw [List.length_reverse]; exact hz, its.reverse, r.reverse, IsTup.new _ _⟩
theorem e_revT (he : PE X e (rdE X.K cm W fa)) : PE X (.Subscript e (.Slice none none (some (.UnaryOp .USub (.Constant (.int 1) k p1) p2)) p3) pos) (rdE X.K cm W (dRevT fa)) := weakE (pe_revT he) fun σ H Q q => by
  obtain ⟨L, S, a, q⟩ := q
  refine ⟨L, S, a, (Aft.step (R := Rep X.K cm) q).mono fun v H1 z => ?_⟩
  obtain ⟨L1, S1, d, e1, x1, r1, q1⟩ := z
  split at q1
  · cases r1 with
    | tup hs rr => exact ⟨_, _, rfl, hs, fun p hp => q1.giveE (Ext.beside hp) (x1.beside hp) (.tup (.inl (.inl upd_same)) ((reps_rev rr).mono (Ext.beside hp)))⟩
  · exact q1.elim
end
end Den

/-! ### 118. loops that end at the first value that is not as told -/
namespace Den
open PySem L2
/-- the first of some values that is not as told -/
def bad1 (P : PyData → Bool) : Int → List PyData → Option Int
  | _, [] => none
  | k, p :: ps => if P p then bad1 P (k + 1) ps else some k
theorem numD_cons (k : Int) (x : D) (xs : List D) : numD k (x :: xs) = .tup [.int k, x] :: numD (k + 1) xs := by
  unfold numD
  rw [List.mapIdx_cons]
  congr 1
  · simp
  · congr 1
    funext i d
    have : k + ((i + 1 : Nat) : Int) = k + 1 + (i : Nat) := by omega
    rw [this]
def flOf (R : Int → D) : Option Int → Fl
  | none => .next
  | some i => .ret (R i)
theorem enum_bad {g : DG} {b : DSt} {P : PyData → Bool} {R : Int → D} {h : List Ob} (I : DS → Prop) (step : ∀ (i : Int) (d : D) (p : PyData) (S : DS), Vq h d p → I S → ∃ S1, g (.tup [.int i, d]) S = some S1 ∧ ∃ S2, b S1 = .ok (if P p then .next else .ret (R i)) S2 ∧ I S2) :
    ∀ {xs : List D} {ps : List PyData} (k : Int) (S : DS), Vqs h xs ps → I S → ∃ S', forV g b (numD k xs) S = .ok (flOf R (bad1 P k ps)) S' ∧ I S'
  | _, _, k, S, .nil, i => ⟨S, rfl, i⟩
  | _, _, k, S, .cons (p := p) r rs, i => by
    obtain ⟨S1, e1, S2, e2, i2⟩ := step k _ _ S r i
    rw [numD_cons]
    unfold forV
    rw [e1]
    dsimp only
    rw [e2]
    unfold bad1
    cases hp : P p with
    | true =>
      simp only [if_true, Res.bind_ok]
      exact enum_bad I step (k + 1) S2 rs i2
    | false =>
      simp only [Bool.false_eq_true, if_false, Res.bind_ok]
      exact ⟨S2, rfl, i2⟩
/-- for x in xs: if not P x: return R -/
theorem each_bad {g : DG} {b : DSt} {P : PyData → Bool} {R : D} {h : List Ob} (I : DS → Prop) (step : ∀ (d : D) (p : PyData) (S : DS), Vq h d p → I S → ∃ S1, g d S = some S1 ∧ ∃ S2, b S1 = .ok (if P p then .next else .ret R) S2 ∧ I S2) :
    ∀ {xs : List D} {ps : List PyData} (S : DS), Vqs h xs ps → I S → ∃ S', forV g b xs S = .ok (if ps.all P then .next else .ret R) S' ∧ I S'
  | _, _, S, .nil, i => ⟨S, rfl, i⟩
  | _, _, S, .cons (p := p) r rs, i => by
    obtain ⟨S1, e1, S2, e2, i2⟩ := step _ _ S r i
    unfold forV
    rw [e1]
    dsimp only
    rw [e2, List.all_cons]
    cases hp : P p with
    | true =>
      simp only [if_true, Res.bind_ok, Bool.true_and]
      exact each_bad I step S2 rs i2
    | false =>
      simp only [Bool.false_eq_true, if_false, Res.bind_ok, Bool.false_and]
      exact ⟨S2, rfl, i2⟩
theorem Vqs.zips {h : List Ob} {xs : List D} {ps : List PyData} (r : Vqs h xs ps) : (xs.zip ps).map Prod.fst = xs ∧ (xs.zip ps).map Prod.snd = ps ∧ ∀ e ∈ xs.zip ps, Vq h e.1 e.2 := by
  refine ⟨?_, ?_, fun e he => ?_⟩
  · rw [List.map_fst_zip]; exact Nat.le_of_eq r.len
  · rw [List.map_snd_zip]; exact Nat.le_of_eq r.len.symm
  · obtain ⟨i, hi, ei⟩ := List.getElem_of_mem he
    have hx : xs[i]? = some e.1 := by
      rw [← ei, List.getElem_zip, List.getElem?_eq_getElem]
    have hp : ps[i]? = some e.2 := by
      rw [← ei, List.getElem_zip, List.getElem?_eq_getElem]
    obtain ⟨p, hp', rv⟩ := r.get hx
    rw [hp] at hp'
    cases hp'
    exact rv
/-- [e for x in xs], xs being values -/
theorem comp_vq {β : Type} {enc' : β → D} (f : PyData → β) {xs : List D} {ps : List PyData} {vs : List Nat} {it : DS → Res Iter0} {g : DG} {e : DE} {S S1 : DS} (r : Vqs S1.h xs ps) (hi : it S = .ok (.vals xs) S1) (hl : ps.length < 100000)
    (hp : ∀ d p, d ∈ xs → p ∈ ps → Vq S1.h d p → ∃ S0, g d ⟨wipeD S1.loc vs, S1.h⟩ = some S0 ∧ ∃ S3, e S0 = .ok (enc' (f p)) S3 ∧ S3.h = S1.h) : dComp vs it g tTrue e S = .ok (.ref S1.h.length) ⟨S1.loc, S1.h ++ [.lst ((ps.map f).map enc')]⟩ := by
  obtain ⟨z1, z2, z3⟩ := r.zips
  have q := comp_m (vs := vs) (it := it) (g := g) (e := e) (S := S) (S1 := S1) (I := .vals xs) (enc := Prod.fst) (enc' := enc') (fun e : D × PyData => f e.2) (l := xs.zip ps) hi z1.symm (by rw [List.length_zip]; have := r.len; omega) (fun e he => hp e.1 e.2 (List.of_mem_zip he).1 (List.of_mem_zip he).2 (z3 e he))
  rw [q]
  have : (xs.zip ps).map (fun e : D × PyData => f e.2) = ps.map f := by
    conv => rhs; rw [← z2, List.map_map]
    rfl
  rw [this]
/-- [x for x in xs if P x] -/
theorem comp_vqf (P : PyData → Bool) {xs : List D} {ps : List PyData} {vs : List Nat} {it : DS → Res Iter0} {g : DG} {t : DT} {e : DE} {enc' : D × PyData → D} {S S1 : DS} (r : Vqs S1.h xs ps) (hi : it S = .ok (.vals xs) S1) (hl : ps.length < 100000)
    (hp : ∀ d p, d ∈ xs → p ∈ ps → Vq S1.h d p → ∃ S0, g d ⟨wipeD S1.loc vs, S1.h⟩ = some S0 ∧ ∃ S2, t S0 = .ok (P p) S2 ∧ S2.h = S1.h ∧ (P p = true → ∃ S3, e S2 = .ok (enc' (d, p)) S3 ∧ S3.h = S1.h)) : dComp vs it g t e S = .ok (.ref S1.h.length) ⟨S1.loc, S1.h ++ [.lst (((xs.zip ps).filter fun e => P e.2).map enc')]⟩ := by
  obtain ⟨z1, z2, z3⟩ := r.zips
  exact comp_f (vs := vs) (it := it) (g := g) (e := e) (S := S) (S1 := S1) (I := .vals xs) (enc := Prod.fst) (enc' := enc') (fun e : D × PyData => P e.2) (l := xs.zip ps) hi z1.symm (by rw [List.length_zip]; have := r.len; omega) (fun e he => hp e.1 e.2 (List.of_mem_zip he).1 (List.of_mem_zip he).2 (z3 e he))
theorem enum_badQ {g : DG} {b : DSt} {P : PyData → Bool} {R : Int → D} {h : List Ob} (Q : PyData → Prop) (I : DS → Prop) (step : ∀ (i : Int) (d : D) (p : PyData) (S : DS), Q p → Vq h d p → I S → ∃ S1, g (.tup [.int i, d]) S = some S1 ∧ ∃ S2, b S1 = .ok (if P p then .next else .ret (R i)) S2 ∧ I S2) :
    ∀ {xs : List D} {ps : List PyData} (k : Int) (S : DS), Vqs h xs ps → (∀ p ∈ ps, Q p) → I S → ∃ S', forV g b (numD k xs) S = .ok (flOf R (bad1 P k ps)) S' ∧ I S'
  | _, _, k, S, .nil, _, i => ⟨S, rfl, i⟩
  | _, _, k, S, .cons (p := p) r rs, hq, i => by
    obtain ⟨S1, e1, S2, e2, i2⟩ := step k _ _ S (hq _ (by simp)) r i
    rw [numD_cons]
    unfold forV
    rw [e1]
    dsimp only
    rw [e2]
    unfold bad1
    cases hp : P p with
    | true =>
      simp only [if_true, Res.bind_ok]
      exact enum_badQ Q I step (k + 1) S2 rs (fun p hp => hq p (List.mem_cons_of_mem _ hp)) i2
    | false =>
      simp only [Bool.false_eq_true, if_false, Res.bind_ok]
      exact ⟨S2, rfl, i2⟩
end Den

/-! ### 119. comprehensions whose turns draw -/
namespace Den
open PySem L2
theorem comp_eV {α β : Type} {enc : α → D} {enc' : β → D} {l : List α} {vs : List Nat} {it : DS → Res Iter0} {g : DG} {e : DE} {S S1 : DS} {xs : List D} (P : List Ob → Prop) (hi : it S = .ok (.vals xs) S1) (hx : xs = l.map enc) (hl : l.length < 100000) (j0 : P S1.h)
    (p : ∀ d ∈ l, ∀ h, P h → ∃ S0, g (enc d) ⟨wipeD S1.loc vs, h⟩ = some S0 ∧ Ok (e S0) fun y S3 => (∃ z, y = enc' z) ∧ P S3.h) :
    ∃ (a : List β) (h2 : List Ob), dComp vs it g tTrue e S = .ok (.ref h2.length) ⟨S1.loc, h2 ++ [.lst (a.map enc')]⟩ ∧ P h2 ∧ a.length = l.length := by
  subst hx
  have go : ∀ (zs : List α) (acc : List D) (h : List Ob), (∀ z ∈ zs, z ∈ l) → acc.length + zs.length ≤ 1000000 → P h → ∃ (h2 : List Ob) (a2 : List β), compV g tTrue e (wipeD S1.loc vs) (zs.map enc) acc h = .ok (acc ++ a2.map enc') ⟨wipeD S1.loc vs, h2⟩ ∧ P h2 ∧ a2.length = zs.length := by
    intro zs
    induction zs with
    | nil => exact fun acc h _ _ j => ⟨h, [], by simp [compV], j, rfl⟩
    | cons z zs ih =>
      intro acc h hz l j
      simp only [List.length_cons] at l
      obtain ⟨S0, h1, h3⟩ := p z (hz z (by simp)) h j
      obtain ⟨y, S3, e2, ⟨y', rfl⟩, j3⟩ := h3.ex
      rw [List.map_cons]
      unfold compV
      rw [h1]
      dsimp only
      unfold compT
      rw [z_tTrue, Res.only_ok, if_pos rfl, e2, Res.only_ok, mxL_eq, if_pos (by omega), Res.only_ok]
      obtain ⟨h5, a3, e3, j4, s3⟩ := ih (acc ++ [enc' y']) S3.h (fun w hw => hz w (by simp [hw])) (by simp; omega) j3
      exact ⟨h5, y' :: a3, by rw [e3]; simp, j4, by simp [s3]⟩
  obtain ⟨h2, a2, e2, j, s⟩ := go l [] S1.h (fun _ h => h) (by simp; omega) j0
  refine ⟨a2, h2, ?_, j, s⟩
  unfold dComp
  rw [hi, Res.bind_ok]
  dsimp only
  rw [e2]
  simp [newO]
theorem forV_go {β : Type} {g : DG} {b : DSt} {enc : β → D} {whole : List β} (I : Nat → DS → Prop) (step : ∀ i x S, whole[i]? = some x → I i S → ∃ S1, g (enc x) S = some S1 ∧ Ok (b S1) fun f S2 => (f = .next ∨ f = .cont) ∧ I (i + 1) S2) :
    ∀ (xs : List β) (i : Nat) (S : DS), i ≤ whole.length → whole.drop i = xs → I i S → ∃ S', forV g b (xs.map enc) S = .ok .next S' ∧ I whole.length S'
  | [], i, S, hi, h, ii => by
    have h1 : whole.length ≤ i := List.drop_eq_nil_iff.mp h
    have e : i = whole.length := by omega
    subst e; exact ⟨S, rfl, ii⟩
  | x :: xs, i, S, hi, h, ii => by
    have hx : whole[i]? = some x := by
      have := congrArg (fun l => l[0]?) h
      simpa using this
    obtain ⟨S1, e1, o⟩ := step i x S hx ii
    obtain ⟨f, S2, e2, hf, i2⟩ := o.ex
    have h2 : whole.drop (i + 1) = xs := by
      rw [← List.tail_drop, h]; rfl
    obtain ⟨S', e3, i3⟩ := forV_go I step xs (i + 1) S2 (by have := (List.getElem?_eq_some_iff.mp hx).1; omega) h2 i2
    refine ⟨S', ?_, i3⟩
    rw [List.map_cons]
    unfold forV
    rw [e1]
    dsimp only
    rw [e2]
    rcases hf with rfl | rfl <;> exact e3
end Den

namespace Fg
open PySem L2 PySem.Spec PyProof.Rows Den
/-! ### the decks of the first ten laws -/
def p_law_draw : DSt := (sSeq (sIf (tV (dBin oLt (dVar 1) (dC (.int 2)))) (sRet (dC (.int 0))) sNop)
  (sSeq (sIf (tV (dBin oNe (dBin oIx (dVar 0) (dC (.str "deep"))) (dLst dNil))) (sSeq (sAsg (dMtL mPop (dBin oIx (dVar 0) (dC (.str "deep"))) dNil) (gN 4))
  (sSeq (sIf (tV (dBin oGe (dVar 4) (dVar 1))) (sExpr (dMtL mAppend (dBin oIx (dVar 0) (dC (.str "deep"))) (dCons (dBin oDiv (dVar 4) (dVar 1)) dNil))) sNop)
  (sRet (dBin oMod (dCB cIntA (dCons (dVar 4) dNil)) (dVar 1))))) sNop)
  (sSeq (sAsg (dBin oMod (dCB cIntA (dCons (dBin oAdd (dBin oMulA (dBin oIx (dVar 0) (dC (.str "state"))) (dC (.int 1181783497276652981))) (dC (.int 88172645463325))) dNil)) (dC (.int 2305843009213693951))) (gN 2))
  (sSeq (sPut (dVar 2) (dVar 0) (dC (.str "state")))
  (sSeq (sAsg (dBin oMod (dCB cIntA (dCons (dBin oAdd (dBin oAdd (dBin oMulA (dVar 2) (dVar 2)) (dBin oMulA (dC (.int 374761393)) (dVar 2))) (dC (.int 11))) dNil)) (dC (.int 2305843009213693921))) (gN 3))
  (sRet (dBin oMod (dCB cIntA (dCons (dBin oDiv (dVar 3) (dC (.int 1048576))) dNil)) (dVar 1))))))))
def F_law_draw : Fn := runB 5 p_law_draw
def p_law_pick : DSt := (sRet (dBin oIx (dVar 1) (dCall F_law_draw (dCons (dVar 0) (dCons (dCB cLen (dCons (dVar 1) dNil)) dNil)))))
def F_law_pick : Fn := runB 2 p_law_pick
def p_deck (c : Int) : DSt := (sSeq (sAsg (dDict [((dC (.str "deep")), (dLst dNil)), ((dC (.str "state")), (dBin oAdd (dC (.int c)) (dCB cLen (dCons (dSl (dVar 0) dPN (dPS (dC (.int 63)))) dNil))))]) (gN 1))
  (sSeq (sFor (dIter (dSl (dVar 0) dPN (dPS (dC (.int 63))))) (gN 2)
  (sSeq (sAsg (dCB cAbs (dCons (dVar 2) dNil)) (gN 3))
  (sSeq (sIf (tV (dBin oGe (dVar 3) (dBin oPow (dC (.int 10)) (dC (.int 18))))) (sPut (dBin oAdd (dLst (dCons (dVar 3) dNil)) (dBin oIx (dVar 1) (dC (.str "deep")))) (dVar 1) (dC (.str "deep"))) sNop)
  (sSeq (sAsg (dBin oAdd (dBin oMulA (dBin oAdd (dBin oAdd (dBin oAdd (dBin oIx (dVar 1) (dC (.str "state"))) (dBin oMulA (dC (.int 2)) (dVar 3))) (dCB cIntA (dCons (dBin oLt (dVar 2) (dC (.int 0))) dNil))) (dC (.int 1))) (dC (.int 1181783497276652981))) (dC (.int 521288629))) (gN 4))
  (sPut (dBin oMod (dCB cIntA (dCons (dVar 4) dNil)) (dC (.int 2305843009213693951))) (dVar 1) (dC (.str "state")))))))
  (sRet (dVar 1))))
end Fg

namespace Fg
open PySem L2 PySem.Spec PyProof.Rows Den
/-! ### F. what the plain functions do -/
structure Deck (h : List Ob) (n m : Nat) : Prop where
  ne : n ≠ m
  ex : ∃ (s : Int) (xs : List Int), h[n]? = some (.dct [(.inr "deep", .ref m), (.inr "state", .int s)]) ∧ h[m]? = some (.lst (xs.map .int)) ∧ 0 ≤ s ∧ s < 2305843009213693951 ∧ (∀ x ∈ xs, 0 ≤ x) ∧ xs.length ≤ 63
theorem k_ds : (decide ((Sum.inr (Str.ofString "deep") : Key) = Sum.inr (Str.ofString "state"))) = false := by decide +kernel
theorem k_sd : (decide ((Sum.inr (Str.ofString "state") : Key) = Sum.inr (Str.ofString "deep"))) = false := by decide +kernel
theorem val_deep {m : Nat} {s : Int} : valD [(.inr (Str.ofString "deep"), .ref m), (.inr (Str.ofString "state"), .int s)] (.inr (Str.ofString "deep")) = some (.ref m) := by
  unfold valD; simp [List.find?]
theorem val_state {m : Nat} {s : Int} : valD [(.inr (Str.ofString "deep"), .ref m), (.inr (Str.ofString "state"), .int s)] (.inr (Str.ofString "state")) = some (.int s) := by
  unfold valD
  rw [List.find?_cons, k_ds]
  simp
theorem put_state {m : Nat} {s : Int} {d : D} : putD [(.inr (Str.ofString "deep"), .ref m), (.inr (Str.ofString "state"), .int s)] (.inr (Str.ofString "state")) d = [(.inr (Str.ofString "deep"), .ref m), (.inr (Str.ofString "state"), d)] := by
  unfold putD hasD
  have := of_decide_eq_false k_ds
  simp [this]
theorem put_deep {m : Nat} {s : Int} {d : D} : putD [(.inr (Str.ofString "deep"), .ref m), (.inr (Str.ofString "state"), .int s)] (.inr (Str.ofString "deep")) d = [(.inr (Str.ofString "deep"), d), (.inr (Str.ofString "state"), .int s)] := by
  unfold putD hasD
  have := of_decide_eq_false k_sd
  simp [this]
theorem ne_nil (S : DS) (xs : List Int) {m k : Nat} (hm : S.h[m]? = some (.lst (xs.map .int))) (hk : S.h[k]? = some (.lst [])) : oNe (.ref m) (.ref k) S = .ok (.bl (!xs.isEmpty)) S := by
  have e1 : pyD S (.ref m) = some (.list (xs.map .int)) := by
    show (match S.h[m]? with | some (.lst xs) => (xs.mapM (toPy S.h 19)).map PyData.list | _ => none) = _
    rw [hm]; dsimp only; rw [toPy_ints]; rfl
  have e2 : pyD S (.ref k) = some (.list []) := by
    show (match S.h[k]? with | some (.lst xs) => (xs.mapM (toPy S.h 19)).map PyData.list | _ => none) = _
    rw [hk]; rfl
  unfold oNe
  rw [e1, e2]
  dsimp only
  rw [if_pos (by rw [shaped_ints]; rfl)]
  cases xs <;> rfl
theorem draw_ok {h : List Ob} {n m : Nat} (dk : Deck h n m) {many : Int} (h1 : 1 ≤ many) (h2 : many < 1073741824) : Ok (F_law_draw [.ref n, .int many] h) fun d S => ∃ r, d = .int r ∧ 0 ≤ r ∧ r < many ∧ Deck S.h n m ∧ Kp n m h S.h := by
  have D0 := dk
  obtain ⟨ne, s, xs, hn, hm, s0, s1, x0, xl⟩ := dk
  have ln := lt_of_at hn
  have lm := lt_of_at hm
  apply ok_runB
  by_cases c : many < 2
  · simp [p_law_draw, c]
    exact ⟨h1, D0, Kp.refl _ _ _⟩
  · have hn2 := at_old (t := [.lst []]) hn
    have hm2 := at_old (t := [.lst []]) hm
    have q1 := ne_nil ⟨[some (.ref n), some (.int many), none, none, none], h ++ [.lst []]⟩ xs hm2 (at_new h _)
    rcases List.eq_nil_or_concat xs with hx | ⟨ys, y, hx⟩
    · subst hx
      simp at q1 hm
      simp [p_law_draw, c, hn, hm, q1, hn2, hm2, val_deep, val_state, put_state]
      have o0 : 0 ≤ (s * 1181783497276652981 + 88172645463325) % 2305843009213693951 := Int.emod_nonneg _ (by decide)
      have o1 : (s * 1181783497276652981 + 88172645463325) % 2305843009213693951 < 2305843009213693951 := Int.emod_lt_of_pos _ (by decide)
      generalize (s * 1181783497276652981 + 88172645463325) % 2305843009213693951 = one at o0 o1
      have o2 : -18446744073709551616 < one := by omega
      have o3 : one < 18446744073709551616 := by omega
      have o4 : 0 < many := by omega
      simp [o2, o3, o4]
      refine ⟨Int.emod_nonneg _ (by omega), Int.emod_lt_of_pos _ o4, ⟨ne, one, [], ?_, ?_, o0, o1, by simp, by simp⟩, ?_⟩
      · rw [List.getElem?_set_self (by simp; omega)]
      · rw [List.getElem?_set_ne ne]; exact hm2
      · intro k ob k1 k2 e
        rw [List.getElem?_set_ne (Ne.symm k1)]
        exact at_old e
    · rw [List.concat_eq_append] at hx
      subst hx
      have y0 : 0 ≤ y := x0 y (by simp)
      have o4 : 0 < many := by omega
      have g1 : ((h ++ [Ob.lst []]).set m (Ob.lst (ys.map D.int)))[n]? = some (.dct [(.inr "deep", .ref m), (.inr "state", .int s)]) := by
        rw [List.getElem?_set_ne (Ne.symm ne)]; exact hn2
      have g2 : ((h ++ [Ob.lst []]).set m (Ob.lst (ys.map D.int)))[m]? = some (.lst (ys.map D.int)) := by
        rw [List.getElem?_set_self (by simp; omega)]
      have yl : ys.length < 1000000 := by simp at xl; omega
      rw [show (ys ++ [y]).isEmpty = false by cases ys <;> rfl] at q1
      simp [p_law_draw, c, hn, hm, q1, hn2, hm2, val_deep, val_state, put_state]
      by_cases c2 : many ≤ y
      · simp [c2, g1, g2, val_deep, o4, h2, yl]
        refine ⟨Int.emod_nonneg _ (by omega), Int.emod_lt_of_pos _ o4, ⟨ne, s, ys ++ [y / many], ?_, ?_, s0, s1, ?_, ?_⟩, ?_⟩
        · rw [List.getElem?_set_ne (Ne.symm ne)]; exact hn2
        · rw [List.getElem?_set_self (by simp; omega)]; simp
        · intro x hx
          rcases List.mem_append.mp hx with hx | hx
          · exact x0 x (by simp [hx])
          · rw [List.mem_singleton.mp hx]; exact Int.ediv_nonneg y0 (by omega)
        · simp at xl ⊢; omega
        · intro k ob k1 k2 e
          rw [List.getElem?_set_ne (Ne.symm k2)]
          exact at_old e
      · simp [c2, o4]
        refine ⟨Int.emod_nonneg _ (by omega), Int.emod_lt_of_pos _ o4, ⟨ne, s, ys, g1, g2, s0, s1, ?_, ?_⟩, ?_⟩
        · exact fun x hx => x0 x (by simp [hx])
        · simp at xl ⊢; omega
        · intro k ob k1 k2 e
          rw [List.getElem?_set_ne (Ne.symm k2)]
          exact at_old e

theorem cut63 {ns : List Int} (hl : ns.length ≤ 63) : cutD (ns.map D.int) none (some 63) = ns.map D.int := by
  apply cut_whole
  rw [List.length_map]
  refine ⟨rfl, ?_⟩
  show (if (63 : Int) < 0 then ((63 : Int) + (ns.length : Int)).toNat else min (63 : Int).toNat ns.length) = ns.length
  rw [if_neg (by decide)]
  exact Nat.min_eq_right hl
def Dk (h : List Ob) (n w : Nat) (ns : List Int) (i : Nat) (S : DS) : Prop := ∃ (a2 a3 a4 : Option D) (m : Nat) (s : Int) (xs : List Int), S.loc = [some (.ro (ns.map D.int)), some (.ref n), a2, a3, a4] ∧ S.h[w]? = some (.lst (ns.map D.int)) ∧ n ≠ m ∧ w ≠ m ∧ n ≠ w ∧ S.h[n]? = some (.dct [(.inr "deep", .ref m), (.inr "state", .int s)]) ∧ S.h[m]? = some (.lst (xs.map D.int)) ∧ 0 ≤ s ∧ (∀ x ∈ xs, 0 ≤ x) ∧ xs.length ≤ i ∧ h.length ≤ n ∧ Kp0 h S.h ∧ s < 2305843009213693951
theorem merge_ds (m : Nat) (s : Int) : mergeD [] [(.inr (Str.ofString "deep"), .ref m), (.inr (Str.ofString "state"), .int s)] = [(.inr (Str.ofString "deep"), .ref m), (.inr (Str.ofString "state"), .int s)] := by
  show putD (putD [] (.inr (Str.ofString "deep")) (.ref m)) (.inr (Str.ofString "state")) (.int s) = _
  have := of_decide_eq_false k_ds
  simp [putD, hasD, this]
theorem deck_ok {ns : List Int} (c : Int) (hc : 0 ≤ c ∧ c ≤ 10000000) (hl : ns.length ≤ 63) (h : List Ob) : Ok (runB 5 (p_deck c) [.ro (ns.map D.int)] h) fun d S => ∃ n m, d = .ref n ∧ Deck S.h n m ∧ Kp0 h S.h := by
  apply ok_runB
  simp [p_deck, dDict, evPairs, keyPairs, keyOf, cut63 hl, at_new, sFor, dIter, iOf, merge_ds]
  apply ok_forO (Dk h (h.length + 2) (h.length + 3) ns) (ns.map D.int)
  · rw [List.length_map]; omega
  · refine ⟨none, none, none, h.length, _, [], rfl, by simp, by omega, by omega, by omega, by simp; rfl, by simp, by omega, by simp, by simp, by omega, Kp0.app _ _, by omega⟩
  · rintro i S ⟨_, _, _, _, _, _, _, e, _⟩
    exact e
  · rintro i d ⟨loc, hh⟩ hd ⟨a2, a3, a4, m, s, xs, rfl, hw, nm, wm, nw, hn, hm, s0, x0, xl, hln, kp, s1⟩
    dsimp only at hw hn hm kp
    obtain ⟨c, hc, rfl⟩ : ∃ c, ns[i]? = some c ∧ d = .int c := by
      rw [List.getElem?_map] at hd
      cases q : ns[i]? with
      | none => rw [q] at hd; cases hd
      | some c => rw [q] at hd; cases hd; exact ⟨c, rfl, rfl⟩
    refine ⟨_, rfl, ?_⟩
    simp [hn, hm, val_deep, val_state, put_deep, put_state]
    have ln := lt_of_at hn
    have lm := lt_of_at hm
    have lw := lt_of_at hw
    have w0 : 0 ≤ if c < 0 then -c else c := by split <;> omega
    generalize (if c < 0 then -c else c) = whole at w0
    have hk : ∀ k ob, h[k]? = some ob → k ≠ h.length + 2 := fun k ob e q => by have := lt_of_at e; omega
    by_cases big : 1000000000000000000 ≤ whole
    · have g1 : (hh ++ [Ob.lst [.int whole]])[h.length + 2]? = some (.dct [(.inr "deep", .ref m), (.inr "state", .int s)]) := at_old hn
      have g2 : (hh ++ [Ob.lst [.int whole]])[m]? = some (.lst (xs.map D.int)) := at_old hm
      have g3 : (hh ++ [Ob.lst [.int whole]])[hh.length]? = some (.lst [.int whole]) := at_new _ _
      have g4 : (hh ++ [Ob.lst [D.int whole], Ob.lst (D.int whole :: xs.map D.int)])[h.length + 2]? = some (.dct [(.inr "deep", .ref m), (.inr "state", .int s)]) := at_old hn
      have g5 : (hh ++ [Ob.lst [D.int whole], Ob.lst (D.int whole :: xs.map D.int)])[h.length + 3]? = some (.lst (ns.map D.int)) := at_old hw
      have li : i < ns.length := (List.getElem?_eq_some_iff.mp hc).1
      have e1 : 1 + xs.length ≤ 1000000 := by omega
      have g6 : ((hh ++ [Ob.lst [D.int whole], Ob.lst (D.int whole :: xs.map D.int)]).set (h.length + 2) (.dct [(.inr "deep", .ref (hh.length + 1)), (.inr "state", .int s)]))[h.length + 2]? = some (.dct [(.inr "deep", .ref (hh.length + 1)), (.inr "state", .int s)]) := List.getElem?_set_self (by simp; omega)
      simp [big, g1, g2, g3, g4, g6, val_deep, val_state, put_deep, put_state, e1]
      refine ⟨some (.int c), some (.int whole), _, hh.length + 1, _, whole :: xs, rfl, ?_, ?_, ?_, nw, List.getElem?_set_self (by simp; omega), ?_, ?_, ?_, ?_, hln, ?_, ?_⟩
      · rw [List.getElem?_set_ne (by omega)]; exact g5
      · omega
      · omega
      · rw [List.getElem?_set_ne (by omega), List.getElem?_append_right (by omega)]; simp
      · exact Int.emod_nonneg _ (by decide)
      · exact fun x hx => by
          rcases List.mem_cons.mp hx with rfl | hx
          · exact w0
          · exact x0 x hx
      · simp; omega
      · intro k ob e
        rw [List.getElem?_set_ne (Ne.symm (hk k ob e))]
        exact at_old (kp k ob e)
      · exact Int.emod_lt_of_pos _ (by decide)
    · simp [big, hn, val_state, put_state]
      refine ⟨some (.int c), some (.int whole), _, m, _, xs, rfl, ?_, nm, wm, nw, List.getElem?_set_self ln, ?_, ?_, x0, ?_, hln, ?_, ?_⟩
      · rw [List.getElem?_set_ne (by omega)]; exact hw
      · rw [List.getElem?_set_ne nm]; exact hm
      · exact Int.emod_nonneg _ (by decide)
      · omega
      · intro k ob e
        rw [List.getElem?_set_ne (Ne.symm (hk k ob e))]
        exact kp k ob e
      · exact Int.emod_lt_of_pos _ (by decide)
  · rintro ⟨loc, hh⟩ ⟨a2, a3, a4, m, s, xs, rfl, hw, nm, wm, nw, hn, hm, s0, x0, xl, hln, kp, s1⟩
    dsimp only at hw hn hm kp
    rw [List.length_map] at xl
    simp
    exact ⟨⟨m, nm, s, xs, hn, hm, s0, s1, x0, by omega⟩, kp⟩

theorem Deck.keep {h h' : List Ob} {n m : Nat} (dk : Deck h n m) (k : Kp0 h h') : Deck h' n m := by
  obtain ⟨ne, s, xs, hn, hm, r⟩ := dk
  exact ⟨ne, s, xs, k _ _ hn, k _ _ hm, r⟩
theorem Deck.lst {h : List Ob} {n m k : Nat} {xs : List D} (dk : Deck h n m) (hk : h[k]? = some (.lst xs)) : k ≠ n := by
  obtain ⟨ne, s, ys, hn, hm, r⟩ := dk
  rintro rfl
  rw [hn] at hk; cases hk
theorem pick_ok {h : List Ob} {n m k : Nat} (dk : Deck h n m) {xs : List D} (hk : h[k]? = some (.lst xs)) (km : k ≠ m) (h1 : 1 ≤ xs.length) (h2 : xs.length < 1000000) : Ok (F_law_pick [.ref n, .ref k] h) fun d S => d ∈ xs ∧ Deck S.h n m ∧ Kp n m h S.h := by
  apply ok_runB
  obtain ⟨d1, S1, e1, r, rfl, r0, r1, D1, k1⟩ := (draw_ok dk (many := xs.length) (by omega) (by omega)).ex
  obtain ⟨d, hd, hm⟩ := atI_nat r0 r1
  have hk1 := k1 k _ (dk.lst hk) km hk
  simp [p_law_pick, hk, e1, hk1, hd]
  exact ⟨hm, D1, k1⟩
theorem Deck.app {h : List Ob} {n m : Nat} (dk : Deck h n m) (t : List Ob) : Deck (h ++ t) n m := dk.keep (Kp0.app _ _)
theorem Deck.new {h : List Ob} {n m : Nat} (dk : Deck h n m) : h.length ≠ n ∧ h.length ≠ m := by
  obtain ⟨ne, s, xs, hn, hm, r⟩ := dk
  have := lt_of_at hn
  have := lt_of_at hm
  omega
theorem picked {h : List Ob} {n m : Nat} (dk : Deck h n m) {xs : List D} (h1 : 1 ≤ xs.length) (h2 : xs.length < 1000000) : Ok (F_law_pick [.ref n, .ref h.length] (h ++ [.lst xs])) fun d S => d ∈ xs ∧ Deck S.h n m ∧ Kp n m h S.h := by
  obtain ⟨d, S, e, hd, D1, k1⟩ := (pick_ok (dk.app _) (at_new h (.lst xs)) dk.new.2 h1 h2).ex
  rw [e]
  exact ⟨hd, D1, ((Kp0.app _ _).kp n m).trans k1⟩
end Fg

namespace Den
open PySem L2
/-! list.pop at a place -/
def mPopAt : D → List D → DS → Res D := fun x ds S => match x, ds with
  | .ref n, [.int i] => match S.h[n]? with
    | some (.lst xs) => if 0 ≤ i ∧ i < 1000000 then (match xs[i.toNat]? with
      | some d => .ok d { S with h := S.h.set n (.lst (xs.eraseIdx i.toNat)) }
      | none => .stuck) else .stuck
    | _ => .stuck
  | _, _ => .stuck
section
variable {X : Cx} {cm : Str → Value} {W : WX} {K : PySem.W.Frag} {L : List Addr} {H : Hp}
theorem Reps.erase {ds : List D} {vs : List V} (r : Reps K cm L H ds vs) (i : Nat) : Reps K cm L H (ds.eraseIdx i) (vs.eraseIdx i) := by
  rw [List.eraseIdx_eq_take_drop_succ, List.eraseIdx_eq_take_drop_succ]
  exact (r.take i).append (r.drop (i + 1))
theorem seq_at {i : Int} {n : Nat} (h0 : 0 ≤ i) (h : i.toNat < n) : seqIndex? i n = some i.toNat := by
  unfold seqIndex?
  have h1 : ¬ i < 0 := by omega
  simp only [h1, if_false]
  rw [if_pos (by simp; omega)]
theorem mo_popAt : MOp X cm W rPopAt mPopAt := by
  intro L H S σ x xs d ds Q a r1 r2 q
  unfold mPopAt at q
  split at q
  · split at q
    · rename_i hx
      obtain ⟨p1, vs1, rfl, g1, h1, rr⟩ := a.lst r1 hx
      split at q
      · rename_i hi
        split at q
        · rename_i hz
          cases r2 with
          | cons r2 r3 =>
            cases r3
            cases r2
            obtain ⟨v, hv, rv⟩ := rr.get hz
            have ep := fun j => Ext.put (o := .lst (vs1.eraseIdx j)) a.hp g1 (.inl ⟨_, h1⟩)
            have hl := (List.getElem?_eq_some_iff.mp hv).1
            refine ⟨_, _, _, _, v, rfl, rfl, h1, by omega, by omega, ?_, hv, q.giveE (ep _) (a.put g1 (.inl ⟨_, h1⟩) ⟨_, upd_same, Reps.mono (ep _) (Reps.erase rr _)⟩) (rv.mono (ep _))⟩
            exact seq_at hi.1 hl
        · exact q.elim
      · exact q.elim
    · exact q.elim
  · exact q.elim
end
@[simp] theorem z_popAt (n : Nat) (i : Int) (S : DS) : mPopAt (.ref n) [.int i] S = match S.h[n]? with
    | some (.lst xs) => if 0 ≤ i ∧ i < 1000000 then (match xs[i.toNat]? with
      | some d => .ok d { S with h := S.h.set n (.lst (xs.eraseIdx i.toNat)) }
      | none => .stuck) else .stuck
    | _ => .stuck := rfl
end Den

namespace Den
open PySem PySem.Spec PyProof.Rows L2
/-! ### several except clauses, with a name or without -/
abbrev ClauseO := Value × Option Nat × (Addr → Value → Option Addr → TS)
def endsO : Option Nat → Ends → Ends
  | none, D => D
  | some i, D => endsI i D
def putO : Option Nat → Addr → L2.St → L2.St
  | none, _, σ => σ
  | some i, a, σ => σ.set i (some (.ref a))
/-- what the clauses ask of an exception: the first that fits takes it, else it goes on -/
def asksO (K : PySem.W.Frag) (Wout : WX) (D : Ends) : List ClauseO → WX
  | [] => Wout
  | (c, i, ts) :: r => fun cls d σ H => ∃ b, PySem.W.exmOne K cls c = some b ∧ (b = true → ∀ a, H a = none → ts a cls d (endsO i D) (putO i a σ) H) ∧ (b = false → asksO K Wout D r cls d σ H)
inductive ClausesO (X : Cx) : List ExceptHandler → List ClauseO → Prop
  | nil : ClausesO X [] []
  | cons {x n : Str} {c : Value} {i : Nat} {ts : Addr → Value → Option Addr → TS} {b₀ : Stmt} {suite : List Stmt} {np pos' : Pos} {hds : List ExceptHandler} {l : List ClauseO} : X.N[i]? = some n → X.env.kindOf n = some .local → Names X x c →
      (∀ (a : Addr) (oe : Obj) (cls : Value) (d : Option Addr) (pn : List (Addr × Obj)), Zc cls d oe → (∃ vs, oe.data = .fields vs) → PSs (X.suite a ((a, oe) :: pn)) (b₀ :: suite) (ts a cls d)) → ClausesO X hds l →
      ClausesO X (.ExceptHandler (some (.Name x np)) (some n) (b₀ :: suite) pos' :: hds) ((c, some i, ts) :: l)
  | bare {x : Str} {c : Value} {ts : Addr → Value → Option Addr → TS} {b₀ : Stmt} {suite : List Stmt} {np pos' : Pos} {hds : List ExceptHandler} {l : List ClauseO} : Names X x c →
      (∀ (a : Addr) (oe : Obj) (cls : Value) (d : Option Addr) (pn : List (Addr × Obj)), Zc cls d oe → (∃ vs, oe.data = .fields vs) → PSs (X.suite a ((a, oe) :: pn)) (b₀ :: suite) (ts a cls d)) → ClausesO X hds l →
      ClausesO X (.ExceptHandler (some (.Name x np)) none (b₀ :: suite) pos' :: hds) ((c, none, ts) :: l)
section
variable {X : Cx} {body : List Stmt} {h₀ : ExceptHandler} {hds : List ExceptHandler} {l : List ClauseO} {pos : Pos} {tb : WX → TS} {Wout : WX}
theorem ps_triesO (hs : X.stack = X.env :: X.outer) (hf : X.env.frame = some X.env.locals) (hN : X.N.Nodup) (tk : Takes X Wout)
    (hb : ∀ (W : WX) (pn : List (Addr × Obj)) (xe : Value → Shared → Prop), Takes (X.tr pn xe) W → PassesOwn (model X.prog X.w) X.A X.env xe → PSs (X.tr pn xe) body (tb W))
    (hh : ClausesO X (h₀ :: hds) l) : PS X (.Try body (h₀ :: hds) [] [] pos) (fun D σ H => tb (asksO X.K Wout D l) D σ H) := by
  constructor
  intro pins s σ H D I h
  have ok := I.ok
  have top : X.A.frames = some (X.env :: X.outer) := by rw [ok.frames, hs]
  apply wpAny_Try_except
  have run := (hb (asksO X.K Wout D l) (X.pn ++ pins) (fun e s₁ => wpAny (model X.prog X.w) X.A (noteFrame e X.env) (fun _ s₂ => wpAny (model X.prog X.w) X.A (setFlight e none) (fun _ s₃ =>
    wpAny (model X.prog X.w) X.A (handleBy e X.env (h₀ :: hds)) (SP X pins D) X.xe s₃) X.xe s₂) X.xe s₁) ?takes PassesOwn.looking).run [] s σ H D (I.toTry _) h
  case takes =>
    rintro u s' ⟨a, B, sI, pins', σ', H', cls, d, rfl, J', nb, up, sky, na, os, ag, w⟩
    have J : Inv X pins σ' H' sI := J'.ofTry ok
    have sky' : Sky B (X.env :: X.outer) a (Zc cls d) X.env.locals s'.heap := by rw [← hs]; exact sky
    apply Sky.land Zc.steady top hf sky'
    intro h3 fl3 up3
    have J3 : Inv X pins σ' H' { s' with heap := h3 } := J.landed nb fl3.1 (up.trans up3) os ag
    obtain ⟨oe3, vs3, he3, hz3, hd3⟩ := fl3.there
    -- the exception is no frame
    have off : a ∉ frs (X.env :: X.outer) := fun hm => by
      obtain ⟨_, o', e', hnf⟩ := fl3.2.2.1.mem hm
      rw [he3] at e'
      cases e'
      exact hnf _ hd3
    have nL : a ≠ X.env.locals := fun z => off (List.mem_filterMap.mpr ⟨X.env, List.mem_cons_self, by rw [hf, z]⟩)
    have nF : a ∉ X.fs := fun hm => by
      obtain ⟨e, he, q⟩ := List.mem_filterMap.mp hm
      exact off (List.mem_filterMap.mpr ⟨e, List.mem_cons_of_mem _ he, q⟩)
    have S3 := J3.suite he3 hd3 na nL nF
    have LT : PySem.W.Looks (model X.prog X.w) h3 (typeOf (.ref a)) cls := fun A Q E s k q => wpAny_typeOf_ref (k _ _ he3) (by rw [hz3.1]; exact q)
    suffices go : ∀ (hds' : List ExceptHandler) (l' : List ClauseO), ClausesO X hds' l' → asksO X.K Wout D l' cls d σ' H' → wpAny (model X.prog X.w) X.A (handleBy (.ref a) X.env hds') (SP X pins D) X.xe { s' with heap := h3 } from go _ _ hh w
    intro hds' l' hk
    induction hk with
    | nil =>
      intro w
      apply wpAny_handleBy_nil
      obtain ⟨k1, k2, k3, oe, vs, T, oT, ts', he, hz, hd, h1, hr⟩ := id fl3
      unfold PySem.passOn
      refine wpAny_bind (wpAny_field he hd h1 ?_)
      rw [if_neg (show ¬ ((Value.ref T == Value.none) = true) from by simp)]
      have on : wpAny (model X.prog X.w) X.A (setFlight (.ref a) X.env.frame) (fun _ s4 => wpAny (model X.prog X.w) X.A (throw (.ref a) : Sem Flow) (SP X pins D) X.xe s4) X.xe { s' with heap := h3 } := by
        rw [hf]
        apply HandSPX.setFlight_upZ fl3
        intro h4 hh4 up4
        exact wpAny_throw (tk _ _ ⟨a, B, sI, pins, σ', H', cls, d, rfl, J, nb, (up.trans up3).trans up4, .inr (.inr (by rw [hs]; exact hh4)), na, os, ag, w⟩)
      first
        | exact wpAny_bind (wpAny_pure (wpAny_bind on))
        | exact wpAny_bind on
    | @cons x n c i ts b₀ suite np pos' hds2 l2 hi hln hc hsu r ih =>
      rintro ⟨b, hb1, hyes, hno⟩
      have hloc : Loc X.env.scope n := .inl hln
      refine wpAny_handleBy_cons (codeAny_handlers_test ?_) (by intro q; cases q)
      have LM := PySem.W.exm_one (M := model X.prog X.w) (J3.kIn) LT hb1
      have read : ∀ {Q : Value → Shared → Prop} {E : Value → Shared → Prop}, Q c { s' with heap := h3 } → wpAny (model X.prog X.w) (X.A.mark (some (.ref a))) (eval (.Name x np) X.env) Q E { s' with heap := h3 } := fun {Q E} q => by
        obtain ⟨hg, hdbg, hm | ⟨hm, hv, hnn⟩⟩ := hc
        · exact ld_glob (X := X.suite a ((a, oe3) :: (X.pn ++ pins))) S3 hg hm q hdbg
        · exact ld_blt (X := X.suite a ((a, oe3) :: (X.pn ++ pins))) S3 hg hm hv q hnn hdbg
      refine read (LM.here ?_)
      cases b with
      | false => exact ih (hno rfl)
      | true =>
        apply codeAny_handlers_suite_as
        apply HandSPX.lands_againZ fl3
        intro h4 fl4 up4
        have J4 : Inv X pins σ' H' { s' with heap := h4 } := J.landed nb fl4.1 ((up.trans up3).trans up4) os ag
        obtain ⟨oe4, vs4, he4, hz4, hd4⟩ := fl4.there
        have S4 := J4.suite he4 hd4 na nL nF
        refine store_ok (X := X.suite a ((a, oe4) :: (X.pn ++ pins))) (v := .ref a) S4 hN hi hloc rfl (fun s5 S5 => ?_) (.inr hln)
        refine wpAny_mono ((hsu a oe4 cls d (X.pn ++ pins) hz4 ⟨_, hd4⟩).run [] s5 _ H' _ S5 (hyes rfl a na)) (fun f s6 hsp => ?_) (fun _ _ z => False.elim z)
        have gone : ∀ {σ6 : L2.St} {H6 : Hp} {Q : Shared → Prop}, Inv (X.suite a ((a, oe4) :: (X.pn ++ pins))) [] σ6 H6 s6 → (∀ s7, Inv X pins (σ6.set i none) H6 s7 → Q s7) →
            wpAny (model X.prog X.w) X.A (do bindName X.env n .none; unbindBehindTheSuite X.env n pos') (fun _ s7 => Q s7) X.xe s6 := fun {σ6 H6 Q} S6 hq => gone_ok (S6.unsuite ok) hN hi hln hq
        cases f with
        | ret u =>
          obtain ⟨v6, σ6, H6, S6, r6, q6⟩ := hsp
          exact gone S6 fun s7 J7 => ⟨_, _, _, J7, r6, q6⟩
        | next =>
          obtain ⟨σ6, H6, S6, q6⟩ := hsp
          exact gone S6 fun s7 J7 => ⟨_, _, J7, q6⟩
        | brk =>
          obtain ⟨σ6, H6, S6, q6⟩ := hsp
          exact gone S6 fun s7 J7 => ⟨_, _, J7, q6⟩
        | cont =>
          obtain ⟨σ6, H6, S6, q6⟩ := hsp
          exact gone S6 fun s7 J7 => ⟨_, _, J7, q6⟩
    | @bare x c ts b₀ suite np pos' hds2 l2 hc hsu r ih =>
      rintro ⟨b, hb1, hyes, hno⟩
      refine wpAny_handleBy_cons (codeAny_handlers_test ?_) (by intro q; cases q)
      have LM := PySem.W.exm_one (M := model X.prog X.w) (J3.kIn) LT hb1
      have read : ∀ {Q : Value → Shared → Prop} {E : Value → Shared → Prop}, Q c { s' with heap := h3 } → wpAny (model X.prog X.w) (X.A.mark (some (.ref a))) (eval (.Name x np) X.env) Q E { s' with heap := h3 } := fun {Q E} q => by
        obtain ⟨hg, hdbg, hm | ⟨hm, hv, hnn⟩⟩ := hc
        · exact ld_glob (X := X.suite a ((a, oe3) :: (X.pn ++ pins))) S3 hg hm q hdbg
        · exact ld_blt (X := X.suite a ((a, oe3) :: (X.pn ++ pins))) S3 hg hm hv q hnn hdbg
      refine read (LM.here ?_)
      cases b with
      | false => exact ih (hno rfl)
      | true =>
        refine codeAny_handlers_suite ?_
        apply HandSPX.lands_againZ fl3
        intro h4 fl4 up4
        have J4 : Inv X pins σ' H' { s' with heap := h4 } := J.landed nb fl4.1 ((up.trans up3).trans up4) os ag
        obtain ⟨oe4, vs4, he4, hz4, hd4⟩ := fl4.there
        have S4 := J4.suite he4 hd4 na nL nF
        refine wpAny_mono ((hsu a oe4 cls d (X.pn ++ pins) hz4 ⟨_, hd4⟩).run [] _ _ H' _ S4 (hyes rfl a na)) (fun f s6 hsp => ?_) (fun _ _ z => False.elim z)
        cases f with
        | ret u =>
          obtain ⟨v6, σ6, H6, S6, r6, q6⟩ := hsp
          exact ⟨_, _, _, S6.unsuite ok, r6, q6⟩
        | next =>
          obtain ⟨σ6, H6, S6, q6⟩ := hsp
          exact ⟨_, _, S6.unsuite ok, q6⟩
        | brk =>
          obtain ⟨σ6, H6, S6, q6⟩ := hsp
          exact ⟨_, _, S6.unsuite ok, q6⟩
        | cont =>
          obtain ⟨σ6, H6, S6, q6⟩ := hsp
          exact ⟨_, _, S6.unsuite ok, q6⟩
  refine wpAny_mono run (fun f s1 hsp => ?_) (fun e s1 he => he)
  cases f with
  | ret u =>
    obtain ⟨v, σ', H', J', r, q⟩ := hsp
    exact ⟨v, σ', H', J'.ofTry ok, r, q⟩
  | next =>
    obtain ⟨σ', H', J', q⟩ := hsp
    exact wpAny_execs_nil ⟨σ', H', J'.ofTry ok, q⟩
  | brk =>
    obtain ⟨σ', H', J', q⟩ := hsp
    exact ⟨σ', H', J'.ofTry ok, q⟩
  | cont =>
    obtain ⟨σ', H', J', q⟩ := hsp
    exact ⟨σ', H', J'.ofTry ok, q⟩
end
/-! over plain programs: each suite is one return -/
def sRetB (f : DE) : Xn → DSt := fun _ => sRet f
inductive HandsO (X : Cx) (cm : Str → Value) : List ExceptHandler → List Cl → List ClauseO → Prop
  | nil : HandsO X cm [] [] []
  | cons {x n : Str} {c : Value} {i : Nat} {sub : Str → Option Bool} {e0 : Expr} {pr np pos' : Pos} {ff : Xn → DE} {hds : List ExceptHandler} {cs : List Cl} {l : List ClauseO} : X.N[i]? = some n → X.env.kindOf n = some .local → Names X x c →
      (∀ m r, sub m = some r → PySem.W.exmOne X.K (cm m) c = some r) →
      (∀ (a : Addr) (oe : Obj) (cls : Value) (d : Option Addr) (pn : List (Addr × Obj)), Zc cls d oe → (∃ vs, oe.data = .fields vs) → PE (X.suite a ((a, oe) :: pn)) e0 (rdX X.K cm i a cls d (Rep X.K cm) ff)) → HandsO X cm hds cs l →
      HandsO X cm (.ExceptHandler (some (.Name x np)) (some n) [.Return (some e0) pr] pos' :: hds) ((sub, sRetX i ff) :: cs) ((c, some i, fun a cls d => tRet (rdX X.K cm i a cls d (Rep X.K cm) ff)) :: l)
  | bare {x : Str} {c : Value} {sub : Str → Option Bool} {e0 : Expr} {pr np pos' : Pos} {fe : DE} {hds : List ExceptHandler} {cs : List Cl} {l : List ClauseO} : Names X x c →
      (∀ m r, sub m = some r → PySem.W.exmOne X.K (cm m) c = some r) →
      (∀ (a : Addr) (oe : Obj) (cls : Value) (d : Option Addr) (pn : List (Addr × Obj)), Zc cls d oe → (∃ vs, oe.data = .fields vs) → PE (X.suite a ((a, oe) :: pn)) e0 (rdE X.K cm W0 fe)) → HandsO X cm hds cs l →
      HandsO X cm (.ExceptHandler (some (.Name x np)) none [.Return (some e0) pr] pos' :: hds) ((sub, sRetB fe) :: cs) ((c, none, fun _ _ _ => tRet (rdE X.K cm W0 fe)) :: l)
section
variable {X : Cx} {cm : Str → Value} {W : WX} {body : List Stmt} {h₀ : ExceptHandler} {hds : List ExceptHandler} {cs : List Cl} {l : List ClauseO} {pos : Pos} {b : DSt}
theorem HandsO.clauses : ∀ {hds : List ExceptHandler} {cs : List Cl} {l : List ClauseO}, HandsO X cm hds cs l → ClausesO X hds l
  | _, _, _, .nil => .nil
  | _, _, _, .cons hi hln hc hsub hsu r => .cons hi hln hc (fun a oe cls d pn h1 h2 => pss_one (ps_ret (hsu a oe cls d pn h1 h2))) r.clauses
  | _, _, _, .bare hc hsub hsu r => .bare hc (fun a oe cls d pn h1 h2 => pss_one (ps_ret (hsu a oe cls d pn h1 h2))) r.clauses
theorem HandsO.asksO : ∀ {hds : List ExceptHandler} {cs : List Cl} {l : List ClauseO}, HandsO X cm hds cs l → ∀ {D : Ends} {L1 : List Addr} {H1 : Hp} {S1 : DS} {σ1 : L2.St} {u : Xn} {cl : Value} {dx : Option Addr}, AbS X.K cm L1 H1 S1 σ1 → XnR X.K cm L1 H1 u cl dx → AftS X.K cm W L1 H1 (tryH cs u S1) D → Den.asksO X.K W D l cl dx σ1 H1
  | _, _, _, .nil, D, L1, H1, S1, σ1, u, cl, dx, x1, xr, q => q L1 H1 σ1 cl dx Ext.refl x1 xr
  | _, _, _, .cons (i := i) (sub := sub) (ff := ff) hi hln hc hsub hsu r, D, L1, H1, S1, σ1, u, cl, dx, x1, xr, q => by
    unfold tryH at q
    split at q
    · rename_i hsb
      refine ⟨true, by rw [xr.1]; exact hsub _ _ hsb, fun _ a ha => ?_, fun z => by cases z⟩
      unfold sRetX sRet at q
      by_cases hlt : i < S1.loc.length
      · rw [if_pos hlt] at q
        refine ⟨by show (σ1.set i (some (.ref a)))[i]? = _; rw [List.getElem?_set_self (by rw [← x1.loc.1]; exact hlt)], L1, { S1 with loc := S1.loc.set i none }, u, ⟨x1.hp, x1.loc.unset i⟩, xr, ?_⟩
        generalize ff u { S1 with loc := S1.loc.set i none } = w at q
        cases w with
        | ok d S2 => exact fun L' H' v ex xx rr => q L' H' (σ1.set i (some (.ref a))) v ex xx rr
        | exc _ _ => exact q.elim
        | stuck => exact q.elim
      · rw [if_neg hlt] at q
        exact q.elim
    · rename_i hsb
      exact ⟨false, by rw [xr.1]; exact hsub _ _ hsb, fun z => (by cases z), fun _ => r.asksO x1 xr q⟩
    · exact q.elim
  | _, _, _, .bare (sub := sub) (fe := fe) hc hsub hsu r, D, L1, H1, S1, σ1, u, cl, dx, x1, xr, q => by
    unfold tryH at q
    split at q
    · rename_i hsb
      refine ⟨true, by rw [xr.1]; exact hsub _ _ hsb, fun _ a ha => ?_, fun z => by cases z⟩
      refine ⟨L1, S1, x1, ?_⟩
      unfold sRetB sRet at q
      generalize fe S1 = w at q
      cases w with
      | ok d S2 => exact fun L' H' v ex xx rr => q L' H' σ1 v ex xx rr
      | exc _ _ => exact q.elim
      | stuck => exact q.elim
    · rename_i hsb
      exact ⟨false, by rw [xr.1]; exact hsub _ _ hsb, fun z => (by cases z), fun _ => r.asksO x1 xr q⟩
    · exact q.elim
theorem s_triesO (hs : X.stack = X.env :: X.outer) (hf : X.env.frame = some X.env.locals) (hN : X.N.Nodup) (tk : Takes X W) (hh : HandsO X cm (h₀ :: hds) cs l)
    (hb : ∀ (W : WX) (pn : List (Addr × Obj)) (xe : Value → Shared → Prop), Takes (X.tr pn xe) W → PassesOwn (model X.prog X.w) X.A X.env xe → PSs (X.tr pn xe) body (rdS X.K cm W b)) :
    PS X (.Try body (h₀ :: hds) [] [] pos) (rdS X.K cm W (sTryN b cs)) := weakS (ps_triesO hs hf hN tk hb hh.clauses) fun D σ H q => by
  obtain ⟨L, S, ab, q⟩ := q
  refine ⟨L, S, ab, ?_⟩
  unfold sTryN at q
  generalize b S = r at q
  cases r with
  | ok f S1 => cases f <;> exact q
  | stuck => exact q
  | exc u S1 => exact fun L1 H1 σ1 cl dx e1 x1 xr => hh.asksO x1 xr (AftS.ext e1 q)
end
end Den

namespace Fk
open PySem L2 PySem.Spec PyProof.Rows Den
/-! ### B. plain functions -/
def g_ANY_TIME : D := (.str "any time")
def g_MAX_MACHINES : D := (.int 6)
def g_NOTES : D := .tup [(.str "got higher"), (.str "got lower"), (.str "sent higher"), (.str "sent lower")]
def g_NO_TESTS : D := (.str "tests none")
def g_TESTS : D := .tup [(.tup [(.str "G1"), (.str "G2")]), (.tup [(.str "G1"), (.str "S1")]), (.tup [(.str "G1"), (.str "S2")]), (.tup [(.str "G2"), (.str "S1")]), (.tup [(.str "G2"), (.str "S2")]), (.tup [(.str "S1"), (.str "S2")])]
def g_TESTS_HEAD : D := (.str "tests ")
def g_WAITS : D := (.str "waits")
def sub_BadBook : Str → Option Bool := fun n => if n = "BadBook" then some true else if n = "BadText" then some false else none
def sub_BadText : Str → Option Bool := fun n => if n = "BadBook" then some false else if n = "BadText" then some true else none
/-- is_integer: 0=value -/
def p_is_integer : DSt := (sRet (dAnd (dCB cIsi (dCons (dVar 0) (dCons (dC (.ty "int")) dNil))) (dNotT (dCB cIsi (dCons (dVar 0) (dCons (dC (.ty "bool")) dNil))))))
def F_is_integer : Fn := runB 1 p_is_integer
/-- is_many: 0=value -/
def p_is_many : DSt := (sRet (dAnd (dCall F_is_integer (dCons (dVar 0) dNil)) (dChain oLe oLe (dC (.int 2)) (dVar 0) (dC g_MAX_MACHINES))))
def F_is_many : Fn := runB 1 p_is_many
/-- is_ascending: 0=items, 1=low, 2=high -/
def p_is_ascending : DSt := (sRet (dCB cAll (dCons (dComp [1, 2] (dZip (dCons (dVar 0) (dCons (dSl (dVar 0) (dPS (dC (.int 1))) dPN) dNil))) (gTup 2 (gCons (gN 1) (gCons (gN 2) gNil))) tTrue (dBin oLtA (dVar 1) (dVar 2))) dNil)))
def F_is_ascending : Fn := runB 3 p_is_ascending
/-- is_notes: 0=value, 1=word -/
def p_is_notes : DSt := (sSeq (sIf (tNotD (tTr (dCB cIsi (dCons (dVar 0) (dCons (dC (.ty "tuple")) dNil))))) (sRet (dC (.bl false))) sNop)
  (sRet (dAnd (dCB cAll (dCons (dComp [1] (dIter (dVar 0)) (gN 1) tTrue (dBin oIn (dVar 1) (dC g_NOTES))) dNil)) (dCall F_is_ascending (dCons (dVar 0) dNil)))))
def F_is_notes : Fn := runB 2 p_is_notes
/-- tests_error: 0=tests, 1=k, 2=test -/
def p_tests_error : DSt := (sSeq (sFor (dEnumT (dCons (dVar 0) dNil)) (gTup 2 (gCons (gN 1) (gCons (gN 2) gNil)))
  (sIf (tV (dBin oNotIn (dVar 2) (dC g_TESTS))) (sRet (dTup (dCons (dC (.str "test")) (dCons (dVar 1) dNil)))) sNop))
  (sRet (dIf (tTr (dCall F_is_ascending (dCons (dVar 0) dNil))) (dC .non) (dC (.str "tests")))))
def F_tests_error : Fn := runB 3 p_tests_error
/-- tests_line: 0=tests, 1=test -/
def p_tests_line : DSt := (sSeq (sIf (tNotD (tTr (dVar 0))) (sRet (dC g_NO_TESTS)) sNop)
  (sRet (dBin oAdd (dC g_TESTS_HEAD) (dMtS mJoin (dC (.str ", ")) (dComp [1] (dIter (dVar 0)) (gN 1) tTrue (dMtS mJoin (dC (.str "=")) (dVar 1)))))))
def F_tests_line : Fn := runB 2 p_tests_line
/-- manner_line: 0=manner, 1=head, 2=waits, 3=notes -/
def p_manner_line : DSt := (sSeq (sAsg (dVar 0) (gTup 2 (gCons (gN 2) (gCons (gN 3) gNil))))
  (sSeq (sAsg (dIf (tTr (dVar 2)) (dC g_WAITS) (dC g_ANY_TIME)) (gN 1))
  (sSeq (sIf (tNotD (tTr (dVar 3))) (sRet (dVar 1)) sNop)
  (sRet (dBin oAdd (dBin oAdd (dVar 1) (dC (.str ": "))) (dMtS mJoin (dC (.str ", ")) (dVar 3)))))))
def F_manner_line : Fn := runB 4 p_manner_line
/-- book_text: 0=book, 1=tests, 2=manners, 3=manner -/
def p_book_text : DSt := (sSeq (sAsg (dVar 0) (gTup 2 (gCons (gN 1) (gCons (gN 2) gNil))))
  (sRet (dMtS mJoin (dC (.str "\n")) (dBin oAdd (dLst (dCons (dCall F_tests_line (dCons (dVar 1) dNil)) dNil)) (dComp [3] (dIter (dVar 2)) (gN 3) tTrue (dCall F_manner_line (dCons (dVar 3) dNil)))))))
def F_book_text : Fn := runB 4 p_book_text
/-- tests_of: 0=line, 1=tests, 2=told -/
def p_tests_of : DSt := (sSeq (sIf (tV (dBin oEq (dVar 0) (dC g_NO_TESTS))) (sRet (dTup dNil)) sNop)
  (sSeq (sIf (tNotD (tTr (dMtS mStarts (dVar 0) (dC g_TESTS_HEAD)))) (sRet (dC .non)) sNop)
  (sSeq (sAsg (dCB cTuple (dCons (dComp [2] (dIter (dMtS mSplit (dSl (dVar 0) (dPS (dCB cLen (dCons (dC g_TESTS_HEAD) dNil))) dPN) (dC (.str ", ")))) (gN 2) tTrue (dCB cTuple (dCons (dMtS mSplit (dVar 2) (dC (.str "="))) dNil))) dNil)) (gN 1))
  (sRet (dIf (tV (dBin oIsN (dCall F_tests_error (dCons (dVar 1) dNil)) (dC .non))) (dVar 1) (dC .non))))))
def F_tests_of : Fn := runB 3 p_tests_of
/-- manner_of: 0=line, 1=notes, 2=head, 3=colon, 4=told -/
def p_manner_of : DSt := (sSeq (sAsg (dMtS mPart (dVar 0) (dC (.str ": "))) (gTup 3 (gCons (gN 2) (gCons (gN 3) (gCons (gN 4) gNil)))))
  (sSeq (sAsg (dIf (tTr (dVar 3)) (dCB cTuple (dCons (dMtS mSplit (dVar 4) (dC (.str ", "))) dNil)) (dTup dNil)) (gN 1))
  (sSeq (sIf (tOrD (tV (dBin oNotIn (dVar 2) (dTup (dCons (dC g_WAITS) (dCons (dC g_ANY_TIME) dNil))))) (tNotD (tTr (dCall F_is_notes (dCons (dVar 1) dNil))))) (sRet (dC .non)) sNop)
  (sRet (dTup (dCons (dBin oEq (dVar 2) (dC g_WAITS)) (dCons (dVar 1) dNil)))))))
def F_manner_of : Fn := runB 5 p_manner_of
/-- manners_of: 0=lines, 1=manners, 2=number, 3=line, 4=manner -/
def p_manners_of : DSt := (sSeq (sAsg (dLst dNil) (gN 1))
  (sSeq (sFor (dEnumS (dCons (dVar 0) dNil) (dCons (dC (.int 1)) dNil)) (gTup 2 (gCons (gN 2) (gCons (gN 3) gNil)))
  (sSeq (sAsg (dCall F_manner_of (dCons (dVar 3) dNil)) (gN 4))
  (sSeq (sIf (tV (dBin oIsN (dVar 4) (dC .non))) (sRaise1 "BadText" "line" (dCons (dVar 2) dNil)) sNop)
  (sExpr (dMtL mAppend (dVar 1) (dCons (dVar 4) dNil))))))
  (sRet (dCB cTuple (dCons (dVar 1) dNil)))))
def F_manners_of : Fn := runB 5 p_manners_of
/-- read_book: 0=value, 1=lines, 2=tests, 3=manners -/
def p_read_book : DSt := (sSeq (sIf (tNotD (tTr (dCB cIsi (dCons (dVar 0) (dCons (dC (.ty "str")) dNil))))) (sRaise1 "BadText" "line" (dCons (dC (.int 0)) dNil)) sNop)
  (sSeq (sAsg (dMtS mSplit (dVar 0) (dC (.str "\n"))) (gN 1))
  (sSeq (sAsg (dCall F_tests_of (dCons (dBin oIx (dVar 1) (dC (.int 0))) dNil)) (gN 2))
  (sSeq (sIf (tV (dBin oIsN (dVar 2) (dC .non))) (sRaise1 "BadText" "line" (dCons (dC (.int 0)) dNil)) sNop)
  (sSeq (sAsg (dCall F_manners_of (dCons (dSl (dVar 1) (dPS (dC (.int 1))) dPN) dNil)) (gN 3))
  (sSeq (sIf (tNotD (tTr (dCall F_is_many (dCons (dCB cLen (dCons (dVar 3) dNil)) dNil)))) (sRaise1 "BadBook" "error" (dCons (dC (.str "manners")) dNil)) sNop)
  (sRet (dTup (dCons (dVar 2) (dCons (dVar 3) dNil))))))))))
def F_read_book : Fn := runB 4 p_read_book
/-- _law_deck: 0=script, 1=deck, 2=cell, 3=whole, 4=state -/
def p_law_deck : DSt := (sSeq (sAsg (dDict [((dC (.str "deep")), (dLst dNil)), ((dC (.str "state")), (dBin oAdd (dC (.int 1572604)) (dCB cLen (dCons (dSl (dVar 0) dPN (dPS (dC (.int 63)))) dNil))))]) (gN 1))
  (sSeq (sFor (dIter (dSl (dVar 0) dPN (dPS (dC (.int 63))))) (gN 2)
  (sSeq (sAsg (dCB cAbs (dCons (dVar 2) dNil)) (gN 3))
  (sSeq (sIf (tV (dBin oGe (dVar 3) (dBin oPow (dC (.int 10)) (dC (.int 18))))) (sPut (dBin oAdd (dLst (dCons (dVar 3) dNil)) (dBin oIx (dVar 1) (dC (.str "deep")))) (dVar 1) (dC (.str "deep"))) sNop)
  (sSeq (sAsg (dBin oAdd (dBin oMulA (dBin oAdd (dBin oAdd (dBin oAdd (dBin oIx (dVar 1) (dC (.str "state"))) (dBin oMulA (dC (.int 2)) (dVar 3))) (dCB cIntA (dCons (dBin oLt (dVar 2) (dC (.int 0))) dNil))) (dC (.int 1))) (dC (.int 1181783497276652981))) (dC (.int 521288629))) (gN 4))
  (sPut (dBin oMod (dCB cIntA (dCons (dVar 4) dNil)) (dC (.int 2305843009213693951))) (dVar 1) (dC (.str "state")))))))
  (sRet (dVar 1))))
def F_law_deck : Fn := runB 5 p_law_deck
/-- _law_draw: 0=deck, 1=many, 2=one, 3=two, 4=whole -/
def p_law_draw : DSt := (sSeq (sIf (tV (dBin oLt (dVar 1) (dC (.int 2)))) (sRet (dC (.int 0))) sNop)
  (sSeq (sIf (tV (dBin oNe (dBin oIx (dVar 0) (dC (.str "deep"))) (dLst dNil))) (sSeq (sAsg (dMtL mPop (dBin oIx (dVar 0) (dC (.str "deep"))) dNil) (gN 4))
  (sSeq (sIf (tV (dBin oGe (dVar 4) (dVar 1))) (sExpr (dMtL mAppend (dBin oIx (dVar 0) (dC (.str "deep"))) (dCons (dBin oDiv (dVar 4) (dVar 1)) dNil))) sNop)
  (sRet (dBin oMod (dCB cIntA (dCons (dVar 4) dNil)) (dVar 1))))) sNop)
  (sSeq (sAsg (dBin oMod (dCB cIntA (dCons (dBin oAdd (dBin oMulA (dBin oIx (dVar 0) (dC (.str "state"))) (dC (.int 1181783497276652981))) (dC (.int 88172645463325))) dNil)) (dC (.int 2305843009213693951))) (gN 2))
  (sSeq (sPut (dVar 2) (dVar 0) (dC (.str "state")))
  (sSeq (sAsg (dBin oMod (dCB cIntA (dCons (dBin oAdd (dBin oAdd (dBin oMulA (dVar 2) (dVar 2)) (dBin oMulA (dC (.int 374761393)) (dVar 2))) (dC (.int 11))) dNil)) (dC (.int 2305843009213693921))) (gN 3))
  (sRet (dBin oMod (dCB cIntA (dCons (dBin oDiv (dVar 3) (dC (.int 1048576))) dNil)) (dVar 1))))))))
def F_law_draw : Fn := runB 5 p_law_draw
/-- _law_pick: 0=deck, 1=items -/
def p_law_pick : DSt := (sRet (dBin oIx (dVar 1) (dCall F_law_draw (dCons (dVar 0) (dCons (dCB cLen (dCons (dVar 1) dNil)) dNil)))))
def F_law_pick : Fn := runB 2 p_law_pick
/-- _law_tests:  -/
def p_law_tests : DSt := (sRet (dLst (dCons (dTup (dCons (dC (.str "G1")) (dCons (dC (.str "G2")) dNil))) (dCons (dTup (dCons (dC (.str "G1")) (dCons (dC (.str "S1")) dNil))) (dCons (dTup (dCons (dC (.str "G1")) (dCons (dC (.str "S2")) dNil))) (dCons (dTup (dCons (dC (.str "G2")) (dCons (dC (.str "S1")) dNil))) (dCons (dTup (dCons (dC (.str "G2")) (dCons (dC (.str "S2")) dNil))) (dCons (dTup (dCons (dC (.str "S1")) (dCons (dC (.str "S2")) dNil))) dNil))))))))
def F_law_tests : Fn := runB 0 p_law_tests
/-- _law_words:  -/
def p_law_words : DSt := (sRet (dLst (dCons (dC (.str "got higher")) (dCons (dC (.str "got lower")) (dCons (dC (.str "sent higher")) (dCons (dC (.str "sent lower")) dNil))))))
def F_law_words : Fn := runB 0 p_law_words
/-- _law_manner: 0=deck, 1=notes, 2=word -/
def p_law_manner : DSt := (sSeq (sAsg (dCB cTuple (dCons (dComp [2] (dIter (dCall F_law_words dNil)) (gN 2) (tV (dBin oEq (dCall F_law_draw (dCons (dVar 0) (dCons (dC (.int 2)) dNil))) (dC (.int 0)))) (dVar 2)) dNil)) (gN 1))
  (sRet (dTup (dCons (dBin oEq (dCall F_law_draw (dCons (dVar 0) (dCons (dC (.int 2)) dNil))) (dC (.int 0))) (dCons (dVar 1) dNil)))))
def F_law_manner : Fn := runB 3 p_law_manner
/-- _law_book: 0=deck, 1=tests, 2=many, 3=one, 4=own, 5=machine -/
def p_law_book : DSt := (sSeq (sAsg (dCB cTuple (dCons (dComp [4] (dIter (dCall F_law_tests dNil)) (gN 4) (tV (dBin oEq (dCall F_law_draw (dCons (dVar 0) (dCons (dC (.int 3)) dNil))) (dC (.int 0)))) (dVar 4)) dNil)) (gN 1))
  (sSeq (sPar 2 3 (dCons (dBin oAdd (dC (.int 2)) (dCall F_law_draw (dCons (dVar 0) (dCons (dC (.int 5)) dNil)))) (dCons (dCall F_law_manner (dCons (dVar 0) dNil)) dNil)))
  (sSeq (sIf (tV (dBin oEq (dCall F_law_draw (dCons (dVar 0) (dCons (dC (.int 3)) dNil))) (dC (.int 0)))) (sRet (dTup (dCons (dVar 1) (dCons (dBin oMulB (dTup (dCons (dVar 3) dNil)) (dVar 2)) dNil)))) sNop)
  (sRet (dTup (dCons (dVar 1) (dCons (dCB cTuple (dCons (dComp [5] (dRng (dCons (dVar 2) dNil)) (gN 5) tTrue (dCall F_law_manner (dCons (dVar 0) dNil))) dNil)) dNil)))))))
def F_law_book : Fn := runB 6 p_law_book
/-- _law_text: 0=book, 1=found, 2=tests, 3=manners, 4=waits, 5=notes, 6=line, 7=one, 8=other -/
def p_law_text : DSt := (sSeq (sAsg (dVar 0) (gTup 2 (gCons (gN 2) (gCons (gN 3) gNil))))
  (sSeq (sAsg (dIf (tV (dBin oNe (dVar 2) (dTup dNil))) (dLst (dCons (dBin oAdd (dC (.str "tests ")) (dMtS mJoin (dC (.str ", ")) (dComp [7, 8] (dIter (dVar 2)) (gTup 2 (gCons (gN 7) (gCons (gN 8) gNil))) tTrue (dBin oAdd (dBin oAdd (dVar 7) (dC (.str "="))) (dVar 8))))) dNil)) (dLst (dCons (dC (.str "tests none")) dNil))) (gN 1))
  (sSeq (sFor (dIter (dVar 3)) (gTup 2 (gCons (gN 4) (gCons (gN 5) gNil)))
  (sSeq (sAsg (dIf (tTr (dVar 4)) (dC (.str "waits")) (dC (.str "any time"))) (gN 6))
  (sExpr (dMtL mAppend (dVar 1) (dCons (dIf (tV (dBin oNe (dVar 5) (dTup dNil))) (dBin oAdd (dBin oAdd (dVar 6) (dC (.str ": "))) (dMtS mJoin (dC (.str ", ")) (dVar 5))) (dVar 6)) dNil)))))
  (sRet (dMtS mJoin (dC (.str "\n")) (dVar 1))))))
def F_law_text : Fn := runB 9 p_law_text
/-- _law_is_right: 0=book, 1=is_named, 2=found, 3=read, 4=known, 5=due -/
def p_law_is_right : DSt := (sSeq (sPar 4 5 (dCons (dCB cRepr (dCons (dVar 0) dNil)) (dCons (dCall F_law_text (dCons (dVar 0) dNil)) dNil)))
  (sSeq (sAsg (dIf (tTr (dVar 1)) (dCallK F_book_text [0] dNil (dCons (dVar 0) dNil)) (dCall F_book_text (dCons (dVar 0) dNil))) (gN 2))
  (sSeq (sAsg (dIf (tTr (dVar 1)) (dCallK F_read_book [0] dNil (dCons (dVar 5) dNil)) (dCall F_read_book (dCons (dVar 5) dNil))) (gN 3))
  (sRet (dAnd (dBin oEq (dCB cRepr (dCons (dLst (dCons (dVar 2) (dCons (dCall F_book_text (dCons (dVar 0) dNil)) (dCons (dVar 3) (dCons (dVar 0) dNil))))) dNil)) (dCB cRepr (dCons (dLst (dCons (dVar 5) (dCons (dVar 5) (dCons (dVar 0) (dCons (dVar 0) dNil))))) dNil))) (dBin oEq (dCB cRepr (dCons (dVar 0) dNil)) (dVar 4)))))))
def F_law_is_right : Fn := runB 6 p_law_is_right
/-- _law_other: 0=deck, 1=book, 2=tests, 3=manners, 4=spot, 5=own, 6=test -/
def p_law_other : DSt := (sSeq (sAsg (dVar 1) (gTup 2 (gCons (gN 2) (gCons (gN 3) gNil))))
  (sSeq (sAsg (dTup (dCons (dCall F_law_draw (dCons (dVar 0) (dCons (dCB cLen (dCons (dVar 3) dNil)) dNil))) (dCons (dCall F_law_pick (dCons (dVar 0) (dCons (dCall F_law_tests dNil) dNil))) dNil))) (gTup 2 (gCons (gN 4) (gCons (gN 5) gNil))))
  (sSeq (sIf (tV (dBin oEq (dCall F_law_draw (dCons (dVar 0) (dCons (dC (.int 3)) dNil))) (dC (.int 0)))) (sRet (dTup (dCons (dCB cTuple (dCons (dComp [6] (dIter (dCall F_law_tests dNil)) (gN 6) (tV (dBin oNe (dBin oIn (dVar 6) (dVar 2)) (dBin oEq (dVar 6) (dVar 5)))) (dVar 6)) dNil)) (dCons (dVar 3) dNil)))) sNop)
  (sSeq (sIf (tV (dBin oEq (dCall F_law_draw (dCons (dVar 0) (dCons (dC (.int 3)) dNil))) (dC (.int 0)))) (sRet (dTup (dCons (dVar 2) (dCons (dIf (tV (dBin oGt (dCB cLen (dCons (dVar 3) dNil)) (dC (.int 2)))) (dSl (dVar 3) dPN (dPS (dNeg (dC (.int 1))))) (dBin oAdd (dVar 3) (dSl (dVar 3) dPN (dPS (dC (.int 1)))))) dNil)))) sNop)
  (sRet (dTup (dCons (dVar 2) (dCons (dBin oAdd (dBin oAdd (dSl (dVar 3) dPN (dPS (dVar 4))) (dTup (dCons (dCall F_law_manner (dCons (dVar 0) dNil)) dNil))) (dSl (dVar 3) (dPS (dBin oAdd (dVar 4) (dC (.int 1)))) dPN)) dNil))))))))
def F_law_other : Fn := runB 7 p_law_other
/-- law: 0=script, 1=deck, 2=turn, 3=many, 4=great, 5=book, 6=other -/
def p_law : DSt := (sSeq (sAsg (dCall F_law_deck (dCons (dVar 0) dNil)) (gN 1))
  (sSeq (sFor (dRng (dCons (dC (.int 14)) dNil)) (gN 2)
  (sSeq (sAsg (dCall F_law_book (dCons (dVar 1) dNil)) (gN 5))
  (sSeq (sAsg (dCall F_law_other (dCons (dVar 1) (dCons (dVar 5) dNil))) (gN 6))
  (sSeq (sIf (tOrD (tNotD (tTr (dCall F_law_is_right (dCons (dVar 5) (dCons (dBin oEq (dVar 2) (dC (.int 3))) dNil))))) (tNotD (tTr (dCall F_law_is_right (dCons (dVar 6) (dCons (dBin oEq (dVar 2) (dC (.int 5))) dNil)))))) (sRet (dC (.bl false))) sNop)
  (sIf (tV (dBin oNe (dBin oEq (dCall F_book_text (dCons (dVar 5) dNil)) (dCall F_book_text (dCons (dVar 6) dNil))) (dBin oEq (dCB cRepr (dCons (dVar 5) dNil)) (dCB cRepr (dCons (dVar 6) dNil))))) (sRet (dC (.bl false))) sNop)))))
  (sSeq (sAsg (dBin oAdd (dC (.int 2)) (dCall F_law_draw (dCons (dVar 1) (dCons (dC (.int 5)) dNil)))) (gN 3))
  (sSeq (sAsg (dTup (dCons (dCB cTuple (dCons (dCall F_law_tests dNil) dNil)) (dCons (dBin oMulA (dTup (dCons (dTup (dCons (dC (.bl false)) (dCons (dCB cTuple (dCons (dCall F_law_words dNil) dNil)) dNil))) dNil)) (dVar 3)) dNil))) (gN 4))
  (sRet (dAnd (dCall F_law_is_right (dCons (dVar 4) (dCons (dC (.bl false)) dNil))) (dCall F_law_is_right (dCons (dTup (dCons (dTup dNil) (dCons (dBin oMulA (dTup (dCons (dTup (dCons (dC (.bl true)) (dCons (dTup dNil) dNil))) dNil)) (dVar 3)) dNil))) (dCons (dC (.bl false)) dNil)))))))))
def F_law : Fn := runB 7 p_law
end Fk

namespace Fk
open PySem L2 PySem.Spec PyProof.Rows Den
/-! ### F. what the plain functions do -/
structure Deck (h : List Ob) (n m : Nat) : Prop where
  ne : n ≠ m
  ex : ∃ (s : Int) (xs : List Int), h[n]? = some (.dct [(.inr "deep", .ref m), (.inr "state", .int s)]) ∧ h[m]? = some (.lst (xs.map .int)) ∧ 0 ≤ s ∧ s < 2305843009213693951 ∧ (∀ x ∈ xs, 0 ≤ x) ∧ xs.length ≤ 63
theorem k_ds : (decide ((Sum.inr (Str.ofString "deep") : Key) = Sum.inr (Str.ofString "state"))) = false := by decide +kernel
theorem k_sd : (decide ((Sum.inr (Str.ofString "state") : Key) = Sum.inr (Str.ofString "deep"))) = false := by decide +kernel
theorem val_deep {m : Nat} {s : Int} : valD [(.inr (Str.ofString "deep"), .ref m), (.inr (Str.ofString "state"), .int s)] (.inr (Str.ofString "deep")) = some (.ref m) := by
  unfold valD; simp [List.find?]
theorem val_state {m : Nat} {s : Int} : valD [(.inr (Str.ofString "deep"), .ref m), (.inr (Str.ofString "state"), .int s)] (.inr (Str.ofString "state")) = some (.int s) := by
  unfold valD
  rw [List.find?_cons, k_ds]
  simp
theorem put_state {m : Nat} {s : Int} {d : D} : putD [(.inr (Str.ofString "deep"), .ref m), (.inr (Str.ofString "state"), .int s)] (.inr (Str.ofString "state")) d = [(.inr (Str.ofString "deep"), .ref m), (.inr (Str.ofString "state"), d)] := by
  unfold putD hasD
  have := of_decide_eq_false k_ds
  simp [this]
theorem put_deep {m : Nat} {s : Int} {d : D} : putD [(.inr (Str.ofString "deep"), .ref m), (.inr (Str.ofString "state"), .int s)] (.inr (Str.ofString "deep")) d = [(.inr (Str.ofString "deep"), d), (.inr (Str.ofString "state"), .int s)] := by
  unfold putD hasD
  have := of_decide_eq_false k_sd
  simp [this]
theorem ne_nil (S : DS) (xs : List Int) {m k : Nat} (hm : S.h[m]? = some (.lst (xs.map .int))) (hk : S.h[k]? = some (.lst [])) : oNe (.ref m) (.ref k) S = .ok (.bl (!xs.isEmpty)) S := by
  have e1 : pyD S (.ref m) = some (.list (xs.map .int)) := by
    show (match S.h[m]? with | some (.lst xs) => (xs.mapM (toPy S.h 19)).map PyData.list | _ => none) = _
    rw [hm]; dsimp only; rw [toPy_ints]; rfl
  have e2 : pyD S (.ref k) = some (.list []) := by
    show (match S.h[k]? with | some (.lst xs) => (xs.mapM (toPy S.h 19)).map PyData.list | _ => none) = _
    rw [hk]; rfl
  unfold oNe
  rw [e1, e2]
  dsimp only
  rw [if_pos (by rw [shaped_ints]; rfl)]
  cases xs <;> rfl
theorem draw_ok {h : List Ob} {n m : Nat} (dk : Deck h n m) {many : Int} (h1 : 1 ≤ many) (h2 : many < 1073741824) : Ok (F_law_draw [.ref n, .int many] h) fun d S => ∃ r, d = .int r ∧ 0 ≤ r ∧ r < many ∧ Deck S.h n m ∧ Kp n m h S.h := by
  have D0 := dk
  obtain ⟨ne, s, xs, hn, hm, s0, s1, x0, xl⟩ := dk
  have ln := lt_of_at hn
  have lm := lt_of_at hm
  apply ok_runB
  by_cases c : many < 2
  · simp [p_law_draw, c]
    exact ⟨h1, D0, Kp.refl _ _ _⟩
  · have hn2 := at_old (t := [.lst []]) hn
    have hm2 := at_old (t := [.lst []]) hm
    have q1 := ne_nil ⟨[some (.ref n), some (.int many), none, none, none], h ++ [.lst []]⟩ xs hm2 (at_new h _)
    rcases List.eq_nil_or_concat xs with hx | ⟨ys, y, hx⟩
    · subst hx
      simp at q1 hm
      simp [p_law_draw, c, hn, hm, q1, hn2, hm2, val_deep, val_state, put_state]
      have o0 : 0 ≤ (s * 1181783497276652981 + 88172645463325) % 2305843009213693951 := Int.emod_nonneg _ (by decide)
      have o1 : (s * 1181783497276652981 + 88172645463325) % 2305843009213693951 < 2305843009213693951 := Int.emod_lt_of_pos _ (by decide)
      generalize (s * 1181783497276652981 + 88172645463325) % 2305843009213693951 = one at o0 o1
      have o2 : -18446744073709551616 < one := by omega
      have o3 : one < 18446744073709551616 := by omega
      have o4 : 0 < many := by omega
      simp [o2, o3, o4]
      refine ⟨Int.emod_nonneg _ (by omega), Int.emod_lt_of_pos _ o4, ⟨ne, one, [], ?_, ?_, o0, o1, by simp, by simp⟩, ?_⟩
      · rw [List.getElem?_set_self (by simp; omega)]
      · rw [List.getElem?_set_ne ne]; exact hm2
      · intro k ob k1 k2 e
        rw [List.getElem?_set_ne (Ne.symm k1)]
        exact at_old e
    · rw [List.concat_eq_append] at hx
      subst hx
      have y0 : 0 ≤ y := x0 y (by simp)
      have o4 : 0 < many := by omega
      have g1 : ((h ++ [Ob.lst []]).set m (Ob.lst (ys.map D.int)))[n]? = some (.dct [(.inr "deep", .ref m), (.inr "state", .int s)]) := by
        rw [List.getElem?_set_ne (Ne.symm ne)]; exact hn2
      have g2 : ((h ++ [Ob.lst []]).set m (Ob.lst (ys.map D.int)))[m]? = some (.lst (ys.map D.int)) := by
        rw [List.getElem?_set_self (by simp; omega)]
      have yl : ys.length < 1000000 := by simp at xl; omega
      rw [show (ys ++ [y]).isEmpty = false by cases ys <;> rfl] at q1
      simp [p_law_draw, c, hn, hm, q1, hn2, hm2, val_deep, val_state, put_state]
      by_cases c2 : many ≤ y
      · simp [c2, g1, g2, val_deep, o4, h2, yl]
        refine ⟨Int.emod_nonneg _ (by omega), Int.emod_lt_of_pos _ o4, ⟨ne, s, ys ++ [y / many], ?_, ?_, s0, s1, ?_, ?_⟩, ?_⟩
        · rw [List.getElem?_set_ne (Ne.symm ne)]; exact hn2
        · rw [List.getElem?_set_self (by simp; omega)]; simp
        · intro x hx
          rcases List.mem_append.mp hx with hx | hx
          · exact x0 x (by simp [hx])
          · rw [List.mem_singleton.mp hx]; exact Int.ediv_nonneg y0 (by omega)
        · simp at xl ⊢; omega
        · intro k ob k1 k2 e
          rw [List.getElem?_set_ne (Ne.symm k2)]
          exact at_old e
      · simp [c2, o4]
        refine ⟨Int.emod_nonneg _ (by omega), Int.emod_lt_of_pos _ o4, ⟨ne, s, ys, g1, g2, s0, s1, ?_, ?_⟩, ?_⟩
        · exact fun x hx => x0 x (by simp [hx])
        · simp at xl ⊢; omega
        · intro k ob k1 k2 e
          rw [List.getElem?_set_ne (Ne.symm k2)]
          exact at_old e

theorem cut63 {ns : List Int} (hl : ns.length ≤ 63) : cutD (ns.map D.int) none (some 63) = ns.map D.int := by
  apply cut_whole
  rw [List.length_map]
  refine ⟨rfl, ?_⟩
  show (if (63 : Int) < 0 then ((63 : Int) + (ns.length : Int)).toNat else min (63 : Int).toNat ns.length) = ns.length
  rw [if_neg (by decide)]
  exact Nat.min_eq_right hl
def Dk (h : List Ob) (n w : Nat) (ns : List Int) (i : Nat) (S : DS) : Prop := ∃ (a2 a3 a4 : Option D) (m : Nat) (s : Int) (xs : List Int), S.loc = [some (.ro (ns.map D.int)), some (.ref n), a2, a3, a4] ∧ S.h[w]? = some (.lst (ns.map D.int)) ∧ n ≠ m ∧ w ≠ m ∧ n ≠ w ∧ S.h[n]? = some (.dct [(.inr "deep", .ref m), (.inr "state", .int s)]) ∧ S.h[m]? = some (.lst (xs.map D.int)) ∧ 0 ≤ s ∧ (∀ x ∈ xs, 0 ≤ x) ∧ xs.length ≤ i ∧ h.length ≤ n ∧ Kp0 h S.h ∧ s < 2305843009213693951
theorem merge_ds (m : Nat) (s : Int) : mergeD [] [(.inr (Str.ofString "deep"), .ref m), (.inr (Str.ofString "state"), .int s)] = [(.inr (Str.ofString "deep"), .ref m), (.inr (Str.ofString "state"), .int s)] := by
  show putD (putD [] (.inr (Str.ofString "deep")) (.ref m)) (.inr (Str.ofString "state")) (.int s) = _
  have := of_decide_eq_false k_ds
  simp [putD, hasD, this]
theorem deck_ok {ns : List Int} (hl : ns.length ≤ 63) (h : List Ob) : Ok (F_law_deck [.ro (ns.map D.int)] h) fun d S => ∃ n m, d = .ref n ∧ Deck S.h n m ∧ Kp0 h S.h := by
  apply ok_runB
  simp [p_law_deck, dDict, evPairs, keyPairs, keyOf, cut63 hl, at_new, sFor, dIter, iOf, merge_ds]
  apply ok_forO (Dk h (h.length + 2) (h.length + 3) ns) (ns.map D.int)
  · rw [List.length_map]; omega
  · refine ⟨none, none, none, h.length, _, [], rfl, by simp, by omega, by omega, by omega, by simp; rfl, by simp, by omega, by simp, by simp, by omega, Kp0.app _ _, by omega⟩
  · rintro i S ⟨_, _, _, _, _, _, _, e, _⟩
    exact e
  · rintro i d ⟨loc, hh⟩ hd ⟨a2, a3, a4, m, s, xs, rfl, hw, nm, wm, nw, hn, hm, s0, x0, xl, hln, kp, s1⟩
    dsimp only at hw hn hm kp
    obtain ⟨c, hc, rfl⟩ : ∃ c, ns[i]? = some c ∧ d = .int c := by
      rw [List.getElem?_map] at hd
      cases q : ns[i]? with
      | none => rw [q] at hd; cases hd
      | some c => rw [q] at hd; cases hd; exact ⟨c, rfl, rfl⟩
    refine ⟨_, rfl, ?_⟩
    simp [hn, hm, val_deep, val_state, put_deep, put_state]
    have ln := lt_of_at hn
    have lm := lt_of_at hm
    have lw := lt_of_at hw
    have w0 : 0 ≤ if c < 0 then -c else c := by split <;> omega
    generalize (if c < 0 then -c else c) = whole at w0
    have hk : ∀ k ob, h[k]? = some ob → k ≠ h.length + 2 := fun k ob e q => by have := lt_of_at e; omega
    by_cases big : 1000000000000000000 ≤ whole
    · have g1 : (hh ++ [Ob.lst [.int whole]])[h.length + 2]? = some (.dct [(.inr "deep", .ref m), (.inr "state", .int s)]) := at_old hn
      have g2 : (hh ++ [Ob.lst [.int whole]])[m]? = some (.lst (xs.map D.int)) := at_old hm
      have g3 : (hh ++ [Ob.lst [.int whole]])[hh.length]? = some (.lst [.int whole]) := at_new _ _
      have g4 : (hh ++ [Ob.lst [D.int whole], Ob.lst (D.int whole :: xs.map D.int)])[h.length + 2]? = some (.dct [(.inr "deep", .ref m), (.inr "state", .int s)]) := at_old hn
      have g5 : (hh ++ [Ob.lst [D.int whole], Ob.lst (D.int whole :: xs.map D.int)])[h.length + 3]? = some (.lst (ns.map D.int)) := at_old hw
      have li : i < ns.length := (List.getElem?_eq_some_iff.mp hc).1
      have e1 : 1 + xs.length ≤ 1000000 := by omega
      have g6 : ((hh ++ [Ob.lst [D.int whole], Ob.lst (D.int whole :: xs.map D.int)]).set (h.length + 2) (.dct [(.inr "deep", .ref (hh.length + 1)), (.inr "state", .int s)]))[h.length + 2]? = some (.dct [(.inr "deep", .ref (hh.length + 1)), (.inr "state", .int s)]) := List.getElem?_set_self (by simp; omega)
      simp [big, g1, g2, g3, g4, g6, val_deep, val_state, put_deep, put_state, e1]
      refine ⟨some (.int c), some (.int whole), _, hh.length + 1, _, whole :: xs, rfl, ?_, ?_, ?_, nw, List.getElem?_set_self (by simp; omega), ?_, ?_, ?_, ?_, hln, ?_, ?_⟩
      · rw [List.getElem?_set_ne (by omega)]; exact g5
      · omega
      · omega
      · rw [List.getElem?_set_ne (by omega), List.getElem?_append_right (by omega)]; simp
      · exact Int.emod_nonneg _ (by decide)
      · exact fun x hx => by
          rcases List.mem_cons.mp hx with rfl | hx
          · exact w0
          · exact x0 x hx
      · simp; omega
      · intro k ob e
        rw [List.getElem?_set_ne (Ne.symm (hk k ob e))]
        exact at_old (kp k ob e)
      · exact Int.emod_lt_of_pos _ (by decide)
    · simp [big, hn, val_state, put_state]
      refine ⟨some (.int c), some (.int whole), _, m, _, xs, rfl, ?_, nm, wm, nw, List.getElem?_set_self ln, ?_, ?_, x0, ?_, hln, ?_, ?_⟩
      · rw [List.getElem?_set_ne (by omega)]; exact hw
      · rw [List.getElem?_set_ne nm]; exact hm
      · exact Int.emod_nonneg _ (by decide)
      · omega
      · intro k ob e
        rw [List.getElem?_set_ne (Ne.symm (hk k ob e))]
        exact kp k ob e
      · exact Int.emod_lt_of_pos _ (by decide)
  · rintro ⟨loc, hh⟩ ⟨a2, a3, a4, m, s, xs, rfl, hw, nm, wm, nw, hn, hm, s0, x0, xl, hln, kp, s1⟩
    dsimp only at hw hn hm kp
    rw [List.length_map] at xl
    simp
    exact ⟨⟨m, nm, s, xs, hn, hm, s0, s1, x0, by omega⟩, kp⟩

theorem Deck.keep {h h' : List Ob} {n m : Nat} (dk : Deck h n m) (k : Kp0 h h') : Deck h' n m := by
  obtain ⟨ne, s, xs, hn, hm, r⟩ := dk
  exact ⟨ne, s, xs, k _ _ hn, k _ _ hm, r⟩
theorem Deck.lst {h : List Ob} {n m k : Nat} {xs : List D} (dk : Deck h n m) (hk : h[k]? = some (.lst xs)) : k ≠ n := by
  obtain ⟨ne, s, ys, hn, hm, r⟩ := dk
  rintro rfl
  rw [hn] at hk; cases hk
theorem pick_ok {h : List Ob} {n m k : Nat} (dk : Deck h n m) {xs : List D} (hk : h[k]? = some (.lst xs)) (km : k ≠ m) (h1 : 1 ≤ xs.length) (h2 : xs.length < 1000000) : Ok (F_law_pick [.ref n, .ref k] h) fun d S => d ∈ xs ∧ Deck S.h n m ∧ Kp n m h S.h := by
  apply ok_runB
  obtain ⟨d1, S1, e1, r, rfl, r0, r1, D1, k1⟩ := (draw_ok dk (many := xs.length) (by omega) (by omega)).ex
  obtain ⟨d, hd, hm⟩ := atI_nat r0 r1
  have hk1 := k1 k _ (dk.lst hk) km hk
  simp [p_law_pick, hk, e1, hk1, hd]
  exact ⟨hm, D1, k1⟩
end Fk

namespace Fk
open PySem L2 PySem.Spec PyProof.Rows Den
/-! ### G. books -/
def subs {α : Type} : List α → List (List α)
  | [] => [[]]
  | x :: xs => subs xs ++ (subs xs).map (fun s => x :: s)
theorem subs_cons {α : Type} {x : α} {xs s : List α} (h : s ∈ subs xs) : s ∈ subs (x :: xs) ∧ x :: s ∈ subs (x :: xs) :=
  ⟨List.mem_append.mpr (.inl h), List.mem_append.mpr (.inr (List.mem_map.mpr ⟨s, h, rfl⟩))⟩
theorem subs_nil {α : Type} : ∀ xs : List α, [] ∈ subs xs
  | [] => by simp [subs]
  | x :: xs => (subs_cons (subs_nil xs)).1
abbrev Ts := Str × Str
abbrev Mn := Bool × List Str
def six : List Ts := [("G1", "G2"), ("G1", "S1"), ("G1", "S2"), ("G2", "S1"), ("G2", "S2"), ("S1", "S2")]
def four : List Str := ["got higher", "got lower", "sent higher", "sent lower"]
def testD (t : Ts) : D := .tup [.str t.1, .str t.2]
def manD (m : Mn) : D := .tup [.bl m.1, .tup (m.2.map .str)]
def testS (t : Ts) : Str := t.1 ++ Str.ofString "=" ++ t.2
def testsL (T : List Ts) : Str := if T.isEmpty then Str.ofString "tests none" else Str.ofString "tests " ++ Str.join (Str.ofString ", ") (T.map testS)
def headS (w : Bool) : Str := if w then Str.ofString "waits" else Str.ofString "any time"
def manL (m : Mn) : Str := if m.2.isEmpty then headS m.1 else headS m.1 ++ Str.ofString ": " ++ Str.join (Str.ofString ", ") m.2
def bookT (T : List Ts) (ms : List Mn) : Str := Str.join (Str.ofString "\n") (testsL T :: ms.map manL)
def bookD (T : List Ts) (ms : List Mn) : D := .tup [.tup (T.map testD), .tup (ms.map manD)]
structure Bk (T : List Ts) (ms : List Mn) : Prop where
  t : T ∈ subs six
  m : ∀ x ∈ ms, x.2 ∈ subs four
  l2 : 2 ≤ ms.length
  l6 : ms.length ≤ 6
/-! what is reckoned once for all -/
def tB (T : List Ts) : Bool := ascB' (testsL T) && decide ((testsL T).length ≤ 60) && decide (10 ∉ (testsL T).cps.toList) && joinOk (Str.ofString ", ") (T.map testS) && decide ((Str.ofString "tests ").length + (Str.join (Str.ofString ", ") (T.map testS)).length ≤ 1000000)
  where ascB' (x : Str) : Bool := x.cps.toList.all (fun c => decide (c < 128))
def mB (m : Mn) : Bool := tB.ascB' (manL m) && decide ((manL m).length ≤ 60) && decide (10 ∉ (manL m).cps.toList) && joinOk (Str.ofString ", ") m.2 && decide ((headS m.1).length + 2 ≤ 100) && decide ((headS m.1 ++ Str.ofString ": ").length + (Str.join (Str.ofString ", ") m.2).length ≤ 1000000)
theorem tB_all : (subs six).all tB = true := by decide +kernel
theorem mB_all : ((subs four).all fun n => mB (true, n) && mB (false, n)) = true := by decide +kernel
theorem t_ok {T : List Ts} (h : T ∈ subs six) : Asc (testsL T) ∧ (testsL T).length ≤ 60 ∧ 10 ∉ (testsL T).cps.toList ∧ joinOk (Str.ofString ", ") (T.map testS) = true ∧ (Str.ofString "tests ").length + (Str.join (Str.ofString ", ") (T.map testS)).length ≤ 1000000 := by
  have := List.all_eq_true.mp tB_all T h
  unfold tB at this
  simp only [Bool.and_eq_true, decide_eq_true_eq] at this
  exact ⟨asc_of this.1.1.1.1, this.1.1.1.2, this.1.1.2, this.1.2, this.2⟩
theorem m_ok {m : Mn} (h : m.2 ∈ subs four) : Asc (manL m) ∧ (manL m).length ≤ 60 ∧ 10 ∉ (manL m).cps.toList ∧ joinOk (Str.ofString ", ") m.2 = true ∧ (headS m.1).length + 2 ≤ 100 ∧ (headS m.1 ++ Str.ofString ": ").length + (Str.join (Str.ofString ", ") m.2).length ≤ 1000000 := by
  have := List.all_eq_true.mp mB_all m.2 h
  rw [Bool.and_eq_true] at this
  have hb : mB m = true := by
    obtain ⟨w, n⟩ := m
    cases w
    · exact this.2
    · exact this.1
  unfold mB at hb
  simp only [Bool.and_eq_true, decide_eq_true_eq] at hb
  exact ⟨asc_of hb.1.1.1.1.1, hb.1.1.1.1.2, hb.1.1.1.2, hb.1.1.2, hb.1.2, hb.2⟩
theorem nl_len : (Str.ofString "\n").length = 1 := by decide +kernel
theorem bookJ {T : List Ts} {ms : List Mn} (b : Bk T ms) : joinOk (Str.ofString "\n") (testsL T :: ms.map manL) = true ∧ (bookT T ms).length ≤ 1000 ∧ Asc (bookT T ms) := by
  obtain ⟨a1, a2, _⟩ := t_ok b.t
  have gl : ∀ u ∈ ms.map manL, Asc u ∧ u.length ≤ 60 := by
    intro u h
    obtain ⟨m, hm, rfl⟩ := List.mem_map.mp h
    obtain ⟨c1, c2, _⟩ := m_ok (b.m m hm)
    exact ⟨c1, c2⟩
  have l1 := lenS_le (n := 60) fun u hu => (gl u hu).2
  rw [List.length_map] at l1
  have l6 := b.l6
  have l2 : lenS (testsL T :: ms.map manL) = (testsL T).length + lenS (ms.map manL) := rfl
  have j1 := join_len (Str.ofString "\n") (testsL T :: ms.map manL)
  rw [nl_len, List.length_cons, List.length_map] at j1
  refine ⟨joinOk_of (by rw [nl_len, List.length_cons, List.length_map]; omega), by unfold bookT; omega, asc_join (asc_of (by decide +kernel)) fun u hu => ?_⟩
  rcases List.mem_cons.mp hu with rfl | hu
  · exact a1
  · exact (gl u hu).1
/-! writing -/
def joinE (d : D) : Option D := match d with
  | .tup [.str a, .str b] => some (.str (a ++ Str.ofString "=" ++ b))
  | _ => none
theorem joinE_all : ∀ T : List Ts, (T.map testD).filterMap joinE = (T.map testS).map D.str
  | [] => rfl
  | t :: T => by
    rw [List.map_cons, List.filterMap_cons, joinE_all T]; rfl
theorem eq_len : (Str.ofString "=").length = 1 := by decide +kernel
theorem six_len {T : List Ts} (h : T ∈ subs six) : T.length ≤ 6 ∧ ∀ t ∈ T, t ∈ six := by
  have gen : ∀ (l : List Ts) (T : List Ts), T ∈ subs l → T.length ≤ l.length ∧ ∀ t ∈ T, t ∈ l := by
    intro l
    induction l with
    | nil =>
      intro T h
      have : T = [] := by simpa [subs] using h
      subst this; exact ⟨Nat.le_refl _, fun _ h => (nomatch h)⟩
    | cons x xs ih =>
      intro T h
      rcases List.mem_append.mp h with h | h
      · obtain ⟨h1, h2⟩ := ih T h
        exact ⟨by simp; omega, fun t ht => List.mem_cons_of_mem _ (h2 t ht)⟩
      · obtain ⟨s, hs, rfl⟩ := List.mem_map.mp h
        obtain ⟨h1, h2⟩ := ih s hs
        exact ⟨by simp; omega, fun t ht => by
          rcases List.mem_cons.mp ht with rfl | ht
          · exact List.mem_cons_self
          · exact List.mem_cons_of_mem _ (h2 t ht)⟩
  exact gen six T h
theorem six_each {t : Ts} (h : t ∈ six) : t.1.length = 2 ∧ t.2.length = 2 ∧ Good t.1 ∧ Good t.2 := by
  unfold six at h
  simp only [List.mem_cons, List.not_mem_nil, or_false] at h
  rcases h with rfl | rfl | rfl | rfl | rfl | rfl <;> exact ⟨by decide +kernel, by decide +kernel, good_of (by decide +kernel), good_of (by decide +kernel)⟩
theorem tests_line_ok {T : List Ts} (hT : T ∈ subs six) (h : List Ob) : Ok (F_tests_line [.tup (T.map testD)] h) fun d S => d = .str (testsL T) ∧ Kp0 h S.h := by
  apply ok_runB
  obtain ⟨l6, mem⟩ := six_len hT
  obtain ⟨_, _, _, jo, q⟩ := t_ok hT
  have c : dComp [1] (dIter (dVar 0)) (gN 1) tTrue (dMtS mJoin (dC (.str "=")) (dVar 1)) ⟨[some (.tup (T.map testD)), none], h⟩ = _ :=
    comp_pure joinE (iter_tup (xs := T.map testD) rfl) rfl (by rw [List.length_map]; omega) fun d hd => by
      obtain ⟨t, ht, rfl⟩ := List.mem_map.mp hd
      obtain ⟨e1, e2, _⟩ := six_each (mem t ht)
      refine ⟨_, rfl, ?_⟩
      have js : strsOf [D.str t.1, D.str t.2] = some [t.1, t.2] := rfl
      have jo : joinOk (Str.ofString "=") [t.1, t.2] = true := joinOk_of (by
        show t.1.length + (t.2.length + 0) + 2 * (Str.ofString "=").length ≤ 1000000
        rw [e1, e2, eq_len]; decide)
      simp [joinE, testD, js, jo, tjoin, Str.join]
  rw [joinE_all] at c
  have js : strsOf ((T.map testS).map D.str) = some (T.map testS) := strsOf_map _
  cases hz : T.isEmpty with
  | true =>
    have : T = [] := List.isEmpty_iff.mp hz
    subst this
    simp [p_tests_line, g_NO_TESTS, testsL]
    exact Kp0.refl _
  | false =>
    have hne : T ≠ [] := by intro z; rw [z] at hz; cases hz
    simp [p_tests_line, g_TESTS_HEAD, hne, c, js, jo, tjoin, q, testsL, hz, -List.map_map]
    exact Kp0.app _ _
theorem man_line_ok {m : Mn} (hm : m.2 ∈ subs four) (h : List Ob) : F_manner_line [manD m] h = .ok (.str (manL m)) ⟨[], h⟩ := by
  obtain ⟨_, _, _, jo, hl, q⟩ := m_ok hm
  have js : strsOf (m.2.map D.str) = some m.2 := strsOf_map _
  have a : ∀ S : DS, sAsg (dVar 0) (gTup 2 (gCons (gN 2) (gCons (gN 3) gNil))) ⟨[some (manD m), none, none, none], S.h⟩ = .ok .next ⟨[some (manD m), none, some (.bl m.1), some (.tup (m.2.map .str))], S.h⟩ := fun S => rfl
  obtain ⟨w, ns⟩ := m
  have e2 : (Str.ofString ": ").length = 2 := by decide +kernel
  have q1 : (headS w).length + (Str.ofString ": ").length ≤ 1000000 := by rw [e2]; dsimp only at hl; omega
  dsimp only at js jo q
  cases hz : ns.isEmpty with
  | true =>
    have : ns = [] := List.isEmpty_iff.mp hz
    subst this
    refine runB_ret (S := ⟨[some (manD (w, [])), some (.str (headS w)), some (.bl w), some (.tup [])], h⟩) ?_
    have a' := a ⟨[], h⟩
    cases w <;> simp [p_manner_line, a', manL, headS, g_WAITS, g_ANY_TIME] at a' ⊢ <;> simp [a']
  | false =>
    have hne : ns ≠ [] := by intro z; rw [z] at hz; cases hz
    refine runB_ret (S := ⟨[some (manD (w, ns)), some (.str (headS w)), some (.bl w), some (.tup (ns.map .str))], h⟩) ?_
    have a' := a ⟨[], h⟩
    cases w <;> simp [headS] at q q1 <;> simp [p_manner_line, a', manL, headS, g_WAITS, g_ANY_TIME, hne, hz, js, jo, tjoin, q, q1]
end Fk

namespace Fk
open PySem L2 PySem.Spec PyProof.Rows Den
/-! ### H. reading -/
theorem bls_map' : ∀ bs : List Bool, blsOf (bs.map D.bl) = some bs
  | [] => rfl
  | b :: bs => by
    show (blsOf (bs.map D.bl)).map (fun z => b :: z) = _
    rw [bls_map' bs]; rfl
def testP (t : Ts) : PyData := .tuple [.str t.1, .str t.2]
theorem toPy_test (h : List Ob) (n : Nat) (t : Ts) : toPy h (n + 1) (testD t) = some (testP t) := by
  show ([D.str t.1, D.str t.2].mapM (toPy h n)).map PyData.tuple = _
  cases n <;> rfl
theorem toPy_tests (h : List Ob) (n : Nat) : ∀ T : List Ts, (T.map testD).mapM (toPy h (n + 1)) = some (T.map testP)
  | [] => rfl
  | t :: T => by
    rw [List.map_cons, List.mapM_cons, toPy_test, toPy_tests h n T]; rfl
theorem py_test (S : DS) (t : Ts) : pyD S (testD t) = some (testP t) := toPy_test S.h 19 t
def ltB (p q : PyData) : Bool := PySem.W.alike p q && notNone p && decide (p.depth ≤ 64) && PySem.W.dataLt p q
theorem ltA_of {S : DS} {x y : D} {p q : PyData} (h1 : pyD S x = some p) (h2 : pyD S y = some q) (h : ltB p q = true) : oLtA x y S = .ok (.bl true) S := by
  unfold ltB at h
  rw [Bool.and_eq_true] at h
  unfold oLtA
  rw [h1, h2]
  dsimp only
  rw [h.1, if_pos rfl, h.2]
theorem ascT : ((subs six).all fun T => (T.zip (T.drop 1)).all fun p => ltB (testP p.1) (testP p.2)) = true := by decide +kernel
theorem ascW : ((subs four).all fun T => (T.zip (T.drop 1)).all fun p => ltB (.str p.1) (.str p.2)) = true := by decide +kernel
theorem cut_d1 (xs : List D) : Den.cutD xs (some 1) none = xs.drop 1 := by
  cases xs with
  | nil => rfl
  | cons x xs => rw [cut_tl]; rfl
theorem asc_ok {α : Type} (f : α → D) (xs : List α) (hl : xs.length ≤ 1000) (lt : ∀ p ∈ xs.zip (xs.drop 1), ∀ S, oLtA (f p.1) (f p.2) S = .ok (.bl true) S) (h : List Ob) : Ok (F_is_ascending [.tup (xs.map f)] h) fun d S => d = .bl true ∧ Kp0 h S.h := by
  apply ok_runB
  have z : zipD (xs.map f) ((xs.map f).drop 1) = (xs.zip (xs.drop 1)).map fun p => .tup [f p.1, f p.2] := by
    unfold zipD
    rw [← List.map_drop, List.zip_map, List.map_map]
    rfl
  have it : dZip (dCons (dVar 0) (dCons (dSl (dVar 0) (dPS (dC (.int 1))) dPN) dNil)) ⟨[some (.tup (xs.map f)), none, none], h⟩ = .ok (.vals ((xs.zip (xs.drop 1)).map fun p => .tup [f p.1, f p.2])) ⟨[some (.tup (xs.map f)), none, none], h⟩ := by
    unfold dZip
    simp [cut_d1]
    simpa using z
  have c : dComp [1, 2] (dZip (dCons (dVar 0) (dCons (dSl (dVar 0) (dPS (dC (.int 1))) dPN) dNil))) (gTup 2 (gCons (gN 1) (gCons (gN 2) gNil))) tTrue (dBin oLtA (dVar 1) (dVar 2)) ⟨[some (.tup (xs.map f)), none, none], h⟩ = _ :=
    comp_pure (fun _ => some (.bl true)) it rfl (by rw [List.length_map, List.length_zip, List.length_drop]; omega) fun d hd => by
      obtain ⟨p, hp, rfl⟩ := List.mem_map.mp hd
      refine ⟨_, rfl, ?_⟩
      simp [lt p hp]
  have e : ((xs.zip (xs.drop 1)).map fun p => D.tup [f p.1, f p.2]).filterMap (fun _ => some (D.bl true)) = ((xs.zip (xs.drop 1)).map fun _ => true).map D.bl := by
    rw [fm_some, List.map_map, List.map_map]; rfl
  rw [e] at c
  have al : ((xs.zip (xs.drop 1)).map fun _ => true).all id = true := by
    rw [List.all_map, List.all_eq_true]
    intro _ _; rfl
  simp [p_is_ascending, c, bls_map', al, -List.map_map, -List.all_map]
  exact Kp0.app _ _
end Fk

namespace Fk
open PySem L2 PySem.Spec PyProof.Rows Den
theorem asc_tests {T : List Ts} (hT : T ∈ subs six) (h : List Ob) : Ok (F_is_ascending [.tup (T.map testD)] h) fun d S => d = .bl true ∧ Kp0 h S.h :=
  asc_ok testD T (by have := (six_len hT).1; omega) (fun p hp S => ltA_of (py_test S p.1) (py_test S p.2) (List.all_eq_true.mp (List.all_eq_true.mp ascT T hT) p hp)) h
theorem four_len {N : List Str} (h : N ∈ subs four) : N.length ≤ 4 ∧ ∀ t ∈ N, t ∈ four := by
  have gen : ∀ (l T : List Str), T ∈ subs l → T.length ≤ l.length ∧ ∀ t ∈ T, t ∈ l := by
    intro l
    induction l with
    | nil =>
      intro T h
      have : T = [] := by simpa [subs] using h
      subst this; exact ⟨Nat.le_refl _, fun _ h => (nomatch h)⟩
    | cons x xs ih =>
      intro T h
      rcases List.mem_append.mp h with h | h
      · obtain ⟨h1, h2⟩ := ih T h
        exact ⟨by simp; omega, fun t ht => List.mem_cons_of_mem _ (h2 t ht)⟩
      · obtain ⟨s, hs, rfl⟩ := List.mem_map.mp h
        obtain ⟨h1, h2⟩ := ih s hs
        exact ⟨by simp; omega, fun t ht => by
          rcases List.mem_cons.mp ht with rfl | ht
          · exact List.mem_cons_self
          · exact List.mem_cons_of_mem _ (h2 t ht)⟩
  exact gen four N h
theorem asc_words {N : List Str} (hN : N ∈ subs four) (h : List Ob) : Ok (F_is_ascending [.tup (N.map D.str)] h) fun d S => d = .bl true ∧ Kp0 h S.h :=
  asc_ok D.str N (by have := (four_len hN).1; omega) (fun p hp S => ltA_of (z_pyS S p.1) (z_pyS S p.2) (List.all_eq_true.mp (List.all_eq_true.mp ascW N hN) p hp)) h
def sixP : List PyData := six.map testP
theorem in_sixB : (six.all fun t => SeqAt.shaped (testP t) && SeqAt.shaped (.tuple sixP) && (sixP.any fun z => PyData.eqv z (testP t))) = true := by decide +kernel
theorem in_six {t : Ts} (ht : t ∈ six) (S : DS) : oNotIn (testD t) g_TESTS S = .ok (.bl false) S := by
  have hb := List.all_eq_true.mp in_sixB t ht
  simp only [Bool.and_eq_true] at hb
  have e : inD (testD t) g_TESTS S = some true := by
    show (match pyD S (testD t), (six.map testD).mapM (pyD S) with
      | some p, some ps => if SeqAt.shaped p && SeqAt.shaped (.tuple ps) then some (ps.any fun z => PyData.eqv z p) else none
      | _, _ => none) = some true
    have e2 : (six.map testD).mapM (pyD S) = some sixP := toPy_tests S.h 19 six
    rw [py_test, e2]
    dsimp only
    rw [hb.1.1, hb.1.2, if_pos (by rfl), hb.2]
  unfold oNotIn
  rw [e]; rfl
theorem tests_error_ok {T : List Ts} (hT : T ∈ subs six) (h : List Ob) : Ok (F_tests_error [.tup (T.map testD)] h) fun d S => d = .non ∧ Kp0 h S.h := by
  apply ok_runB
  obtain ⟨l6, mem⟩ := six_len hT
  obtain ⟨d2, S2, q2, rfl, k2⟩ := (asc_tests hT h).ex
  have it : dEnumT (dCons (dVar 0) dNil) ⟨[some (.tup (T.map testD)), none, none], h⟩ = .ok (.vals (numD 0 (T.map testD))) ⟨[some (.tup (T.map testD)), none, none], h⟩ := rfl
  show Ok (p_tests_error ⟨[some (.tup (T.map testD)), none, none], h⟩) _
  unfold p_tests_error
  rw [z_seq, sFor_vals it]
  refine ok_forV (fun S => (∃ a1 a2, S.loc = [some (.tup (T.map testD)), a1, a2]) ∧ S.h = h) ⟨⟨_, _, rfl⟩, rfl⟩ ?_ ?_
  · rintro d hd ⟨loc, h'⟩ ⟨⟨a1, a2, rfl⟩, rfl⟩
    obtain ⟨i, hi, rfl⟩ := List.getElem_of_mem hd
    obtain ⟨x, hx, e⟩ := numD_get (List.getElem?_eq_getElem hi)
    rw [e]
    obtain ⟨t, ht, rfl⟩ := List.mem_map.mp (List.mem_of_getElem? hx)
    refine ⟨_, g_two 1 2 _ _ _, ?_⟩
    simp [in_six (mem t ht)]
  · rintro ⟨loc, h'⟩ ⟨⟨a1, a2, rfl⟩, rfl⟩
    simp [q2]
    exact k2
def rB (T : List Ts) : Bool := T.isEmpty || (!(testsL T == Str.ofString "tests none") && Txt.startswith (testsL T) (Str.ofString "tests ") && (Txt.split (cutS (testsL T) (some 6) none) (Str.ofString ", ") == T.map testS))
theorem rB_all : (subs six).all rB = true := by decide +kernel
def sB (t : Ts) : Bool := Txt.split (testS t) (Str.ofString "=") == [t.1, t.2]
theorem sB_all : six.all sB = true := by decide +kernel
theorem th_len : (Str.ofString "tests ").length = 6 := by decide +kernel
theorem cm_len : (Str.ofString ", ").length = 2 := by decide +kernel
def spF (d : D) : D := match d with
  | .str s => .tup ((Txt.split s (Str.ofString "=")).map D.str)
  | _ => .non
theorem spF_all : ∀ {T : List Ts}, (∀ t ∈ T, t ∈ six) → ((T.map testS).map D.str).map spF = T.map testD
  | [], _ => rfl
  | t :: T, h => by
    have e : Txt.split (testS t) (Str.ofString "=") = [t.1, t.2] := by
      have := List.all_eq_true.mp sB_all t (h t (by simp))
      unfold sB at this
      exact eq_of_beq this
    rw [List.map_cons, List.map_cons, List.map_cons, spF_all fun t' ht => h t' (List.mem_cons_of_mem _ ht), List.map_cons]
    congr 1
    show D.tup ((Txt.split (testS t) (Str.ofString "=")).map D.str) = _
    rw [e]; rfl
theorem tests_of_ok {T : List Ts} (hT : T ∈ subs six) (h : List Ob) : Ok (F_tests_of [.str (testsL T)] h) fun d S => d = .tup (T.map testD) ∧ Kp0 h S.h := by
  apply ok_runB
  obtain ⟨l6, mem⟩ := six_len hT
  obtain ⟨at_, lt, _⟩ := t_ok hT
  have gT := at_.good.shaped
  have gNT := (good_of (show goodB (Str.ofString "tests none") = true by decide +kernel)).shaped
  cases hz : T.isEmpty with
  | true =>
    have : T = [] := List.isEmpty_iff.mp hz
    subst this
    simp [p_tests_of, g_NO_TESTS, testsL, eq_str gNT gNT]
    exact Kp0.refl _
  | false =>
    have rb := List.all_eq_true.mp rB_all T hT
    unfold rB at rb
    rw [hz, Bool.false_or] at rb
    simp only [Bool.and_eq_true, Bool.not_eq_true'] at rb
    obtain ⟨⟨r1, r2⟩, r3⟩ := rb
    have r3 := eq_of_beq r3
    have l1 : (testsL T).length ≤ 1000000 := by omega
    have l2 := len_cut (testsL T) (some 6) none
    have l3 : (cutS (testsL T) (some 6) none).length + 2 ≤ 1000000 := by omega
    have it : dIter (dMtS mSplit (dSl (dVar 0) (dPS (dCB cLen (dCons (dC g_TESTS_HEAD) dNil))) dPN) (dC (.str ", "))) ⟨[some (.str (testsL T)), none, none], h⟩ = .ok (.dyn (lstIt h.length)) ⟨[some (.str (testsL T)), none, none], h ++ [Ob.lst ((T.map testS).map D.str)]⟩ :=
      iter_ref (xs := (T.map testS).map D.str) (by simp [g_TESTS_HEAD, th_len, l1, cm_len, l3, r3, -List.map_map]) (at_new _ _)
    obtain ⟨h2, c, k2⟩ := comp_F (vs := [2]) (g := gN 2) (e := dCB cTuple (dCons (dMtS mSplit (dVar 2) (dC (.str "="))) dNil)) spF (fun h' => Kp0 (h ++ [Ob.lst ((T.map testS).map D.str)]) h') it (fun h' k => over_lst (k _ _ (at_new _ _))) (by simp; omega) (Kp0.refl _) (by
      rintro d hd h' k2
      obtain ⟨s, hs, rfl⟩ := List.mem_map.mp hd
      obtain ⟨t, ht, rfl⟩ := List.mem_map.mp hs
      obtain ⟨e1, e2, _⟩ := six_each (mem t ht)
      have ls : (testS t).length + 2 ≤ 1000000 := by
        unfold testS
        rw [len_app, len_app, e1, e2, eq_len]; decide
      refine ⟨_, rfl, ?_⟩
      simp [eq_len, ls, spF, -List.map_map]
      exact k2.trans (Kp0.app _ _))
    rw [spF_all mem] at c
    obtain ⟨d3, S3, q3, rfl, k3⟩ := (tests_error_ok hT (h2 ++ [Ob.lst (T.map testD)])).ex
    simp [p_tests_of, g_NO_TESTS, eq_str gT gNT, r1, g_TESTS_HEAD, r2]
    simp only [g_TESTS_HEAD] at c
    simp [c, q3, Den.isNon]
    exact (((Kp0.app _ _).trans k2).trans (Kp0.app _ _)).trans k3
end Fk

namespace Fk
open PySem L2 PySem.Spec PyProof.Rows Den
theorem four_good {t : Str} (h : t ∈ four) : Good t := by
  unfold four at h
  simp only [List.mem_cons, List.not_mem_nil, or_false] at h
  rcases h with rfl | rfl | rfl | rfl <;> exact good_of (by decide +kernel)
theorem notes_tup : g_NOTES = .tup (four.map D.str) := rfl
theorem is_notes_ok {N : List Str} (hN : N ∈ subs four) (h : List Ob) : Ok (F_is_notes [.tup (N.map D.str)] h) fun d S => d = .bl true ∧ Kp0 h S.h := by
  apply ok_runB
  obtain ⟨l4, mem⟩ := four_len hN
  have c : dComp [1] (dIter (dVar 0)) (gN 1) tTrue (dBin oIn (dVar 1) (dC g_NOTES)) ⟨[some (.tup (N.map D.str)), none], h⟩ = _ :=
    comp_pure (fun _ => some (.bl true)) (iter_tup (xs := N.map D.str) rfl) rfl (by rw [List.length_map]; omega) fun d hd => by
      obtain ⟨t, ht, rfl⟩ := List.mem_map.mp hd
      have a : (four.any fun u => u == t) = true := List.any_eq_true.mpr ⟨t, mem t ht, by simp⟩
      refine ⟨_, rfl, ?_⟩
      simp [notes_tup, oIn_strs (four_good (mem t ht)) (fun u hu => four_good hu), a, -List.any_eq_true]
  have e : (N.map D.str).filterMap (fun _ => some (D.bl true)) = (N.map fun _ => true).map D.bl := by
    rw [fm_some, List.map_map, List.map_map]; rfl
  rw [e] at c
  have al : (N.map fun _ => true).all id = true := by
    rw [List.all_map, List.all_eq_true]
    intro _ _; rfl
  obtain ⟨d2, S2, q2, rfl, k2⟩ := (asc_words hN (h ++ [Ob.lst ((N.map fun _ => true).map D.bl)])).ex
  have it : isaB "tuple" "tuple" = some true := by decide
  simp [p_is_notes, it, c, bls_map', al, q2, -List.map_map, -List.all_map]
  exact (Kp0.app _ _).trans k2
def mR (m : Mn) : Bool := (Txt.partition (manL m) (Str.ofString ": ")).1 == headS m.1 && (Txt.partition (manL m) (Str.ofString ": ")).2.1 == (if m.2.isEmpty then ⟨#[]⟩ else Str.ofString ": ") && decide ((Txt.partition (manL m) (Str.ofString ": ")).2.2.length ≤ 100) && (m.2.isEmpty || Txt.split (Txt.partition (manL m) (Str.ofString ": ")).2.2 (Str.ofString ", ") == m.2)
theorem mR_all : ((subs four).all fun n => mR (true, n) && mR (false, n)) = true := by decide +kernel
theorem m_back {m : Mn} (h : m.2 ∈ subs four) : (Txt.partition (manL m) (Str.ofString ": ")).1 = headS m.1 ∧ (Txt.partition (manL m) (Str.ofString ": ")).2.1 = (if m.2.isEmpty then ⟨#[]⟩ else Str.ofString ": ") ∧ (Txt.partition (manL m) (Str.ofString ": ")).2.2.length ≤ 100 ∧ (m.2.isEmpty = false → Txt.split (Txt.partition (manL m) (Str.ofString ": ")).2.2 (Str.ofString ", ") = m.2) := by
  have := List.all_eq_true.mp mR_all m.2 h
  rw [Bool.and_eq_true] at this
  have hb : mR m = true := by
    obtain ⟨w, n⟩ := m
    cases w
    · exact this.2
    · exact this.1
  unfold mR at hb
  simp only [Bool.and_eq_true, decide_eq_true_eq] at hb
  refine ⟨eq_of_beq hb.1.1.1, eq_of_beq hb.1.1.2, hb.1.2, fun e => ?_⟩
  have := hb.2
  rw [e, Bool.false_or] at this
  exact eq_of_beq this
theorem wa_good : Good (Str.ofString "waits") := good_of (by decide +kernel)
theorem an_good : Good (Str.ofString "any time") := good_of (by decide +kernel)
theorem col_len : (Str.ofString ": ").length = 2 := by decide +kernel
theorem wt_ne : (Str.ofString "any time" == Str.ofString "waits") = false := by decide +kernel
theorem tw_ne : (Str.ofString "waits" == Str.ofString "any time") = false := by decide +kernel
theorem head_good (w : Bool) : Good (headS w) := by cases w; exact an_good; exact wa_good
theorem heads_tup : D.tup [g_WAITS, g_ANY_TIME] = .tup ([Str.ofString "waits", Str.ofString "any time"].map D.str) := rfl
theorem manner_of_ok {m : Mn} (hm : m.2 ∈ subs four) (h : List Ob) : Ok (F_manner_of [.str (manL m)] h) fun d S => d = manD m ∧ Kp0 h S.h := by
  apply ok_runB
  obtain ⟨_, l60, _⟩ := m_ok hm
  obtain ⟨b1, b2, b3, b4⟩ := m_back hm
  have pt : dMtS mPart (dVar 0) (dC (.str ": ")) ⟨[some (.str (manL m)), none, none, none, none], h⟩ = .ok (.tup [.str (headS m.1), .str (if m.2.isEmpty then ⟨#[]⟩ else Str.ofString ": "), .str (Txt.partition (manL m) (Str.ofString ": ")).2.2]) ⟨[some (.str (manL m)), none, none, none, none], h⟩ := by
    have l : (manL m).length ≤ mxL := by
      have : (60 : Nat) ≤ mxL := by decide
      omega
    have n0 : (Str.ofString ": ").length ≠ 0 := by decide +kernel
    have : mPart (.str (manL m)) [.str (Str.ofString ": ")] ⟨[some (.str (manL m)), none, none, none, none], h⟩ = .ok (.tup [.str (headS m.1), .str (if m.2.isEmpty then ⟨#[]⟩ else Str.ofString ": "), .str (Txt.partition (manL m) (Str.ofString ": ")).2.2]) ⟨[some (.str (manL m)), none, none, none, none], h⟩ := by
      unfold mPart
      dsimp only
      rw [if_pos ⟨n0, l⟩, b1, b2]
    simpa using this
  have a1 : sAsg (dMtS mPart (dVar 0) (dC (.str ": "))) (gTup 3 (gCons (gN 2) (gCons (gN 3) (gCons (gN 4) gNil)))) ⟨[some (.str (manL m)), none, none, none, none], h⟩ = .ok .next ⟨[some (.str (manL m)), none, some (.str (headS m.1)), some (.str (if m.2.isEmpty then ⟨#[]⟩ else Str.ofString ": ")), some (.str (Txt.partition (manL m) (Str.ofString ": ")).2.2)], h⟩ := by
    unfold sAsg
    rw [pt]
    rfl
  have hin : oNotIn (.str (headS m.1)) (.tup [g_WAITS, g_ANY_TIME]) = fun S => .ok (.bl false) S := by
    funext S
    rw [heads_tup, oNotIn_strs (head_good _) (fun u hu => by
      simp only [List.mem_cons, List.not_mem_nil, or_false] at hu
      rcases hu with rfl | rfl
      · exact wa_good
      · exact an_good)]
    cases m.1 <;> rfl
  have heq : ∀ S, oEq (.str (headS m.1)) g_WAITS S = .ok (.bl m.1) S := by
    intro S
    rw [show g_WAITS = D.str (Str.ofString "waits") from rfl, eq_str (head_good _).shaped wa_good.shaped]
    cases m.1
    · show Res.ok (D.bl (Str.ofString "any time" == Str.ofString "waits")) S = _
      rw [wt_ne]
    · show Res.ok (D.bl (Str.ofString "waits" == Str.ofString "waits")) S = _
      rw [beq_self_eq_true]
  cases hz : m.2.isEmpty with
  | true =>
    have e0 : m.2 = [] := List.isEmpty_iff.mp hz
    rw [hz, if_pos rfl] at a1
    obtain ⟨d2, S2, q2, rfl, k2⟩ := (is_notes_ok hm h).ex
    rw [e0] at q2
    simp at q2
    have t0 : ∀ S, toTru (D.str ⟨#[]⟩) S = .ok false S := fun S => rfl
    simp [p_manner_of, a1, t0, hin, q2, heq, manD, e0]
    exact k2
  | false =>
    rw [hz, if_neg (by decide)] at a1
    have sp := b4 hz
    have l3 : (Txt.partition (manL m) (Str.ofString ": ")).2.2.length + 2 ≤ 1000000 := by omega
    obtain ⟨d2, S2, q2, rfl, k2⟩ := (is_notes_ok hm (h ++ [Ob.lst (m.2.map D.str)])).ex
    have ne : (Str.ofString ": " = ⟨#[]⟩) = False := by
      apply eq_false; decide
    have t0 : ∀ S, toTru (D.str (Str.ofString ": ")) S = .ok true S := fun S => by
      show Res.ok ((Str.ofString ": ").length != 0) S = _
      rw [col_len]; rfl
    simp [p_manner_of, a1, t0, hin, cm_len, l3, sp, q2, heq, manD, ne]
    exact (Kp0.app _ _).trans k2
end Fk

namespace Fk
open PySem L2 PySem.Spec PyProof.Rows Den
theorem enumS_var {i n : Nat} {k : Int} {S : DS} {xs : List D} (hk : -1000000 ≤ k ∧ k ≤ 1000000) (h1 : S.loc[i]? = some (some (.ref n))) (h2 : S.h[n]? = some (.lst xs)) : dEnumS (dCons (dVar i) dNil) (dCons (dC (.int k)) dNil) S = .ok (.dyn (numIt k (lstIt n))) S := by
  unfold dEnumS
  simp [h1, h2, hk, enumOf]
def bodyM : DSt := sSeq (sAsg (dCall F_manner_of (dCons (dVar 3) dNil)) (gN 4))
  (sSeq (sIf (tV (dBin oIsN (dVar 4) (dC .non))) (sRaise1 "BadText" "line" (dCons (dVar 2) dNil)) sNop)
  (sExpr (dMtL mAppend (dVar 1) (dCons (dVar 4) dNil))))
theorem manners_eq : p_manners_of = sSeq (sAsg (dLst dNil) (gN 1))
  (sSeq (sFor (dEnumS (dCons (dVar 0) dNil) (dCons (dC (.int 1)) dNil)) (gTup 2 (gCons (gN 2) (gCons (gN 3) gNil))) bodyM)
  (sRet (dCB cTuple (dCons (dVar 1) dNil)))) := rfl
theorem ok_seq {a b : DSt} {S : DS} {Q : Fl → DS → Prop} (h : Ok (a S) fun f S1 => f = .next ∧ Ok (b S1) Q) : Ok (sSeq a b S) Q := by
  obtain ⟨f, S1, e, rfl, q⟩ := h.ex
  rw [z_seq, e]
  exact q
theorem okmp {α : Type} {r : Res α} {Q Q' : α → DS → Prop} (h : Ok r Q) (k : ∀ a S, Q a S → Q' a S) : Ok r Q' := by
  obtain ⟨a, S, e, q⟩ := h.ex
  rw [e]; exact k a S q
theorem kp_set {h h1 : List Ob} {nd : Nat} {ob : Ob} (a : Kp0 h h1) (b : h.length ≤ nd) : Kp0 h (h1.set nd ob) := fun j o e => by
  have := lt_of_at e
  rw [List.getElem?_set_ne (by omega)]
  exact a j o e
theorem turnM {v a2 a4 : Option D} {nd : Nat} {m : Mn} (hm : m.2 ∈ subs four) {h h0 : List Ob} {acc : List D} (k0 : Kp0 h0 h) (ln : h0.length ≤ nd) (hd : h[nd]? = some (.lst acc)) (la : acc.length < 1000000) :
    Ok (bodyM ⟨[v, some (.ref nd), a2, some (.str (manL m)), a4], h⟩) fun f S => f = .next ∧ S.loc = [v, some (.ref nd), a2, some (.str (manL m)), some (manD m)] ∧ Kp0 h0 S.h ∧ S.h[nd]? = some (.lst (acc ++ [manD m])) := by
  obtain ⟨d, S, e, rfl, kp⟩ := (manner_of_ok hm h).ex
  have hd1 := kp _ _ hd
  have la' : acc.length < mxL := by
    have : mxL = 1000000 := by rfl
    omega
  have ap : mAppend (.ref nd) [manD m] ⟨[v, some (.ref nd), a2, some (.str (manL m)), some (manD m)], S.h⟩ = .ok .non ⟨[v, some (.ref nd), a2, some (.str (manL m)), some (manD m)], S.h.set nd (.lst (acc ++ [manD m]))⟩ := by
    unfold mAppend
    dsimp only
    rw [hd1]
    dsimp only
    rw [if_pos la']
  have il : isLst ⟨[v, some (.ref nd), a2, some (.str (manL m)), some (manD m)], S.h⟩ (.ref nd) = true := by
    unfold isLst
    dsimp only
    rw [hd1]
  simp [bodyM, e, show Den.isNon (manD m) = false from rfl, il, ap]
  exact ⟨kp_set (k0.trans kp) ln, by rw [List.getElem?_set_self (lt_of_at hd1)]⟩
theorem manners_of_ok {ms : List Mn} (hm : ∀ x ∈ ms, x.2 ∈ subs four) (hl : ms.length ≤ 6) {h : List Ob} {n : Nat} (hn : h[n]? = some (.lst ((ms.map manL).map D.str))) :
    Ok (F_manners_of [.ref n] h) fun d S => d = .tup (ms.map manD) ∧ Kp0 h S.h := by
  apply ok_runB
  rw [manners_eq]
  have e0 : sAsg (dLst dNil) (gN 1) ⟨[some (.ref n), none, none, none, none], h⟩ = .ok .next ⟨[some (.ref n), some (.ref h.length), none, none, none], h ++ [Ob.lst []]⟩ := by simp
  show Ok (sSeq _ _ ⟨[some (.ref n), none, none, none, none], h⟩) _
  rw [z_seq, e0, Res.bind_ok]
  show Ok (sSeq _ _ ⟨[some (.ref n), some (.ref h.length), none, none, none], h ++ [Ob.lst []]⟩) _
  rw [z_seq, sFor_dyn (enumS_var (by decide) rfl (xs := (ms.map manL).map D.str) (at_old hn))]
  refine ok_dyn (fun i S => i ≤ ms.length ∧ (∃ a2 a3 a4, S.loc = [some (.ref n), some (.ref h.length), a2, a3, a4]) ∧ Kp0 h S.h ∧ S.h[h.length]? = some (.lst ((ms.take i).map manD))) (numD 1 ((ms.map manL).map D.str)) (by unfold numD; simp; omega) ⟨Nat.zero_le _, ⟨_, _, _, rfl⟩, Kp0.app _ _, at_new _ _⟩ ?_ ?_ ?_
  · rintro i S ⟨_, _, k, _⟩
    rw [numIt_of (k _ _ hn)]
    unfold numD
    rw [List.getElem?_mapIdx]
  · rintro i d ⟨loc, h1⟩ hd ⟨_, ⟨a2, a3, a4, rfl⟩, k, e⟩
    obtain ⟨x, hx, rfl⟩ := numD_get hd
    rw [List.getElem?_map, List.getElem?_map] at hx
    cases hi : ms[i]? with
    | none => rw [hi] at hx; cases hx
    | some m =>
      rw [hi] at hx
      obtain rfl : D.str (manL m) = x := by simpa using hx
      have li : i < ms.length := by
        rw [List.getElem?_eq_some_iff] at hi
        exact hi.1
      refine ⟨_, g_two 2 3 _ _ _, ?_⟩
      refine okmp (turnM (hm m (List.mem_of_getElem? hi)) k (Nat.le_refl _) e (by simp; omega)) ?_
      rintro f S ⟨rfl, q1, q2, q3⟩
      refine ⟨.inl rfl, by omega, ⟨_, _, _, q1⟩, q2, ?_⟩
      rw [q3, List.take_add_one, hi]
      simp
  · rintro ⟨loc, h1⟩ ⟨_, ⟨a2, a3, a4, rfl⟩, k, e⟩
    have ln : (numD 1 ((ms.map manL).map D.str)).length = ms.length := by unfold numD; simp
    rw [ln, List.take_length] at e
    simp [e]
    exact k
end Fk

namespace Fk
open PySem L2 PySem.Spec PyProof.Rows Den
theorem is_many_ok {i : Int} (h2 : 2 ≤ i) (h6 : i ≤ 6) (h : List Ob) : F_is_many [.int i] h = .ok (.bl true) ⟨[], h⟩ := by
  have a : F_is_integer [.int i] h = .ok (.bl true) ⟨[], h⟩ := by
    refine runB_ret (S := ⟨[some (.int i)], h⟩) ?_
    simp [p_is_integer, show isaB "int" "int" = some true by decide, show isaB "int" "bool" = some false by decide]
  refine runB_ret (S := ⟨[some (.int i)], h⟩) ?_
  simp [p_is_many, a, g_MAX_MACHINES, dChain, h2, h6]
theorem at0 {α : Type} (x : α) (xs : List α) : atI (x :: xs) 0 = some x := by
  unfold atI ixN
  rw [if_pos (by decide), if_pos (by simp)]
  rfl
theorem nl_cps : (Str.ofString "\n").cps.toList = [10] := by decide +kernel
theorem split_read {y : Str} {s : Nat} (ey : y.cps.toList = [s]) (hs : s < 256) {ps : List Str} (hne : ps ≠ []) (hp : ∀ p ∈ ps, s ∉ p.cps.toList) : Txt.split (Str.join y ps) y = ps := by
  rw [← tjoin]
  refine TL.split_join (S := []) ey ?_ hne hp
  rw [← Array.all_toList, ey]
  simp [hs]
theorem book_lines {T : List Ts} {ms : List Mn} (b : Bk T ms) : Txt.split (bookT T ms) (Str.ofString "\n") = testsL T :: ms.map manL :=
  split_read nl_cps (by decide) (by simp) fun p hp => by
    rcases List.mem_cons.mp hp with rfl | hp
    · exact (t_ok b.t).2.2.1
    · obtain ⟨m, hm, rfl⟩ := List.mem_map.mp hp
      exact (m_ok (b.m m hm)).2.2.1
theorem read_book_ok {T : List Ts} {ms : List Mn} (b : Bk T ms) (h : List Ob) : Ok (F_read_book [.str (bookT T ms)] h) fun d S => d = bookD T ms ∧ Kp0 h S.h := by
  apply ok_runB
  have l1 := (bookJ b).2.1
  have l2 : (bookT T ms).length ≤ 999998 := by omega
  have isS : isaB "str" "str" = some true := by decide
  obtain ⟨d1, S1, q1, rfl, k1⟩ := (tests_of_ok b.t (h ++ [Ob.lst ((testsL T :: ms.map manL).map D.str)])).ex
  have hl := k1 _ _ (at_new _ _)
  have kt : Kp0 h S1.h := (Kp0.app _ _).trans k1
  obtain ⟨d2, S2, q2, rfl, k2⟩ := (manners_of_ok b.m b.l6 (h := S1.h ++ [Ob.lst ((ms.map manL).map D.str)]) (at_new _ _)).ex
  have q3 := is_many_ok (i := ((ms.map manD).length : Nat)) (by have := b.l2; simp; omega) (by have := b.l6; simp; omega) S2.h
  simp [-List.map_map] at q1 q2 q3 hl
  simp [p_read_book, at0, isS, nl_len, l2, book_lines b, q1, Den.isNon, z_slL, hl, cut_tl, q2, q3, -List.map_map]
  exact ⟨rfl, (kt.trans (Kp0.app _ _)).trans k2⟩
end Fk

namespace Fk
open PySem L2 PySem.Spec PyProof.Rows Den
def manE (d : D) : Option D := match d with
  | .tup [.bl w, .tup ns] => (strsOf ns).map fun us => .str (manL (w, us))
  | _ => none
theorem manE_one (m : Mn) : manE (manD m) = some (.str (manL m)) := by
  show (strsOf (m.2.map D.str)).map (fun us => D.str (manL (m.1, us))) = _
  rw [strsOf_map]; rfl
theorem manE_all : ∀ ms : List Mn, (ms.map manD).filterMap manE = (ms.map manL).map D.str
  | [] => rfl
  | m :: ms => by
    rw [List.map_cons, List.filterMap_cons, manE_one, manE_all ms]; rfl
theorem book_text_ok {T : List Ts} {ms : List Mn} (b : Bk T ms) (h : List Ob) : Ok (F_book_text [bookD T ms] h) fun d S => d = .str (bookT T ms) ∧ Kp0 h S.h := by
  apply ok_runB
  have l6 := b.l6
  obtain ⟨d1, S1, q1, rfl, k1⟩ := (tests_line_ok b.t h).ex
  have a0 : sAsg (dVar 0) (gTup 2 (gCons (gN 1) (gCons (gN 2) gNil))) ⟨[some (bookD T ms), none, none, none], h⟩ = .ok .next ⟨[some (bookD T ms), some (.tup (T.map testD)), some (.tup (ms.map manD)), none], h⟩ := rfl
  have c : dComp [3] (dIter (dVar 2)) (gN 3) tTrue (dCall F_manner_line (dCons (dVar 3) dNil)) ⟨[some (bookD T ms), some (.tup (T.map testD)), some (.tup (ms.map manD)), none], S1.h ++ [Ob.lst [.str (testsL T)]]⟩ = _ :=
    comp_pure manE (iter_tup (xs := ms.map manD) rfl) rfl (by rw [List.length_map]; omega) fun d hd => by
      obtain ⟨m, hm, rfl⟩ := List.mem_map.mp hd
      refine ⟨_, rfl, ?_⟩
      simp [manE_one, man_line_ok (b.m m hm)]
  rw [manE_all] at c
  have js : strsOf ((testsL T :: ms.map manL).map D.str) = some (testsL T :: ms.map manL) := strsOf_map _
  have jo := (bookJ b).1
  rw [List.map_cons] at js
  have lq : 1 + ms.length ≤ 1000000 := by omega
  have lq' : ms.length + 1 ≤ 1000000 := by omega
  simp [p_book_text, a0, q1, c, lq, lq', js, jo, tjoin, -List.map_map]
  exact ⟨rfl, k1.trans (Kp0.app _ _)⟩
/-! the law's own text -/
def tN (T : List Ts) : Bool := SeqAt.shaped (.tuple (T.map testP)) && decide ((Str.ofString "tests ").length + (Str.join (Str.ofString ", ") (T.map testS)).length ≤ 1000000)
theorem tN_all : (subs six).all tN = true := by decide +kernel
theorem ne_tests {T : List Ts} (hT : T ∈ subs six) (S : DS) : oNe (.tup (T.map testD)) (.tup []) S = .ok (.bl (!T.isEmpty)) S := by
  have g := List.all_eq_true.mp tN_all T hT
  unfold tN at g
  rw [Bool.and_eq_true] at g
  have e1 : pyD S (.tup (T.map testD)) = some (.tuple (T.map testP)) := by
    show ((T.map testD).mapM (toPy S.h (18 + 1))).map PyData.tuple = _
    rw [toPy_tests]; rfl
  unfold oNe
  rw [e1]
  show (if SeqAt.shaped (.tuple (T.map testP)) && SeqAt.shaped (.tuple []) then Res.ok (D.bl (!PyData.eqv (.tuple (T.map testP)) (.tuple []))) S else .stuck) = _
  rw [g.1, if_pos (by rfl)]
  cases T <;> rfl
theorem ne_words {N : List Str} (hN : N ∈ subs four) (S : DS) : oNe (.tup (N.map D.str)) (.tup []) S = .ok (.bl (!N.isEmpty)) S := by
  obtain ⟨_, mem⟩ := four_len hN
  have e1 : pyD S (.tup (N.map D.str)) = some (.tuple (N.map PyData.str)) := by
    show ((N.map D.str).mapM (toPy S.h 19)).map PyData.tuple = _
    rw [toPy_strs]; rfl
  unfold oNe
  rw [e1]
  show (if SeqAt.shaped (.tuple (N.map PyData.str)) && SeqAt.shaped (.tuple []) then Res.ok (D.bl (!PyData.eqv (.tuple (N.map PyData.str)) (.tuple []))) S else .stuck) = _
  rw [shaped_strsT fun u hu => four_good (mem u hu), if_pos (by rfl)]
  cases N <;> rfl
def bodyT : DSt := sSeq (sAsg (dIf (tTr (dVar 4)) (dC (.str "waits")) (dC (.str "any time"))) (gN 6))
  (sExpr (dMtL mAppend (dVar 1) (dCons (dIf (tV (dBin oNe (dVar 5) (dTup dNil))) (dBin oAdd (dBin oAdd (dVar 6) (dC (.str ": "))) (dMtS mJoin (dC (.str ", ")) (dVar 5))) (dVar 6)) dNil)))
def gT45 : DG := gTup 2 (gCons (gN 4) (gCons (gN 5) gNil))
theorem turnT {a0 a2 a3 a4 a5 a6 a7 a8 : Option D} {nd : Nat} {m : Mn} (hm : m.2 ∈ subs four) {h0 h : List Ob} {acc : List D} (k0 : Kp0 h0 h) (ln : h0.length ≤ nd) (hd : h[nd]? = some (.lst acc)) (la : acc.length < 1000000) :
    ∃ h2 a6', bodyT ⟨[a0, some (.ref nd), a2, a3, some (.bl m.1), some (.tup (m.2.map D.str)), a6, a7, a8], h⟩ = .ok .next ⟨[a0, some (.ref nd), a2, a3, some (.bl m.1), some (.tup (m.2.map D.str)), a6', a7, a8], h2⟩ ∧ Kp0 h0 h2 ∧ h2[nd]? = some (.lst (acc ++ [.str (manL m)])) := by
  obtain ⟨_, _, _, jo, hl, q⟩ := m_ok hm
  have js : strsOf (m.2.map D.str) = some m.2 := strsOf_map _
  have q1 : (headS m.1).length + (Str.ofString ": ").length ≤ 1000000 := by rw [col_len]; omega
  have la' : acc.length < mxL := by
    have : mxL = 1000000 := by rfl
    omega
  have nw := ne_words hm
  refine ⟨h.set nd (.lst (acc ++ [.str (manL m)])), some (.str (headS m.1)), ?_, kp_set k0 ln, by rw [List.getElem?_set_self (lt_of_at hd)]⟩
  obtain ⟨w, ns⟩ := m
  dsimp only at js jo q nw
  have il : ∀ loc, isLst ⟨loc, h⟩ (.ref nd) = true := by
    intro loc
    unfold isLst
    dsimp only
    rw [hd]
  have ap : ∀ loc d, mAppend (.ref nd) [d] ⟨loc, h⟩ = .ok .non ⟨loc, h.set nd (.lst (acc ++ [d]))⟩ := by
    intro loc d
    unfold mAppend
    dsimp only
    rw [hd]
    dsimp only
    rw [if_pos la']
  cases hz : ns.isEmpty with
  | true =>
    rw [hz] at nw
    cases w <;> simp [bodyT, manL, headS, hz, nw, il, ap]
  | false =>
    rw [hz] at nw
    cases w <;> simp [headS] at q q1 <;> simp [bodyT, manL, headS, hz, nw, il, ap, js, jo, tjoin, q, q1]
theorem loopT {a0 a2 a3 : Option D} {nd : Nat} {h0 : List Ob} (ln : h0.length ≤ nd) : ∀ (ms : List Mn) (acc : List D) (h : List Ob) (a4 a5 a6 a7 a8 : Option D), (∀ x ∈ ms, x.2 ∈ subs four) → acc.length + ms.length < 1000000 → Kp0 h0 h → h[nd]? = some (.lst acc) →
    ∃ S', forV gT45 bodyT (ms.map manD) ⟨[a0, some (.ref nd), a2, a3, a4, a5, a6, a7, a8], h⟩ = .ok .next S' ∧ (∃ b4 b5 b6 b7 b8, S'.loc = [a0, some (.ref nd), a2, a3, b4, b5, b6, b7, b8]) ∧ Kp0 h0 S'.h ∧ S'.h[nd]? = some (.lst (acc ++ (ms.map manL).map D.str))
  | [], acc, h, a4, a5, a6, a7, a8, _, _, k, e => ⟨_, rfl, ⟨_, _, _, _, _, rfl⟩, k, by simpa using e⟩
  | m :: ms, acc, h, a4, a5, a6, a7, a8, hm, hl, k, e => by
    rw [List.length_cons] at hl
    obtain ⟨h2, a6', q, k2, e2⟩ := turnT (a0 := a0) (a2 := a2) (a3 := a3) (a4 := a4) (a5 := a5) (a6 := a6) (a7 := a7) (a8 := a8) (hm m (by simp)) k ln e (by omega)
    obtain ⟨S', q2, l, k3, e3⟩ := loopT ln ms (acc ++ [.str (manL m)]) h2 (some (.bl m.1)) (some (.tup (m.2.map D.str))) a6' a7 a8 (fun x hx => hm x (List.mem_cons_of_mem _ hx)) (by simp; omega) k2 e2
    refine ⟨S', ?_, l, k3, by simpa using e3⟩
    rw [List.map_cons]
    unfold forV
    have g : gT45 (manD m) ⟨[a0, some (.ref nd), a2, a3, a4, a5, a6, a7, a8], h⟩ = some ⟨[a0, some (.ref nd), a2, a3, some (.bl m.1), some (.tup (m.2.map D.str)), a6, a7, a8], h⟩ := rfl
    rw [g]
    dsimp only
    rw [q]
    exact q2
theorem law_text_eq : p_law_text = sSeq (sAsg (dVar 0) (gTup 2 (gCons (gN 2) (gCons (gN 3) gNil))))
  (sSeq (sAsg (dIf (tV (dBin oNe (dVar 2) (dTup dNil))) (dLst (dCons (dBin oAdd (dC (.str "tests ")) (dMtS mJoin (dC (.str ", ")) (dComp [7, 8] (dIter (dVar 2)) (gTup 2 (gCons (gN 7) (gCons (gN 8) gNil))) tTrue (dBin oAdd (dBin oAdd (dVar 7) (dC (.str "="))) (dVar 8))))) dNil)) (dLst (dCons (dC (.str "tests none")) dNil))) (gN 1))
  (sSeq (sFor (dIter (dVar 3)) gT45 bodyT) (sRet (dMtS mJoin (dC (.str "\n")) (dVar 1))))) := rfl
theorem law_text_ok {T : List Ts} {ms : List Mn} (b : Bk T ms) (h : List Ob) : Ok (F_law_text [bookD T ms] h) fun d S => d = .str (bookT T ms) ∧ Kp0 h S.h := by
  apply ok_runB
  have l6 := b.l6
  obtain ⟨t6, mem⟩ := six_len b.t
  obtain ⟨_, _, _, jo, q⟩ := t_ok b.t
  have js : strsOf ((T.map testS).map D.str) = some (T.map testS) := strsOf_map _
  have nt := ne_tests b.t
  have a0 : sAsg (dVar 0) (gTup 2 (gCons (gN 2) (gCons (gN 3) gNil))) ⟨[some (bookD T ms), none, none, none, none, none, none, none, none], h⟩ = .ok .next ⟨[some (bookD T ms), none, some (.tup (T.map testD)), some (.tup (ms.map manD)), none, none, none, none, none], h⟩ := rfl
  have a1 : Ok (sAsg (dIf (tV (dBin oNe (dVar 2) (dTup dNil))) (dLst (dCons (dBin oAdd (dC (.str "tests ")) (dMtS mJoin (dC (.str ", ")) (dComp [7, 8] (dIter (dVar 2)) (gTup 2 (gCons (gN 7) (gCons (gN 8) gNil))) tTrue (dBin oAdd (dBin oAdd (dVar 7) (dC (.str "="))) (dVar 8))))) dNil)) (dLst (dCons (dC (.str "tests none")) dNil))) (gN 1) ⟨[some (bookD T ms), none, some (.tup (T.map testD)), some (.tup (ms.map manD)), none, none, none, none, none], h⟩) fun f S => f = .next ∧ ∃ nd, h.length ≤ nd ∧ S.loc = [some (bookD T ms), some (.ref nd), some (.tup (T.map testD)), some (.tup (ms.map manD)), none, none, none, none, none] ∧ Kp0 h S.h ∧ S.h[nd]? = some (.lst [.str (testsL T)]) := by
    have c : dComp [7, 8] (dIter (dVar 2)) (gTup 2 (gCons (gN 7) (gCons (gN 8) gNil))) tTrue (dBin oAdd (dBin oAdd (dVar 7) (dC (.str "="))) (dVar 8)) ⟨[some (bookD T ms), none, some (.tup (T.map testD)), some (.tup (ms.map manD)), none, none, none, none, none], h⟩ = _ :=
      comp_pure joinE (iter_tup (xs := T.map testD) rfl) rfl (by rw [List.length_map]; omega) fun d hd => by
        obtain ⟨t, ht, rfl⟩ := List.mem_map.mp hd
        obtain ⟨e1, e2, _⟩ := six_each (mem t ht)
        refine ⟨_, rfl, ?_⟩
        simp [joinE, testD, e1, e2, eq_len, len_app]
    rw [joinE_all] at c
    cases hz : T.isEmpty with
    | true =>
      have : T = [] := List.isEmpty_iff.mp hz
      subst this
      simp at nt
      simp [nt, testsL]
      exact ⟨_, Nat.le_refl _, rfl, Kp0.app _ _, at_new _ _⟩
    | false =>
      have hne : T ≠ [] := by intro z; rw [z] at hz; cases hz
      rw [hz] at nt
      simp [nt, c, js, jo, tjoin, q, testsL, hz, -List.map_map]
      exact ⟨_, Nat.le_succ _, rfl, Kp0.app _ _, by simp⟩
  obtain ⟨f, ⟨loc, h1⟩, e1, rfl, nd, lnd, rfl, k1, hd⟩ := a1.ex
  obtain ⟨⟨loc2, h2⟩, e2, ⟨b4, b5, b6, b7, b8, rfl⟩, k2, hd2⟩ := loopT (a0 := some (bookD T ms)) (a2 := some (.tup (T.map testD))) (a3 := some (.tup (ms.map manD))) lnd ms [.str (testsL T)] h1 none none none none none b.m (by simp; omega) k1 hd
  have sf : sFor (dIter (dVar 3)) gT45 bodyT ⟨[some (bookD T ms), some (.ref nd), some (.tup (T.map testD)), some (.tup (ms.map manD)), none, none, none, none, none], h1⟩ = .ok .next ⟨[some (bookD T ms), some (.ref nd), some (.tup (T.map testD)), some (.tup (ms.map manD)), b4, b5, b6, b7, b8], h2⟩ := by
    have it : dIter (dVar 3) ⟨[some (bookD T ms), some (.ref nd), some (.tup (T.map testD)), some (.tup (ms.map manD)), none, none, none, none, none], h1⟩ = _ := iter_tup (xs := ms.map manD) rfl
    rw [sFor_vals it]
    exact e2
  have js2 : strsOf ((testsL T :: ms.map manL).map D.str) = some (testsL T :: ms.map manL) := strsOf_map _
  rw [List.map_cons] at js2
  have jo2 := (bookJ b).1
  rw [law_text_eq]
  show Ok (sSeq _ _ ⟨[some (bookD T ms), none, none, none, none, none, none, none, none], h⟩) _
  rw [z_seq, a0, Res.bind_ok]
  dsimp only
  rw [z_seq, e1, Res.bind_ok]
  dsimp only
  rw [z_seq, sf, Res.bind_ok]
  have hd3 : h2[nd]? = some (.lst (.str (testsL T) :: (ms.map manL).map D.str)) := hd2
  simp [hd3, js2, jo2, tjoin, -List.map_map]
  exact ⟨rfl, k2⟩
end Fk

namespace Fk
open PySem L2 PySem.Spec PyProof.Rows Den
/-! a comprehension that leaves out some of what it walks -/
theorem comp_S {vs : List Nat} {it : DS → Res Iter0} {g : DG} {t : DT} {e : DE} {S S1 : DS} {I : Iter0} {xs : List D} (P : List Ob → Prop) (hi : it S = .ok I S1) (ov : ∀ h, P h → Over I xs h) (hl : xs.length < 100000) (j0 : P S1.h) (p : ∀ d ∈ xs, ∀ h, P h → ∃ S0, g d ⟨wipeD S1.loc vs, h⟩ = some S0 ∧ Ok (t S0) fun c S2 => P S2.h ∧ (c = true → Ok (e S2) fun y S3 => y = d ∧ P S3.h)) :
    ∃ acc h2, dComp vs it g t e S = .ok (.ref h2.length) ⟨S1.loc, h2 ++ [.lst acc]⟩ ∧ P h2 ∧ acc.Sublist xs := by
  have step : ∀ d ∈ xs, ∀ (acc : List D) h, P h → acc.length < 1000000 → ∃ S0 S2 b, g d ⟨wipeD S1.loc vs, h⟩ = some S0 ∧ compT t e S0 acc = .ok (acc ++ if b = true then [d] else []) S2 ∧ P S2.h := fun d hd acc h j l => by
    obtain ⟨S0, h1, h3⟩ := p d hd h j
    obtain ⟨c, S2, e1, j2, h4⟩ := h3.ex
    cases c with
    | true =>
      obtain ⟨y, S3, e2, rfl, j3⟩ := (h4 rfl).ex
      refine ⟨S0, S3, true, h1, ?_, j3⟩
      unfold compT
      rw [e1, Res.only_ok, if_pos rfl, e2, Res.only_ok, mxL_eq, if_pos l, if_pos rfl]
    | false =>
      refine ⟨S0, S2, false, h1, ?_, j2⟩
      unfold compT
      rw [e1, Res.only_ok, if_neg (by decide), if_neg (by decide), List.append_nil]
  have sub : ∀ (b : Bool) (d : D) (ds ys : List D), ys.Sublist ds → ((if b = true then [d] else []) ++ ys).Sublist (d :: ds) := fun b d ds ys h => by
    cases b with
    | true => exact h.cons₂ d
    | false => exact h.cons d
  cases I with
  | vals ys =>
    obtain rfl : ys = xs := ov _ j0
    have go : ∀ (zs acc : List D) (h : List Ob), (∀ z ∈ zs, z ∈ ys) → acc.length + zs.length ≤ 1000000 → P h → ∃ h2 a2, compV g t e (wipeD S1.loc vs) zs acc h = .ok (acc ++ a2) ⟨wipeD S1.loc vs, h2⟩ ∧ P h2 ∧ a2.Sublist zs := by
      intro zs
      induction zs with
      | nil => exact fun acc h _ _ j => ⟨h, [], by simp [compV], j, List.Sublist.refl _⟩
      | cons z zs ih =>
        intro acc h hz l j
        simp only [List.length_cons] at l
        obtain ⟨S0, S2, b, h1, h2, j2⟩ := step z (hz z (by simp)) acc h j (by omega)
        obtain ⟨h3, a3, e3, j3, s3⟩ := ih (acc ++ if b = true then [z] else []) S2.h (fun w hw => hz w (List.mem_cons_of_mem _ hw)) (by cases b <;> simp <;> omega) j2
        refine ⟨h3, (if b = true then [z] else []) ++ a3, ?_, j3, sub b z zs a3 s3⟩
        unfold compV
        rw [h1]
        dsimp only
        rw [h2, Res.only_ok, e3, List.append_assoc]
    obtain ⟨h2, a2, e2, j, s⟩ := go ys [] S1.h (fun _ h => h) (by simp; omega) j0
    refine ⟨a2, h2, ?_, j, s⟩
    unfold dComp
    rw [hi, Res.bind_ok]
    dsimp only
    rw [e2]
    rfl
  | dyn it2 =>
    have go : ∀ (k i : Nat) (acc : List D) (h : List Ob), xs.length < i + k → i ≤ xs.length → acc.length + (xs.length - i) ≤ 1000000 → P h → ∃ h2 a2, compO it2 g t e (wipeD S1.loc vs) k i acc h = .ok (acc ++ a2) ⟨wipeD S1.loc vs, h2⟩ ∧ P h2 ∧ a2.Sublist (xs.drop i) := by
      intro k
      induction k with
      | zero => intro i acc h h1 h2; omega
      | succ k ih =>
        intro i acc h hk hi' hl' j
        by_cases lt : i < xs.length
        · obtain ⟨S0, S2, b, h1, h2, j2⟩ := step xs[i] (List.getElem_mem lt) acc h j (by omega)
          obtain ⟨h3, a3, e3, j3, s3⟩ := ih (i + 1) (acc ++ if b = true then [xs[i]] else []) S2.h (by omega) (by omega) (by cases b <;> simp <;> omega) j2
          refine ⟨h3, (if b = true then [xs[i]] else []) ++ a3, ?_, j3, by rw [List.drop_eq_getElem_cons lt]; exact sub b _ _ _ s3⟩
          unfold compO
          rw [ov h j i, List.getElem?_eq_getElem lt]
          dsimp only
          rw [h1]
          dsimp only
          rw [h2, Res.only_ok, e3, List.append_assoc]
        · refine ⟨h, [], ?_, j, List.nil_sublist _⟩
          unfold compO
          rw [ov h j i, List.getElem?_eq_none (by omega), List.append_nil]
    obtain ⟨h2, a2, e2, j, s⟩ := go 100000 0 [] S1.h (by omega) (by omega) (by simp; omega) j0
    refine ⟨a2, h2, ?_, j, by simpa using s⟩
    unfold dComp
    rw [hi, Res.bind_ok]
    dsimp only
    rw [e2]
    rfl
theorem sub_of {α : Type} (f : α → D) : ∀ (l : List α) (acc : List D), acc.Sublist (l.map f) → ∃ T, T ∈ subs l ∧ acc = T.map f
  | [], acc, h => ⟨[], by simp [subs], by simpa using h⟩
  | x :: xs, acc, h => by
    rw [List.map_cons] at h
    cases h with
    | cons _ h =>
      obtain ⟨T, hT, rfl⟩ := sub_of f xs _ h
      exact ⟨T, (subs_cons hT).1, rfl⟩
    | cons_cons _ h =>
      obtain ⟨T, hT, rfl⟩ := sub_of f xs _ h
      exact ⟨x :: T, (subs_cons hT).2, rfl⟩
def IsMan (d : D) : Prop := ∃ q, d = manD q ∧ q.2 ∈ subs four
theorem isMan (b : Bool) {N : List Str} (hN : N ∈ subs four) : IsMan (.tup [.bl b, .tup (N.map D.str)]) := ⟨(b, N), rfl, hN⟩
theorem deck_new {h : List Ob} {n m : Nat} (dk : Deck h n m) : h.length ≠ m ∧ h.length ≠ n := by
  obtain ⟨ne, s, xs, hn, hm, r⟩ := dk
  have := lt_of_at hn
  have := lt_of_at hm
  omega
theorem picked {h : List Ob} {n m : Nat} (dk : Deck h n m) {xs : List D} (h1 : 1 ≤ xs.length) (h2 : xs.length < 1000000) : Ok (F_law_pick [.ref n, .ref h.length] (h ++ [.lst xs])) fun d S => d ∈ xs ∧ Deck S.h n m ∧ Kp n m h S.h := by
  obtain ⟨d, S, e, hd, D1, k1⟩ := (pick_ok (dk.keep (Kp0.app _ _)) (at_new h (.lst xs)) (deck_new dk).1 h1 h2).ex
  rw [e]
  exact ⟨hd, D1, ((Kp0.app _ _).kp n m).trans k1⟩
theorem ltests (h : List Ob) : F_law_tests [] h = .ok (.ref h.length) ⟨[], h ++ [.lst (six.map testD)]⟩ := rfl
theorem lwords (h : List Ob) : F_law_words [] h = .ok (.ref h.length) ⟨[], h ++ [.lst (four.map D.str)]⟩ := rfl
theorem lmanner_ok {h : List Ob} {n m : Nat} (dk : Deck h n m) : Ok (F_law_manner [.ref n] h) fun d S => IsMan d ∧ Deck S.h n m ∧ Kp n m h S.h := by
  apply ok_runB
  have it : dIter (dCall F_law_words dNil) ⟨[some (.ref n), none, none], h⟩ = .ok (.dyn (lstIt h.length)) ⟨[some (.ref n), none, none], h ++ [Ob.lst (four.map D.str)]⟩ :=
    iter_ref (xs := four.map D.str) (by simp [lwords]) (at_new _ _)
  obtain ⟨acc, h2, c, ⟨D2, _, k2⟩, sb⟩ := comp_S (vs := [2]) (g := gN 2) (t := tV (dBin oEq (dCall F_law_draw (dCons (dVar 0) (dCons (dC (.int 2)) dNil))) (dC (.int 0)))) (e := dVar 2) (fun h' => Deck h' n m ∧ h'[h.length]? = some (.lst (four.map D.str)) ∧ Kp n m h h') it (fun h' j => over_lst j.2.1) (by decide) ⟨dk.keep (Kp0.app _ _), at_new _ _, (Kp0.app _ _).kp n m⟩ (by
    rintro d hd h' ⟨D2, e2, k2⟩
    obtain ⟨d3, S3, q3, r, rfl, r0, r1, D3, k3⟩ := (draw_ok D2 (many := 2) (by omega) (by omega)).ex
    have e3 := k3 _ _ (deck_new dk).2 (deck_new dk).1 e2
    have k3' := k2.trans k3
    refine ⟨_, rfl, ?_⟩
    simp [q3]
    exact ⟨⟨D3, e3, k3'⟩, fun _ => ⟨D3, e3, k3'⟩⟩)
  obtain ⟨N, hN, rfl⟩ := sub_of D.str four acc sb
  obtain ⟨d3, S3, q3, r, rfl, r0, r1, D3, k3⟩ := (draw_ok (D2.keep (Kp0.app _ [Ob.lst (N.map D.str)])) (many := 2) (by omega) (by omega)).ex
  have k4 := (k2.trans ((Kp0.app h2 [Ob.lst (N.map D.str)]).kp n m)).trans k3
  simp [p_law_manner, c, q3, -List.map_map]
  exact ⟨isMan _ hN, D3, k4⟩
end Fk

namespace Fk
open PySem L2 PySem.Spec PyProof.Rows Den
theorem mans_of : ∀ acc : List D, (∀ d ∈ acc, IsMan d) → ∃ ms : List Mn, acc = ms.map manD ∧ ∀ x ∈ ms, x.2 ∈ subs four
  | [], _ => ⟨[], rfl, fun _ h => (nomatch h)⟩
  | d :: ds, h => by
    obtain ⟨q, rfl, hq⟩ := h d (by simp)
    obtain ⟨ms, rfl, hm⟩ := mans_of ds fun x hx => h x (List.mem_cons_of_mem _ hx)
    exact ⟨q :: ms, rfl, fun x hx => by
      rcases List.mem_cons.mp hx with rfl | hx
      · exact hq
      · exact hm x hx⟩
def AllM (acc : List D) : Prop := ∀ d ∈ acc, IsMan d
def IsBk (d : D) : Prop := ∃ T ms, d = bookD T ms ∧ Bk T ms
theorem isBk {T : List Ts} {ms : List Mn} (b : Bk T ms) : IsBk (.tup [.tup (T.map testD), .tup (ms.map manD)]) := ⟨T, ms, rfl, b⟩
theorem flat_one (q : Mn) : ∀ n : Nat, (List.replicate n [manD q]).flatten = (List.replicate n q).map manD
  | 0 => rfl
  | n + 1 => by rw [List.replicate_succ, List.flatten_cons, flat_one q n, List.replicate_succ, List.map_cons]; rfl
theorem mulB_one (q : Mn) {j : Int} (h2 : 2 ≤ j) (h6 : j ≤ 6) (S : DS) : oMulB (.tup [manD q]) (.int j) S = .ok (.tup ((List.replicate j.toNat q).map manD)) S := by
  show (if [manD q] ≠ [] ∧ 2 ≤ j ∧ j ≤ 1000 ∧ [manD q].length ≤ 1000 then Res.ok (D.tup (List.replicate j.toNat [manD q]).flatten) S else .stuck) = _
  rw [if_pos ⟨by simp, h2, by omega, by simp⟩, flat_one]
theorem lbook_ok {h : List Ob} {n m : Nat} (dk : Deck h n m) : Ok (F_law_book [.ref n] h) fun d S => IsBk d ∧ Deck S.h n m ∧ Kp n m h S.h := by
  apply ok_runB
  have it : dIter (dCall F_law_tests dNil) ⟨[some (.ref n), none, none, none, none, none], h⟩ = .ok (.dyn (lstIt h.length)) ⟨[some (.ref n), none, none, none, none, none], h ++ [Ob.lst (six.map testD)]⟩ :=
    iter_ref (xs := six.map testD) (by simp [ltests, -List.map_map]) (at_new _ _)
  obtain ⟨acc, h2, c, ⟨D2, _, k2⟩, sb⟩ := comp_S (vs := [4]) (g := gN 4) (t := tV (dBin oEq (dCall F_law_draw (dCons (dVar 0) (dCons (dC (.int 3)) dNil))) (dC (.int 0)))) (e := dVar 4) (fun h' => Deck h' n m ∧ h'[h.length]? = some (.lst (six.map testD)) ∧ Kp n m h h') it (fun h' j => over_lst j.2.1) (by decide) ⟨dk.keep (Kp0.app _ _), at_new _ _, (Kp0.app _ _).kp n m⟩ (by
    rintro d hd h' ⟨D2, e2, k2⟩
    obtain ⟨d3, S3, q3, r, rfl, r0, r1, D3, k3⟩ := (draw_ok D2 (many := 3) (by omega) (by omega)).ex
    have e3 := k3 _ _ (deck_new dk).2 (deck_new dk).1 e2
    have k3' := k2.trans k3
    refine ⟨_, rfl, ?_⟩
    simp [q3]
    exact ⟨⟨D3, e3, k3'⟩, fun _ => ⟨D3, e3, k3'⟩⟩)
  obtain ⟨T, hT, rfl⟩ := sub_of testD six acc sb
  obtain ⟨d3, S3, q3, r, rfl, r0, r1, D3, k3⟩ := (draw_ok (D2.keep (Kp0.app _ [Ob.lst (T.map testD)])) (many := 5) (by omega) (by omega)).ex
  obtain ⟨d4, S4, q4, ⟨q, rfl, hq⟩, D4, k4⟩ := (lmanner_ok D3).ex
  obtain ⟨d5, S5, q5, a, rfl, a0, a1, D5, k5⟩ := (draw_ok D4 (many := 3) (by omega) (by omega)).ex
  have kk : Kp n m h S5.h := (((k2.trans ((Kp0.app h2 [Ob.lst (T.map testD)]).kp n m)).trans k3).trans k4).trans k5
  by_cases za : a = 0
  · have mu := mulB_one q (j := 2 + r) (by omega) (by omega)
    have bk : Bk T (List.replicate (2 + r).toNat q) := ⟨hT, fun x hx => by rw [(List.mem_replicate.mp hx).2]; exact hq, by rw [List.length_replicate]; omega, by rw [List.length_replicate]; omega⟩
    generalize hR : List.replicate (2 + r).toNat q = R at mu bk
    simp [p_law_book, c, q3, q4, q5, za, mu, -List.map_map, -List.map_replicate]
    exact ⟨isBk bk, D5, kk⟩
  · have it2 : dRng (dCons (dVar 2) dNil) ⟨[some (.ref n), some (.tup (T.map testD)), some (.int (2 + r)), some (manD q), none, none], S5.h⟩ = .ok (.vals (rgD 0 (2 + r).toNat)) ⟨[some (.ref n), some (.tup (T.map testD)), some (.int (2 + r)), some (manD q), none, none], S5.h⟩ := rng_of (by simp) (by omega)
    obtain ⟨acc, h6, c6, ⟨D6, im, k6⟩, l6⟩ := comp_K (vs := [5]) (g := gN 5) (e := dCall F_law_manner (dCons (dVar 0) dNil)) (fun acc h' => Deck h' n m ∧ AllM acc ∧ Kp n m h h') it2 (fun _ _ _ => rfl) (by rw [rgD_len]; omega) ⟨D5, (fun _ h => nomatch h), kk⟩ (by
      rintro d hd acc h' ⟨D6, im, k6⟩
      obtain ⟨d7, S7, q7, i7, D7, k7⟩ := (lmanner_ok D6).ex
      refine ⟨_, rfl, ?_⟩
      have im2 : AllM (acc ++ [d7]) := fun d hd => by
        rcases List.mem_append.mp hd with hd | hd
        · exact im d hd
        · rw [List.mem_singleton.mp hd]; exact i7
      have k67 := k6.trans k7
      simp [q7]
      exact ⟨D7, im2, k67⟩)
    obtain ⟨ms, rfl, hm⟩ := mans_of acc im
    rw [List.length_map, rgD_len] at l6
    have bk : Bk T ms := ⟨hT, hm, by omega, by omega⟩
    have k7 := k6.trans ((Kp0.app h6 [Ob.lst (ms.map manD)]).kp n m)
    simp [p_law_book, c, q3, q4, q5, za, c6, -List.map_map]
    exact ⟨isBk bk, D6.keep (Kp0.app _ _), k7⟩
/-! another book -/
def cutG {α : Type} (xs : List α) (lo hi : Option Int) : List α := (xs.drop (HT.sIx xs.length 0 lo)).take (HT.sIx xs.length xs.length hi - HT.sIx xs.length 0 lo)
theorem cutG_map {α : Type} (f : α → D) (xs : List α) (lo hi : Option Int) : Den.cutD (xs.map f) lo hi = (cutG xs lo hi).map f := by
  unfold Den.cutD cutG
  rw [List.length_map, ← List.map_drop, ← List.map_take]
theorem cutG_mem {α : Type} {xs : List α} {lo hi : Option Int} {p : α} (h : p ∈ cutG xs lo hi) : p ∈ xs := List.mem_of_mem_drop (List.mem_of_mem_take h)
theorem cutG_to {α : Type} (xs : List α) {k : Int} (h0 : 0 ≤ k) (h1 : k ≤ xs.length) : (cutG xs none (some k)).length = k.toNat := by
  unfold cutG
  have e1 : HT.sIx xs.length 0 none = 0 := rfl
  have e2 : HT.sIx xs.length xs.length (some k) = k.toNat := by
    unfold HT.sIx
    simp
    rw [if_neg (by omega)]
    omega
  rw [e1, e2, List.length_take, List.length_drop]
  omega
theorem cutG_last {α : Type} (xs : List α) (h1 : 1 ≤ xs.length) : (cutG xs none (some (-1))).length = xs.length - 1 := by
  unfold cutG
  have e1 : HT.sIx xs.length 0 none = 0 := rfl
  have e2 : HT.sIx xs.length xs.length (some (-1)) = xs.length - 1 := by
    unfold HT.sIx
    simp
    omega
  rw [e1, e2, List.length_take, List.length_drop]
  omega
theorem cutG_from {α : Type} (xs : List α) {k : Int} (h0 : 0 ≤ k) (h1 : k ≤ xs.length) : (cutG xs (some k) none).length = xs.length - k.toNat := by
  unfold cutG
  have e1 : HT.sIx xs.length xs.length none = xs.length := rfl
  have e2 : HT.sIx xs.length 0 (some k) = k.toNat := by
    unfold HT.sIx
    simp
    rw [if_neg (by omega)]
    omega
  rw [e1, e2, List.length_take, List.length_drop]
  omega
def tQ (T : List Ts) : Bool := SeqAt.shaped (.tuple (T.map testP))
theorem tQ_all : (subs six).all tQ = true := by decide +kernel
theorem oneQ_all : (six.all fun t => SeqAt.shaped (testP t)) = true := by decide +kernel
theorem in_tests {T : List Ts} (hT : T ∈ subs six) {t : Ts} (ht : t ∈ six) : ∃ b : Bool, ∀ S, oIn (testD t) (.tup (T.map testD)) S = .ok (.bl b) S := by
  have g1 := List.all_eq_true.mp oneQ_all t ht
  have g2 := List.all_eq_true.mp tQ_all T hT
  unfold tQ at g2
  refine ⟨(T.map testP).any fun z => PyData.eqv z (testP t), fun S => ?_⟩
  have e : inD (testD t) (.tup (T.map testD)) S = some ((T.map testP).any fun z => PyData.eqv z (testP t)) := by
    show (match pyD S (testD t), (T.map testD).mapM (pyD S) with
      | some p, some ps => if SeqAt.shaped p && SeqAt.shaped (.tuple ps) then some (ps.any fun z => PyData.eqv z p) else none
      | _, _ => none) = _
    have e2 : (T.map testD).mapM (pyD S) = some (T.map testP) := toPy_tests S.h 19 T
    rw [py_test, e2]
    dsimp only
    rw [g1, g2, if_pos (by rfl)]
  unfold oIn
  rw [e]
theorem eq_test {t u : Ts} (ht : t ∈ six) (hu : u ∈ six) : ∃ b : Bool, ∀ S, oEq (testD t) (testD u) S = .ok (.bl b) S := by
  have g1 := List.all_eq_true.mp oneQ_all t ht
  have g2 := List.all_eq_true.mp oneQ_all u hu
  refine ⟨PyData.eqv (testP t) (testP u), fun S => ?_⟩
  unfold oEq
  rw [py_test, py_test]
  dsimp only
  rw [g1, g2, if_pos (by rfl)]
theorem ne_bl (a b : Bool) (S : DS) : ∃ c : Bool, oNe (.bl a) (.bl b) S = .ok (.bl c) S := by
  cases a <;> cases b <;> exact ⟨_, rfl⟩
end Fk

namespace K08
open PySem L2 PySem.Spec PyProof.Rows Den Fk
/-! ### B. plain functions -/
def g_KNOWN : D := .tup [(.tup [(.str "colours"), (.tup []), (.tup [(.str "sent lower")]), (.tup [(.tup [(.str "at once"), (.str "alike")])])]), (.tup [(.str "colours both ways"), (.tup []), (.tup [(.str "sent higher"), (.str "sent lower")]), (.tup [(.tup [(.str "at once"), (.str "alike")]), (.tup [(.str "at once"), (.str "anew")])])]), (.tup [(.str "early sum"), (.tup [(.tup [(.str "G1"), (.str "S1")])]), (.tup [(.str "sent higher")]), (.tup [(.tup [(.str "at once"), (.str "alike")]), (.tup [(.str "slow"), (.str "alike")])])]), (.tup [(.str "four counts"), (.tup [(.tup [(.str "G1"), (.str "S2")])]), (.tup []), (.tup [(.tup [(.str "at once"), (.str "alike")]), (.tup [(.str "at once"), (.str "anew")]), (.tup [(.str "slow"), (.str "alike")]), (.tup [(.str "slow"), (.str "anew")])])]), (.tup [(.str "half sum"), (.tup [(.tup [(.str "G2"), (.str "S2")])]), (.tup [(.str "got lower")]), (.tup [(.tup [(.str "at once"), (.str "alike")]), (.tup [(.str "slow"), (.str "alike")])])]), (.tup [(.str "sent twice"), (.tup [(.tup [(.str "S1"), (.str "S2")])]), (.tup []), (.tup [(.tup [(.str "at once"), (.str "alike")]), (.tup [(.str "at once"), (.str "anew")])])]), (.tup [(.str "sum and colours"), (.tup [(.tup [(.str "G2"), (.str "S2")])]), (.tup [(.str "got higher"), (.str "got lower")]), (.tup [(.tup [(.str "at once"), (.str "alike")]), (.tup [(.str "at once"), (.str "anew")]), (.tup [(.str "slow"), (.str "alike")]), (.tup [(.str "slow"), (.str "anew")])])])]
def g_ROADS : D := .tup [(.str "slow"), (.str "at once")]
def g_TOURS : D := .tup [(.str "alike"), (.str "anew")]
def sub_BadBook : Str → Option Bool := fun n => if n = "BadBook" then some true else if n = "BadText" then some false else if n = "Unfit" then some false else none
def sub_BadText : Str → Option Bool := fun n => if n = "BadBook" then some false else if n = "BadText" then some true else if n = "Unfit" then some false else none
def sub_Unfit : Str → Option Bool := fun n => if n = "BadBook" then some false else if n = "BadText" then some false else if n = "Unfit" then some true else none
/-- is_tuple_of: 0=value, 1=many -/
def p_is_tuple_of : DSt := (sRet (dAnd (dCB cIsi (dCons (dVar 0) (dCons (dC (.ty "tuple")) dNil))) (dBin oEq (dCB cLen (dCons (dVar 0) dNil)) (dVar 1))))
def F_is_tuple_of : Fn := runB 2 p_is_tuple_of
/-- is_manner: 0=value -/
def p_is_manner : DSt := (sRet (dAnd (dCall F_is_tuple_of (dCons (dVar 0) (dCons (dC (.int 2)) dNil))) (dAnd (dCB cIsi (dCons (dBin oIx (dVar 0) (dC (.int 0))) (dCons (dC (.ty "bool")) dNil))) (dCall F_is_notes (dCons (dBin oIx (dVar 0) (dC (.int 1))) dNil)))))
def F_is_manner : Fn := runB 1 p_is_manner
/-- manners_error: 0=manners, 1=i, 2=manner -/
def p_manners_error : DSt := (sSeq (sIf (tNotD (tTr (dCall F_is_many (dCons (dCB cLen (dCons (dVar 0) dNil)) dNil)))) (sRet (dC (.str "manners"))) sNop)
  (sSeq (sFor (dEnumT (dCons (dVar 0) dNil)) (gTup 2 (gCons (gN 1) (gCons (gN 2) gNil)))
  (sIf (tNotD (tTr (dCall F_is_manner (dCons (dVar 2) dNil)))) (sRet (dTup (dCons (dC (.str "manner")) (dCons (dVar 1) dNil)))) sNop))
  (sRet (dC .non))))
def F_manners_error : Fn := runB 3 p_manners_error
/-- book_error: 0=value, 1=error, 2=tests, 3=manners -/
def p_book_error : DSt := (sSeq (sIf (tNotD (tTr (dCall F_is_tuple_of (dCons (dVar 0) (dCons (dC (.int 2)) dNil))))) (sRet (dC (.str "form"))) sNop)
  (sSeq (sAsg (dVar 0) (gTup 2 (gCons (gN 2) (gCons (gN 3) gNil))))
  (sSeq (sIf (tOrD (tNotD (tTr (dCB cIsi (dCons (dVar 2) (dCons (dC (.ty "tuple")) dNil))))) (tNotD (tTr (dCB cIsi (dCons (dVar 3) (dCons (dC (.ty "tuple")) dNil)))))) (sRet (dC (.str "form"))) sNop)
  (sSeq (sAsg (dCall F_tests_error (dCons (dVar 2) dNil)) (gN 1))
  (sRet (dIf (tV (dBin oIsN (dVar 1) (dC .non))) (dCall F_manners_error (dCons (dVar 3) dNil)) (dVar 1)))))))
def F_book_error : Fn := runB 4 p_book_error
/-- world_error: 0=value -/
def p_world_error : DSt := (sSeq (sIf (tNotD (tTr (dCall F_is_tuple_of (dCons (dVar 0) (dCons (dC (.int 2)) dNil))))) (sRet (dC (.str "form"))) sNop)
  (sSeq (sIf (tV (dBin oNotIn (dBin oIx (dVar 0) (dC (.int 0))) (dC g_ROADS))) (sRet (dC (.str "roads"))) sNop)
  (sRet (dIf (tV (dBin oIn (dBin oIx (dVar 0) (dC (.int 1))) (dC g_TOURS))) (dC .non) (dC (.str "tours"))))))
def F_world_error : Fn := runB 1 p_world_error
/-- alike_for: 0=tests, 1=manner, 2=many -/
def p_alike_for : DSt := (sSeq (sIf (tNotD (tTr (dCall F_is_many (dCons (dVar 2) dNil)))) (sRaise0 "Unfit") sNop)
  (sRet (dTup (dCons (dVar 0) (dCons (dBin oMulC (dTup (dCons (dVar 1) dNil)) (dVar 2)) dNil)))))
def F_alike_for : Fn := runB 3 p_alike_for
/-- world_text: 0=world -/
def p_world_text : DSt := (sRet (dMtS mJoin (dC (.str ", ")) (dVar 0)))
def F_world_text : Fn := runB 1 p_world_text
/-- read_world: 0=value, 1=world -/
def p_read_world : DSt := (sSeq (sIf (tNotD (tTr (dCB cIsi (dCons (dVar 0) (dCons (dC (.ty "str")) dNil))))) (sRaise1 "BadText" "line" (dCons (dC (.int 0)) dNil)) sNop)
  (sSeq (sAsg (dCB cTuple (dCons (dMtS mSplit (dVar 0) (dC (.str ", "))) dNil)) (gN 1))
  (sSeq (sIf (tV (dBin oNotN (dCall F_world_error (dCons (dVar 1) dNil)) (dC .non))) (sRaise1 "BadText" "line" (dCons (dC (.int 0)) dNil)) sNop)
  (sRet (dVar 1)))))
def F_read_world : Fn := runB 2 p_read_world
/-- row_of: 0=name, 1=row -/
def p_row_of : DSt := (sSeq (sFor (dIter (dC g_KNOWN)) (gN 1)
  (sIf (tV (dBin oEq (dBin oIx (dVar 1) (dC (.int 0))) (dVar 0))) (sRet (dVar 1)) sNop))
  (sRaise0 "Unfit"))
def F_row_of : Fn := runB 2 p_row_of
/-- known_names: 0=row -/
def p_known_names : DSt := (sRet (dCB cTuple (dCons (dComp [0] (dIter (dC g_KNOWN)) (gN 0) tTrue (dBin oIx (dVar 0) (dC (.int 0)))) dNil)))
def F_known_names : Fn := runB 1 p_known_names
/-- known_book: 0=name, 1=many, 2=row -/
def p_known_book : DSt := (sSeq (sAsg (dCall F_row_of (dCons (dVar 0) dNil)) (gN 2))
  (sRet (dCall F_alike_for (dCons (dBin oIx (dVar 2) (dC (.int 1))) (dCons (dTup (dCons (dC (.bl true)) (dCons (dBin oIx (dVar 2) (dC (.int 2))) dNil))) (dCons (dVar 1) dNil))))))
def F_known_book : Fn := runB 3 p_known_book
/-- known_worlds: 0=name -/
def p_known_worlds : DSt := (sRet (dBin oIx (dCall F_row_of (dCons (dVar 0) dNil)) (dC (.int 3))))
def F_known_worlds : Fn := runB 1 p_known_worlds
/-- _law_deck: 0=script, 1=deck, 2=cell, 3=whole, 4=state -/
def p_law_deck : DSt := (sSeq (sAsg (dDict [((dC (.str "deep")), (dLst dNil)), ((dC (.str "state")), (dBin oAdd (dC (.int 1572608)) (dCB cLen (dCons (dSl (dVar 0) dPN (dPS (dC (.int 63)))) dNil))))]) (gN 1))
  (sSeq (sFor (dIter (dSl (dVar 0) dPN (dPS (dC (.int 63))))) (gN 2)
  (sSeq (sAsg (dCB cAbs (dCons (dVar 2) dNil)) (gN 3))
  (sSeq (sIf (tV (dBin oGe (dVar 3) (dBin oPow (dC (.int 10)) (dC (.int 18))))) (sPut (dBin oAdd (dLst (dCons (dVar 3) dNil)) (dBin oIx (dVar 1) (dC (.str "deep")))) (dVar 1) (dC (.str "deep"))) sNop)
  (sSeq (sAsg (dBin oAdd (dBin oMulA (dBin oAdd (dBin oAdd (dBin oAdd (dBin oIx (dVar 1) (dC (.str "state"))) (dBin oMulA (dC (.int 2)) (dVar 3))) (dCB cIntA (dCons (dBin oLt (dVar 2) (dC (.int 0))) dNil))) (dC (.int 1))) (dC (.int 1181783497276652981))) (dC (.int 521288629))) (gN 4))
  (sPut (dBin oMod (dCB cIntA (dCons (dVar 4) dNil)) (dC (.int 2305843009213693951))) (dVar 1) (dC (.str "state")))))))
  (sRet (dVar 1))))
def F_law_deck : Fn := runB 5 p_law_deck
/-- _law_refusable: 0=word, 1=own, 2=is_named, 3=book, 4=world, 5=many, 6=name, 7=text -/
def p_law_refusable : DSt := (sSeq (sAsg (dVar 1) (gTup 4 (gCons (gN 3) (gCons (gN 4) (gCons (gN 5) (gCons (gN 6) gNil))))))
  (sSeq (sIf (tV (dBin oEq (dVar 0) (dC (.str "alike")))) (sSeq (sIf (tTr (dVar 2)) (sRet (dCallK F_alike_for [1, 2, 0] dNil (dCons (dVar 5) (dCons (dBin oIx (dVar 3) (dC (.int 0))) (dCons (dBin oIx (dBin oIx (dVar 3) (dC (.int 1))) (dC (.int 0))) dNil))))) sNop)
  (sRet (dCall F_alike_for (dCons (dBin oIx (dVar 3) (dC (.int 0))) (dCons (dBin oIx (dBin oIx (dVar 3) (dC (.int 1))) (dC (.int 0))) (dCons (dVar 5) dNil)))))) sNop)
  (sSeq (sIf (tV (dBin oEq (dVar 0) (dC (.str "read")))) (sSeq (sAsg (dBin oAdd (dCall F_law_text (dCons (dVar 3) dNil)) (dBin oMulA (dC (.str "\n")) (dCB cIntA (dCons (dBin oGt (dVar 5) (dC (.int 5))) dNil)))) (gN 7))
  (sRet (dIf (tTr (dVar 2)) (dCallK F_read_book [0] dNil (dCons (dVar 7) dNil)) (dCall F_read_book (dCons (dVar 7) dNil))))) sNop)
  (sSeq (sIf (tV (dBin oEq (dVar 0) (dC (.str "read world")))) (sSeq (sAsg (dBin oAdd (dBin oAdd (dBin oAdd (dBin oIx (dVar 4) (dC (.int 0))) (dC (.str ","))) (dBin oMulA (dC (.str " ")) (dCB cIntA (dCons (dBin oLt (dVar 5) (dC (.int 6))) dNil)))) (dBin oIx (dVar 4) (dC (.int 1)))) (gN 7))
  (sRet (dIf (tTr (dVar 2)) (dCallK F_read_world [0] dNil (dCons (dVar 7) dNil)) (dCall F_read_world (dCons (dVar 7) dNil))))) sNop)
  (sSeq (sIf (tV (dBin oEq (dVar 0) (dC (.str "known")))) (sRet (dIf (tTr (dVar 2)) (dCallK F_known_book [1, 0] dNil (dCons (dVar 5) (dCons (dVar 6) dNil))) (dCall F_known_book (dCons (dVar 6) (dCons (dVar 5) dNil))))) sNop)
  (sRet (dIf (tTr (dVar 2)) (dCallK F_known_worlds [0] dNil (dCons (dVar 6) dNil)) (dCall F_known_worlds (dCons (dVar 6) dNil)))))))))
def F_law_refusable : Fn := runB 8 p_law_refusable
/-- _law_called: 0=word, 1=own, 2=is_named, 3=slip, 4=book, 5=world, 6=many, 7=name -/
def p_law_called : DSt := (sSeq (sAsg (dVar 1) (gTup 4 (gCons (gN 4) (gCons (gN 5) (gCons (gN 6) (gCons (gN 7) gNil))))))
  (sSeq (sIf (tV (dBin oEq (dVar 0) (dC (.str "error")))) (sRet (dIf (tTr (dVar 2)) (dCallK F_book_error [0] dNil (dCons (dVar 4) dNil)) (dCall F_book_error (dCons (dVar 4) dNil)))) sNop)
  (sSeq (sIf (tV (dBin oEq (dVar 0) (dC (.str "world error")))) (sRet (dIf (tTr (dVar 2)) (dCallK F_world_error [0] dNil (dCons (dVar 5) dNil)) (dCall F_world_error (dCons (dVar 5) dNil)))) sNop)
  (sSeq (sIf (tV (dBin oEq (dVar 0) (dC (.str "text")))) (sRet (dIf (tTr (dVar 2)) (dCallK F_book_text [0] dNil (dCons (dVar 4) dNil)) (dCall F_book_text (dCons (dVar 4) dNil)))) sNop)
  (sSeq (sIf (tV (dBin oEq (dVar 0) (dC (.str "world text")))) (sRet (dIf (tTr (dVar 2)) (dCallK F_world_text [0] dNil (dCons (dVar 5) dNil)) (dCall F_world_text (dCons (dVar 5) dNil)))) sNop)
  (sSeq (sIf (tV (dBin oEq (dVar 0) (dC (.str "names")))) (sRet (dCall F_known_names dNil)) sNop)
  (sTryN (sRet (dCall F_law_refusable (dCons (dVar 0) (dCons (dVar 1) (dCons (dVar 2) dNil))))) [(sub_Unfit, sRetB (dLst (dCons (dC (.str "unfit")) dNil))), (sub_BadText, sRetX 3 (xLst (xCons (xC (dC (.str "text"))) (xCons (xFld "BadText" "line") xNil)))), (sub_BadBook, sRetX 3 (xLst (xCons (xC (dC (.str "book"))) (xCons (xFld "BadBook" "error") xNil))))])))))))
def F_law_called : Fn := runB 8 p_law_called
/-- _law_is_due: 0=word, 1=own, 2=found, 3=book, 4=world, 5=many, 6=name -/
def p_law_is_due : DSt := (sSeq (sAsg (dVar 1) (gTup 4 (gCons (gN 3) (gCons (gN 4) (gCons (gN 5) (gCons (gN 6) gNil))))))
  (sSeq (sIf (tV (dBin oIn (dVar 0) (dTup (dCons (dC (.str "error")) (dCons (dC (.str "world error")) dNil))))) (sRet (dBin oIsN (dVar 2) (dC .non))) sNop)
  (sSeq (sIf (tV (dBin oEq (dVar 0) (dC (.str "text")))) (sRet (dBin oEq (dCB cReprQ (dCons (dVar 2) dNil)) (dCB cReprQ (dCons (dCall F_law_text (dCons (dVar 3) dNil)) dNil)))) sNop)
  (sSeq (sIf (tV (dBin oEq (dVar 0) (dC (.str "world text")))) (sRet (dBin oEq (dCB cReprQ (dCons (dVar 2) dNil)) (dCB cReprQ (dCons (dMtS mJoin (dC (.str ", ")) (dVar 4)) dNil)))) sNop)
  (sSeq (sIf (tV (dBin oEq (dVar 0) (dC (.str "names")))) (sRet (dAnd (dCB cIsi (dCons (dVar 2) (dCons (dC (.ty "tuple")) dNil))) (dBin oEq (dCB cLen (dCons (dVar 2) dNil)) (dC (.int 7))))) sNop)
  (sSeq (sIf (tV (dBin oEq (dVar 0) (dC (.str "alike")))) (sRet (dBin oEq (dCB cReprQ (dCons (dVar 2) dNil)) (dCB cReprQ (dCons (dIf (tV (dChain oLe oLe (dC (.int 2)) (dVar 5) (dC (.int 6)))) (dTup (dCons (dBin oIx (dVar 3) (dC (.int 0))) (dCons (dBin oMulC (dTup (dCons (dBin oIx (dBin oIx (dVar 3) (dC (.int 1))) (dC (.int 0))) dNil)) (dVar 5)) dNil))) (dLst (dCons (dC (.str "unfit")) dNil))) dNil)))) sNop)
  (sSeq (sIf (tV (dBin oEq (dVar 0) (dC (.str "read")))) (sRet (dBin oEq (dCB cReprQ (dCons (dVar 2) dNil)) (dCB cReprQ (dCons (dIf (tV (dBin oLt (dVar 5) (dC (.int 6)))) (dVar 3) (dLst (dCons (dC (.str "text")) (dCons (dBin oAdd (dCB cLen (dCons (dBin oIx (dVar 3) (dC (.int 1))) dNil)) (dC (.int 1))) dNil)))) dNil)))) sNop)
  (sSeq (sIf (tV (dBin oEq (dVar 0) (dC (.str "read world")))) (sRet (dBin oEq (dCB cReprQ (dCons (dVar 2) dNil)) (dCB cReprQ (dCons (dIf (tV (dBin oLt (dVar 5) (dC (.int 6)))) (dVar 4) (dLst (dCons (dC (.str "text")) (dCons (dC (.int 0)) dNil)))) dNil)))) sNop)
  (sSeq (sIf (tV (dBin oEq (dVar 6) (dC (.str "colour")))) (sRet (dBin oEq (dCB cReprQ (dCons (dVar 2) dNil)) (dCB cReprQ (dCons (dLst (dCons (dC (.str "unfit")) dNil)) dNil)))) sNop)
  (sSeq (sIf (tV (dBin oEq (dVar 0) (dC (.str "known")))) (sSeq (sIf (tNotD (tV (dChain oLe oLe (dC (.int 2)) (dVar 5) (dC (.int 6))))) (sRet (dBin oEq (dCB cReprQ (dCons (dVar 2) dNil)) (dCB cReprQ (dCons (dLst (dCons (dC (.str "unfit")) dNil)) dNil)))) sNop)
  (sRet (dAnd (dCB cIsi (dCons (dVar 2) (dCons (dC (.ty "tuple")) dNil))) (dBin oEq (dCB cLen (dCons (dBin oIx (dVar 2) (dC (.int 1))) dNil)) (dVar 5))))) sNop)
  (sRet (dAnd (dCB cIsi (dCons (dVar 2) (dCons (dC (.ty "tuple")) dNil))) (dBin oIn (dTup (dCons (dC (.str "at once")) (dCons (dC (.str "alike")) dNil))) (dVar 2))))))))))))))
def F_law_is_due : Fn := runB 7 p_law_is_due
/-- law: 0=script, 1=deck, 2=turn, 3=known, 4=some, 5=tasks, 6=world, 7=name, 8=rest, 9=which, 10=found, 11=word, 12=own, 13=place -/
def p_law : DSt := (sSeq (sAsg (dCall F_law_deck (dCons (dVar 0) dNil)) (gN 1))
  (sSeq (sPar 4 5 (dCons (dLst dNil) (dCons (dLst dNil) dNil)))
  (sSeq (sFor (dRng (dCons (dC (.int 2)) dNil)) (gN 2)
  (sSeq (sAsg (dTup (dCons (dCall F_law_pick (dCons (dVar 1) (dCons (dLst (dCons (dC (.str "slow")) (dCons (dC (.str "at once")) dNil))) dNil))) (dCons (dCall F_law_pick (dCons (dVar 1) (dCons (dLst (dCons (dC (.str "alike")) (dCons (dC (.str "anew")) dNil))) dNil))) dNil))) (gN 6))
  (sSeq (sAsg (dCall F_law_pick (dCons (dVar 1) (dCons (dLst (dCons (dC (.str "colours")) (dCons (dC (.str "early sum")) (dCons (dC (.str "four counts")) (dCons (dC (.str "sent twice")) (dCons (dC (.str "colour")) dNil)))))) dNil))) (gN 7))
  (sSeq (sExpr (dMtL mAppend (dVar 4) (dCons (dTup (dCons (dCall F_law_book (dCons (dVar 1) dNil)) (dCons (dVar 6) (dCons (dBin oAdd (dC (.int 1)) (dCall F_law_draw (dCons (dVar 1) (dCons (dC (.int 7)) dNil)))) (dCons (dVar 7) dNil))))) dNil)))
  (sSeq (sAsg (dLst (dCons (dC (.str "error")) (dCons (dC (.str "world error")) (dCons (dC (.str "text")) (dCons (dC (.str "world text")) (dCons (dC (.str "names")) (dCons (dC (.str "alike")) (dCons (dC (.str "read")) (dCons (dC (.str "read world")) (dCons (dC (.str "known")) dNil)))))))))) (gN 8))
  (sSeq (sExpr (dMtL mAppend (dVar 8) (dCons (dC (.str "worlds")) dNil)))
  (sExpr (dMtL mAppend (dVar 5) (dCons (dComp [13] (dRng (dCons (dCB cLen (dCons (dVar 8) dNil)) dNil)) (gN 13) tTrue (dMtL mPopAt (dVar 8) (dCons (dCall F_law_draw (dCons (dVar 1) (dCons (dCB cLen (dCons (dVar 8) dNil)) dNil))) dNil))) dNil)))))))))
  (sSeq (sAsg (dCB cReprQ (dCons (dVar 4) dNil)) (gN 3))
  (sSeq (sFor (dRng (dCons (dC (.int 20)) dNil)) (gN 2)
  (sSeq (sAsg (dCall F_law_draw (dCons (dVar 1) (dCons (dC (.int 2)) dNil))) (gN 9))
  (sSeq (sAsg (dIf (tV (dBin oNe (dBin oIx (dVar 5) (dVar 9)) (dLst dNil))) (dVar 9) (dBin oSub (dC (.int 1)) (dVar 9))) (gN 9))
  (sSeq (sPar 11 12 (dCons (dMtL mPop (dBin oIx (dVar 5) (dVar 9)) dNil) (dCons (dBin oIx (dVar 4) (dVar 9)) dNil)))
  (sSeq (sAsg (dCall F_law_called (dCons (dVar 11) (dCons (dVar 12) (dCons (dC (.bl false)) dNil)))) (gN 10))
  (sIf (tOrD (tV (dBin oNe (dCB cReprQ (dCons (dCall F_law_called (dCons (dVar 11) (dCons (dVar 12) (dCons (dC (.bl true)) dNil)))) dNil)) (dCB cReprQ (dCons (dVar 10) dNil)))) (tNotD (tTr (dCall F_law_is_due (dCons (dVar 11) (dCons (dVar 12) (dCons (dVar 10) dNil))))))) (sRet (dC (.bl false))) sNop))))))
  (sRet (dBin oEq (dCB cReprQ (dCons (dVar 4) dNil)) (dVar 3))))))))
def F_law : Fn := runB 14 p_law
end K08

namespace K08
open PySem L2 PySem.Spec PyProof.Rows Den Fk
variable {h : List Ob} {n m : Nat}
/-! the known books, by rows -/
structure Kr where
  nm : Str
  ts : List Ts
  wd : List Str
  ws : List Ts
def KN : List Kr := [
  ⟨"colours", [], ["sent lower"], [("at once", "alike")]⟩,
  ⟨"colours both ways", [], ["sent higher", "sent lower"], [("at once", "alike"), ("at once", "anew")]⟩,
  ⟨"early sum", [("G1", "S1")], ["sent higher"], [("at once", "alike"), ("slow", "alike")]⟩,
  ⟨"four counts", [("G1", "S2")], [], [("at once", "alike"), ("at once", "anew"), ("slow", "alike"), ("slow", "anew")]⟩,
  ⟨"half sum", [("G2", "S2")], ["got lower"], [("at once", "alike"), ("slow", "alike")]⟩,
  ⟨"sent twice", [("S1", "S2")], [], [("at once", "alike"), ("at once", "anew")]⟩,
  ⟨"sum and colours", [("G2", "S2")], ["got higher", "got lower"], [("at once", "alike"), ("at once", "anew"), ("slow", "alike"), ("slow", "anew")]⟩]
def rowD (r : Kr) : D := .tup [.str r.nm, .tup (r.ts.map testD), .tup (r.wd.map D.str), .tup (r.ws.map testD)]
theorem g_eq : g_KNOWN = .tup (KN.map rowD) := rfl
def rb : DSt := (sIf (tV (dBin oEq (dBin oIx (dVar 1) (dC (.int 0))) (dVar 0))) (sRet (dVar 1)) sNop)
theorem nm_good {x : Kr} (hx : x ∈ KN) : Good x.nm := by
  unfold KN at hx
  simp only [List.mem_cons, List.not_mem_nil, or_false] at hx
  rcases hx with rfl | rfl | rfl | rfl | rfl | rfl | rfl <;> exact good_of (by decide +kernel)
theorem rb_one {s : Str} (gs : Good s) {x : Kr} (hx : x ∈ KN) : rb ⟨[some (.str s), some (rowD x)], h⟩ = .ok (if x.nm == s then .ret (rowD x) else .next) ⟨[some (.str s), some (rowD x)], h⟩ := by
  have i0 : ∀ S, oIx (rowD x) (.int 0) S = .ok (.str x.nm) S := fun S => ixT_at S (by decide) rfl
  have e := eq_str (S := ⟨[some (.str s), some (rowD x)], h⟩) (nm_good hx).shaped gs.shaped
  unfold rb
  simp only [z_if, z_tV, z_bin, z_var, z_c, List.getElem?_cons_zero, List.getElem?_cons_succ, Res.bind_ok, i0, e, z_toB]
  cases x.nm == s <;> simp
theorem row_some {s : Str} (gs : Good s) : ∀ (rows : List Kr) (x : Kr) (o : Option D), (∀ y ∈ rows, y ∈ KN) → rows.find? (fun r => r.nm == s) = some x → ∃ S, forV (gN 1) rb (rows.map rowD) ⟨[some (.str s), o], h⟩ = .ok (.ret (rowD x)) S ∧ S.h = h
  | [], x, o, _, e => by cases e
  | y :: rows, x, o, hr, e => by
    rw [List.map_cons]
    unfold forV
    simp only [z_gN, List.set_cons_succ, List.set_cons_zero, rb_one gs (hr y (by simp))]
    rw [List.find?_cons] at e
    cases hy : y.nm == s with
    | true =>
      rw [hy] at e
      cases e
      exact ⟨_, rfl, rfl⟩
    | false =>
      rw [hy] at e
      obtain ⟨S, e1, e2⟩ := row_some gs rows x (some (rowD y)) (fun z hz => hr z (by simp [hz])) e
      exact ⟨S, e1, e2⟩
theorem row_none {s : Str} (gs : Good s) : ∀ (rows : List Kr) (o : Option D), (∀ y ∈ rows, y ∈ KN) → rows.find? (fun r => r.nm == s) = none → ∃ o', forV (gN 1) rb (rows.map rowD) ⟨[some (.str s), o], h⟩ = .ok .next ⟨[some (.str s), o'], h⟩
  | [], o, _, e => ⟨o, rfl⟩
  | y :: rows, o, hr, e => by
    rw [List.map_cons]
    unfold forV
    simp only [z_gN, List.set_cons_succ, List.set_cons_zero, rb_one gs (hr y (by simp))]
    rw [List.find?_cons] at e
    cases hy : y.nm == s with
    | true =>
      rw [hy] at e
      cases e
    | false =>
      rw [hy] at e
      obtain ⟨o', e1⟩ := row_none gs rows (some (rowD y)) (fun z hz => hr z (by simp [hz])) e
      exact ⟨o', e1⟩
theorem v_row_some {s : Str} (gs : Good s) {x : Kr} (e : KN.find? (fun r => r.nm == s) = some x) : F_row_of [.str s] h = .ok (rowD x) ⟨[], h⟩ := by
  obtain ⟨S, e1, e2⟩ := row_some (h := h) gs KN x none (fun _ h => h) e
  refine runB_o ?_
  show Ok (p_row_of ⟨[some (.str s), none], h⟩) _
  have e3 : p_row_of ⟨[some (.str s), none], h⟩ = .ok (.ret (rowD x)) S := by
    unfold p_row_of
    rw [z_seq, sFor_vals (xs := KN.map rowD) (S1 := ⟨[some (.str s), none], h⟩) (by rw [g_eq]; rfl)]
    show (forV (gN 1) rb (KN.map rowD) ⟨[some (.str s), none], h⟩).bind _ = _
    rw [e1]; rfl
  rw [e3]
  exact ⟨rfl, e2⟩
theorem v_row_none {s : Str} (gs : Good s) (e : KN.find? (fun r => r.nm == s) = none) : F_row_of [.str s] h = .exc ⟨"Unfit", []⟩ ⟨[], h⟩ := by
  obtain ⟨o', e1⟩ := row_none (h := h) gs KN none (fun _ h => h) e
  refine runB_exc (S := ⟨[some (.str s), o'], h⟩) ?_
  show p_row_of ⟨[some (.str s), none], h⟩ = _
  unfold p_row_of
  rw [z_seq, sFor_vals (xs := KN.map rowD) (S1 := ⟨[some (.str s), none], h⟩) (by rw [g_eq]; rfl)]
  show (forV (gN 1) rb (KN.map rowD) ⟨[some (.str s), none], h⟩).bind _ = _
  rw [e1]; rfl
theorem v_many (i : Int) : F_is_many [.int i] h = .ok (.bl (decide (2 ≤ i) && decide (i ≤ 6))) ⟨[], h⟩ := by
  refine runB_o ?_
  have e : F_is_integer [.int i] h = .ok (.bl true) ⟨[], h⟩ := runB_o (by simp [p_is_integer, tyName, isaB])
  by_cases h2 : 2 ≤ i <;> by_cases h6 : i ≤ 6 <;> simp [p_is_many, e, g_MAX_MACHINES, h2, h6]
theorem v_alike {t mn : D} {i : Int} (h2 : 2 ≤ i) (h6 : i ≤ 6) : F_alike_for [t, mn, .int i] h = .ok (.tup [t, .tup (List.replicate i.toNat mn)]) ⟨[], h⟩ := by
  have e := v_many (h := h) i
  have a1 : 0 ≤ i := by omega
  have a2 : i ≤ 1000 := by omega
  have rp : (List.replicate i.toNat [mn]).flatten = List.replicate i.toNat mn := by
    induction i.toNat with
    | zero => rfl
    | succ k ih => rw [List.replicate_succ, List.flatten_cons, ih]; rfl
  refine runB_o ?_
  simp [p_alike_for, e, h2, h6, a1, a2, rp]
theorem v_alike_no {t mn : D} {i : Int} (hi : ¬ (2 ≤ i ∧ i ≤ 6)) : F_alike_for [t, mn, .int i] h = .exc ⟨"Unfit", []⟩ ⟨[], h⟩ := by
  have e := v_many (h := h) i
  refine runB_exc (S := ⟨[some t, some mn, some (.int i)], h⟩) ?_
  by_cases h2 : 2 ≤ i
  · have h6 : ¬ i ≤ 6 := fun q => hi ⟨h2, q⟩
    simp [p_alike_for, e, h2, h6]
  · simp [p_alike_for, e, h2]
end K08

namespace K08
open PySem L2 PySem.Spec PyProof.Rows Den Fk
variable {h : List Ob} {n m : Nat}
def rds : List Str := ["slow", "at once"]
def trs : List Str := ["alike", "anew"]
def wD (r t : Str) : D := .tup [.str r, .str t]
theorem it2 (x y : D) (h : List Ob) : F_is_tuple_of [.tup [x, y], .int 2] h = .ok (.bl true) ⟨[], h⟩ := runB_o (by simp [p_is_tuple_of, tyName, isaB])
theorem we_ok {r t : Str} (hr : r ∈ rds) (ht : t ∈ trs) (h : List Ob) : F_world_error [wD r t] h = .ok .non ⟨[], h⟩ := by
  have gr : ∀ u ∈ rds, Good u := fun u hu => by
    simp only [rds, List.mem_cons, List.not_mem_nil, or_false] at hu
    rcases hu with rfl | rfl <;> exact good_of (by decide +kernel)
  have gt : ∀ u ∈ trs, Good u := fun u hu => by
    simp only [trs, List.mem_cons, List.not_mem_nil, or_false] at hu
    rcases hu with rfl | rfl <;> exact good_of (by decide +kernel)
  have e1 : ∀ S, oNotIn (.str r) g_ROADS S = .ok (.bl (!rds.any fun u => u == r)) S := fun S => oNotIn_strs (us := rds) (gr r hr) gr
  have e2 : ∀ S, oIn (.str t) g_TOURS S = .ok (.bl (trs.any fun u => u == t)) S := fun S => oIn_strs (us := trs) (gt t ht) gt
  have a1 : (rds.any fun u => u == r) = true := List.any_eq_true.mpr ⟨r, hr, by simp⟩
  have a2 : (trs.any fun u => u == t) = true := List.any_eq_true.mpr ⟨t, ht, by simp⟩
  rw [a1] at e1
  rw [a2] at e2
  have i0 : ∀ S, oIx (wD r t) (.int 0) S = .ok (.str r) S := fun S => ixT_at S (by decide) rfl
  have i1 : ∀ S, oIx (wD r t) (.int 1) S = .ok (.str t) S := fun S => ixT_at S (by decide) rfl
  have i2 := fun h => it2 (.str r) (.str t) h
  refine runB_o ?_
  show Ok (p_world_error ⟨[some (wD r t)], h⟩) _
  have i2' : ∀ h, F_is_tuple_of [wD r t, .int 2] h = .ok (.bl true) ⟨[], h⟩ := i2
  unfold p_world_error
  simp [i2', i0, i1, e1, e2]
/-! a book is one -/
theorem is_manner_ok {q : Mn} (hq : q.2 ∈ subs four) (h : List Ob) : Ok (F_is_manner [manD q] h) fun d S => d = .bl true ∧ Kp0 h S.h := by
  apply ok_runB
  have e2 := it2 (.bl q.1) (.tup (q.2.map D.str)) h
  have e2 : F_is_tuple_of [manD q, .int 2] h = .ok (.bl true) ⟨[], h⟩ := e2
  obtain ⟨d, S, e3, rfl, k⟩ := (is_notes_ok hq h).ex
  have i0 : ∀ S, oIx (manD q) (.int 0) S = .ok (.bl q.1) S := fun S => ixT_at S (by decide) rfl
  have i1 : ∀ S, oIx (manD q) (.int 1) S = .ok (.tup (q.2.map D.str)) S := fun S => ixT_at S (by decide) rfl
  show Ok (p_is_manner ⟨[some (manD q)], h⟩) _
  simp [p_is_manner, e2, i0, i1, tyName, isaB, e3]
  exact k
theorem manners_error_ok {ms : List Mn} (hm : ∀ x ∈ ms, x.2 ∈ subs four) (h2 : 2 ≤ ms.length) (h6 : ms.length ≤ 6) (h : List Ob) : Ok (F_manners_error [.tup (ms.map manD)] h) fun d S => d = .non ∧ Kp0 h S.h := by
  apply ok_runB
  show Ok (p_manners_error ⟨[some (.tup (ms.map manD)), none, none], h⟩) _
  have e1 := v_many (h := h) (ms.length : Int)
  have a1 : (2 : Int) ≤ ms.length := by omega
  have a2 : (ms.length : Int) ≤ 6 := by omega
  unfold p_manners_error
  rw [z_seq]
  have c1 : (sIf (tNotD (tTr (dCall F_is_many (dCons (dCB cLen (dCons (dVar 0) dNil)) dNil)))) (sRet (dC (.str "manners"))) sNop) ⟨[some (.tup (ms.map manD)), none, none], h⟩ = .ok .next ⟨[some (.tup (ms.map manD)), none, none], h⟩ := by
    simp [e1, a1, a2]
  rw [c1]
  simp only [Res.bind_ok]
  rw [z_seq]
  refine ok_sForV (xs := numD 0 (ms.map manD)) (S0 := ⟨[some (.tup (ms.map manD)), none, none], h⟩) (by simp [dEnumT]) (fun S => ∃ o1 o2 G, S = ⟨[some (.tup (ms.map manD)), o1, o2], G⟩ ∧ Kp0 h G) ⟨_, _, _, rfl, Kp0.refl _⟩ ?_ ?_
  · rintro d hd S ⟨o1, o2, G, rfl, kG⟩
    unfold numD at hd
    obtain ⟨i, hi, rfl⟩ := List.mem_mapIdx.mp hd
    rw [List.length_map] at hi
    have hq := hm ms[i] (List.getElem_mem hi)
    rw [List.getElem_map]
    obtain ⟨d, S, e, rfl, k⟩ := (is_manner_ok hq G).ex
    refine ⟨⟨[some (.tup (ms.map manD)), some (.int (0 + (i : Nat))), some (manD ms[i])], G⟩, rfl, ?_⟩
    have e5 : (sIf (tNotD (tTr (dCall F_is_manner (dCons (dVar 2) dNil)))) (sRet (dTup (dCons (dC (.str "manner")) (dCons (dVar 1) dNil)))) sNop) ⟨[some (.tup (ms.map manD)), some (.int (0 + (i : Nat))), some (manD ms[i])], G⟩ = .ok .next ⟨[some (.tup (ms.map manD)), some (.int (0 + (i : Nat))), some (manD ms[i])], S.h⟩ := by
      simp [e]
    rw [e5]
    exact ⟨.inl rfl, _, _, _, rfl, kG.trans k⟩
  · rintro S ⟨o1, o2, G, rfl, kG⟩
    simp
    exact kG
theorem book_error_ok {T : List Ts} {ms : List Mn} (b : Bk T ms) (h : List Ob) : Ok (F_book_error [bookD T ms] h) fun d S => d = .non ∧ Kp0 h S.h := by
  apply ok_runB
  show Ok (p_book_error ⟨[some (bookD T ms), none, none, none], h⟩) _
  have e2 := it2 (.tup (T.map testD)) (.tup (ms.map manD)) h
  obtain ⟨d1, S1, e3, rfl, k1⟩ := (tests_error_ok b.t h).ex
  obtain ⟨d2, S2, e4, rfl, k2⟩ := (manners_error_ok b.m b.l2 b.l6 S1.h).ex
  unfold p_book_error
  simp [e2, bookD, tyName, isaB, e3, e4]
  exact k1.trans k2
theorem j2 {r t : Str} (hr : r ∈ rds) (ht : t ∈ trs) : joinOk (Str.ofString ", ") [r, t] = true ∧ Txt.join (Str.ofString ", ") [r, t] = r ++ Str.ofString ", " ++ t := by
  simp only [rds, trs, List.mem_cons, List.not_mem_nil, or_false] at hr ht
  rcases hr with rfl | rfl <;> rcases ht with rfl | rfl <;> exact ⟨by decide +kernel, by decide +kernel⟩
theorem wt_ok {r t : Str} (hr : r ∈ rds) (ht : t ∈ trs) (h : List Ob) : F_world_text [wD r t] h = .ok (.str (r ++ Str.ofString ", " ++ t)) ⟨[], h⟩ := by
  obtain ⟨j1, j3⟩ := j2 hr ht
  have js : strsOf [.str r, .str t] = some [r, t] := rfl
  have mj : ∀ S, mJoin (.str (Str.ofString ", ")) [wD r t] S = .ok (.str (r ++ Str.ofString ", " ++ t)) S := fun S => by
    unfold mJoin wD
    dsimp only
    rw [js]
    dsimp only
    rw [j1, j3]; rfl
  refine runB_o ?_
  show Ok (p_world_text ⟨[some (wD r t)], h⟩) _
  simp [p_world_text, mj]
end K08

namespace K08
open PySem L2 PySem.Spec PyProof.Rows Den Fk
variable {h : List Ob} {n m : Nat}
def wtx (r t : Str) (far : Bool) : Str := r ++ Str.ofString "," ++ (if far then Str.ofString " " else Str.ofString "") ++ t
theorem split_far {r t : Str} (hr : r ∈ rds) (ht : t ∈ trs) : Txt.split (wtx r t true) (Str.ofString ", ") = [r, t] ∧ (wtx r t true).length ≤ 100 := by
  simp only [rds, trs, List.mem_cons, List.not_mem_nil, or_false] at hr ht
  rcases hr with rfl | rfl <;> rcases ht with rfl | rfl <;> exact ⟨by decide +kernel, by decide +kernel⟩
theorem split_near {r t : Str} (hr : r ∈ rds) (ht : t ∈ trs) : Txt.split (wtx r t false) (Str.ofString ", ") = [wtx r t false] ∧ (wtx r t false).length ≤ 100 := by
  simp only [rds, trs, List.mem_cons, List.not_mem_nil, or_false] at hr ht
  rcases hr with rfl | rfl <;> rcases ht with rfl | rfl <;> exact ⟨by decide +kernel, by decide +kernel⟩
theorem split_v (x : Str) (hx : x.length ≤ 100) (S : DS) : mSplit (.str x) [.str (Str.ofString ", ")] S = .ok (.ref S.h.length) ⟨S.loc, S.h ++ [.lst ((Txt.split x (Str.ofString ", ")).map .str)]⟩ := by
  unfold mSplit
  dsimp only
  rw [if_pos ⟨by decide +kernel, by rw [mxL_eq]; omega⟩]
  rfl
theorem ti_ref {S : DS} {k : Nat} {xs : List D} (e : S.h[k]? = some (.lst xs)) : cTuple [.ref k] S = .ok (.tup xs) S := by
  unfold cTuple
  simp only [e]
theorem rw_far {r t : Str} (hr : r ∈ rds) (ht : t ∈ trs) (h : List Ob) : ∃ u, F_read_world [.str (wtx r t true)] h = .ok (wD r t) ⟨[], h ++ u⟩ := by
  obtain ⟨s1, s2⟩ := split_far hr ht
  have sp := split_v _ s2
  rw [s1] at sp
  refine ⟨[.lst [.str r, .str t]], runB_o ?_⟩
  have we := we_ok hr ht (h ++ [.lst [.str r, .str t]])
  have ct : cTuple [.ref h.length] ⟨[some (.str (wtx r t true)), none], h ++ [.lst [.str r, .str t]]⟩ = .ok (wD r t) ⟨[some (.str (wtx r t true)), none], h ++ [.lst [.str r, .str t]]⟩ := ti_ref (at_new _ _)
  show Ok (p_read_world ⟨[some (.str (wtx r t true)), none], h⟩) _
  generalize wtx r t true = x at sp ct
  simp [p_read_world, tyName, isaB, sp, ct, we]
theorem it1 (x : D) (h : List Ob) : F_is_tuple_of [.tup [x], .int 2] h = .ok (.bl false) ⟨[], h⟩ := runB_o (by simp [p_is_tuple_of, tyName, isaB])
theorem rw_near {r t : Str} (hr : r ∈ rds) (ht : t ∈ trs) (h : List Ob) : ∃ u, F_read_world [.str (wtx r t false)] h = .exc ⟨"BadText", [("line", .int 0)]⟩ ⟨[], h ++ u⟩ := by
  obtain ⟨s1, s2⟩ := split_near hr ht
  have sp := split_v _ s2
  rw [s1] at sp
  generalize wtx r t false = x at sp
  refine ⟨[.lst [.str x]], ?_⟩
  have we : F_world_error [.tup [.str x]] (h ++ [.lst [.str x]]) = .ok (.str "form") ⟨[], h ++ [.lst [.str x]]⟩ := runB_o (by simp [p_world_error, it1])
  have ct : cTuple [.ref h.length] ⟨[some (.str x), none], h ++ [.lst [.str x]]⟩ = .ok (.tup [.str x]) ⟨[some (.str x), none], h ++ [.lst [.str x]]⟩ := ti_ref (at_new _ _)
  refine runB_exc (S := ⟨[some (.str x), some (.tup [.str x])], h ++ [.lst [.str x]]⟩) ?_
  show p_read_world ⟨[some (.str x), none], h⟩ = _
  simp [p_read_world, tyName, isaB, sp, ct, we]
/-! the known ones -/
def names5 : List Str := ["colours", "early sum", "four counts", "sent twice", "colour"]
theorem n5_good {s : Str} (hs : s ∈ names5) : Good s := by
  simp only [names5, List.mem_cons, List.not_mem_nil, or_false] at hs
  rcases hs with rfl | rfl | rfl | rfl | rfl <;> exact good_of (by decide +kernel)
theorem n5_row {s : Str} (hs : s ∈ names5) : (s = "colour" ∧ KN.find? (fun r => r.nm == s) = none) ∨ ∃ x ∈ KN, s ≠ "colour" ∧ KN.find? (fun r => r.nm == s) = some x := by
  simp only [names5, List.mem_cons, List.not_mem_nil, or_false] at hs
  rcases hs with rfl | rfl | rfl | rfl | rfl
  · exact .inr ⟨_, by simp [KN], by decide +kernel, rfl⟩
  · exact .inr ⟨_, by simp [KN], by decide +kernel, rfl⟩
  · exact .inr ⟨_, by simp [KN], by decide +kernel, rfl⟩
  · exact .inr ⟨_, by simp [KN], by decide +kernel, rfl⟩
  · exact .inl ⟨rfl, rfl⟩
theorem v_kb_yes {s : Str} (gs : Good s) {x : Kr} {i : Int} (e : KN.find? (fun r => r.nm == s) = some x) (h2 : 2 ≤ i) (h6 : i ≤ 6) : F_known_book [.str s, .int i] h = .ok (.tup [.tup (x.ts.map testD), .tup (List.replicate i.toNat (.tup [.bl true, .tup (x.wd.map D.str)]))]) ⟨[], h⟩ := by
  refine runB_o ?_
  have e1 := v_row_some (h := h) gs e
  have i1 : ∀ S, oIx (rowD x) (.int 1) S = .ok (.tup (x.ts.map testD)) S := fun S => ixT_at S (by decide) rfl
  have i2 : ∀ S, oIx (rowD x) (.int 2) S = .ok (.tup (x.wd.map D.str)) S := fun S => ixT_at S (by decide) rfl
  have e2 := v_alike (t := .tup (x.ts.map testD)) (mn := .tup [.bl true, .tup (x.wd.map D.str)]) (h := h) h2 h6
  simp [p_known_book, e1, i1, i2, e2]
theorem v_kb_no1 {s : Str} (gs : Good s) {i : Int} (e : KN.find? (fun r => r.nm == s) = none) : F_known_book [.str s, .int i] h = .exc ⟨"Unfit", []⟩ ⟨[], h⟩ := by
  refine runB_exc (S := ⟨[some (.str s), some (.int i), none], h⟩) ?_
  have e1 := v_row_none (h := h) gs e
  simp [p_known_book, e1]
theorem v_kb_no2 {s : Str} (gs : Good s) {x : Kr} {i : Int} (e : KN.find? (fun r => r.nm == s) = some x) (hi : ¬ (2 ≤ i ∧ i ≤ 6)) : F_known_book [.str s, .int i] h = .exc ⟨"Unfit", []⟩ ⟨[], h⟩ := by
  refine runB_exc (S := ⟨[some (.str s), some (.int i), some (rowD x)], h⟩) ?_
  have e1 := v_row_some (h := h) gs e
  have i1 : ∀ S, oIx (rowD x) (.int 1) S = .ok (.tup (x.ts.map testD)) S := fun S => ixT_at S (by decide) rfl
  have i2 : ∀ S, oIx (rowD x) (.int 2) S = .ok (.tup (x.wd.map D.str)) S := fun S => ixT_at S (by decide) rfl
  have e2 := v_alike_no (t := .tup (x.ts.map testD)) (mn := .tup [.bl true, .tup (x.wd.map D.str)]) (h := h) hi
  simp [p_known_book, e1, i1, i2, e2]
theorem v_kw_yes {s : Str} (gs : Good s) {x : Kr} (e : KN.find? (fun r => r.nm == s) = some x) : F_known_worlds [.str s] h = .ok (.tup (x.ws.map testD)) ⟨[], h⟩ := by
  refine runB_o ?_
  have e1 := v_row_some (h := h) gs e
  have i3 : ∀ S, oIx (rowD x) (.int 3) S = .ok (.tup (x.ws.map testD)) S := fun S => ixT_at S (by decide) rfl
  simp [p_known_worlds, e1, i3]
theorem v_kw_no {s : Str} (gs : Good s) (e : KN.find? (fun r => r.nm == s) = none) : F_known_worlds [.str s] h = .exc ⟨"Unfit", []⟩ ⟨[], h⟩ := by
  refine runB_exc (S := ⟨[some (.str s)], h⟩) ?_
  have e1 := v_row_none (h := h) gs e
  simp [p_known_worlds, e1]
def nms : List D := KN.map fun r => .str r.nm
theorem v_names (h : List Ob) : F_known_names [] h = .ok (.tup nms) ⟨[], h ++ [.lst nms]⟩ := by
  refine runB_o ?_
  show Ok (p_known_names ⟨[none], h⟩) _
  have c := comp_m (enc := rowD) (enc' := D.str) (fun r : Kr => r.nm) (l := KN) (vs := [0]) (it := dIter (dC g_KNOWN)) (g := gN 0) (e := dBin oIx (dVar 0) (dC (.int 0))) (S := ⟨[none], h⟩) (S1 := ⟨[none], h⟩) (I := .vals (KN.map rowD)) (by rw [g_eq]; rfl) rfl (by decide) (fun r hr => ⟨⟨[some (rowD r)], h⟩, rfl, ⟨[some (rowD r)], h⟩, by rw [z_bin]; exact ixT_at (xs := [.str r.nm, .tup (r.ts.map testD), .tup (r.wd.map D.str), .tup (r.ws.map testD)]) (r := 0) (d := .str r.nm) _ (by decide) rfl, rfl⟩)
  have c2 : nms = (KN.map fun r => r.nm).map D.str := by unfold nms; rw [List.map_map]; rfl
  unfold p_known_names
  simp only [z_ret, z_cb, z_cons, z_nil, c, Res.bind_ok, ← c2]
  have ct : cTuple [.ref h.length] ⟨[none], h ++ [.lst nms]⟩ = .ok (.tup nms) ⟨[none], h ++ [.lst nms]⟩ := ti_ref (at_new _ _)
  rw [ct]
  exact ⟨rfl, rfl⟩
end K08

namespace K08
open PySem L2 PySem.Spec PyProof.Rows Den Fk
variable {h : List Ob} {n m : Nat}
theorem forO_bad {it : List Ob → Nat → Option (Option D)} {g : DG} {b : DSt} {xs : List D} {j : Nat} {dj : D} {x : Xn} (I : Nat → DS → Prop) (P : DS → Prop) (hj : xs[j]? = some dj) (hh : ∀ i S, I i S → it S.h i = some xs[i]?)
    (step : ∀ i d S, i < j → xs[i]? = some d → I i S → ∃ S1, g d S = some S1 ∧ Ok (b S1) fun f S2 => f = .next ∧ I (i + 1) S2)
    (bad : ∀ S, I j S → ∃ S1, g dj S = some S1 ∧ ∃ S2, b S1 = .exc x S2 ∧ P S2) : ∀ (k i : Nat) (S : DS), i ≤ j → j < i + k → I i S → ∃ S2, forO it g b k i S = .exc x S2 ∧ P S2
  | 0, i, S, h1, h2, _ => by omega
  | k + 1, i, S, h1, h2, ii => by
    by_cases e : i = j
    · subst e
      obtain ⟨S1, e1, S2, e2, p⟩ := bad S ii
      exact ⟨S2, forO_exc ((hh i S ii).trans (by rw [hj])) e1 e2, p⟩
    · have hi : i < j := by omega
      have hl : i < xs.length := by have := (List.getElem?_eq_some_iff.mp hj).1; omega
      obtain ⟨S1, e1, o⟩ := step i xs[i] S hi (List.getElem?_eq_getElem hl) ii
      obtain ⟨f, S2, e2, rfl, i2⟩ := o.ex
      obtain ⟨S3, e3, p⟩ := forO_bad I P hj hh step bad k (i + 1) S2 (by omega) (by omega) i2
      exact ⟨S3, by rw [forO_next ((hh i S ii).trans (by rw [List.getElem?_eq_getElem hl])) e1 e2]; exact e3, p⟩
theorem part_nil : Txt.partition (Str.ofString "") (Str.ofString ": ") = (Str.ofString "", Str.ofString "", Str.ofString "") := by decide +kernel
theorem manner_nil (h : List Ob) : F_manner_of [.str (Str.ofString "")] h = .ok .non ⟨[], h⟩ := by
  refine runB_o ?_
  show Ok (p_manner_of ⟨[some (.str (Str.ofString "")), none, none, none, none], h⟩) _
  have p : ∀ S, mPart (.str (Str.ofString "")) [.str (Str.ofString ": ")] S = .ok (.tup [.str (Str.ofString ""), .str (Str.ofString ""), .str (Str.ofString "")]) S := fun S => by
    unfold mPart
    dsimp only
    rw [part_nil, if_pos ⟨by decide +kernel, by decide +kernel⟩]
  have gu : ∀ u ∈ ([Str.ofString "waits", Str.ofString "any time"] : List Str), Good u := fun u hu => by
    simp only [List.mem_cons, List.not_mem_nil, or_false] at hu
    rcases hu with rfl | rfl <;> exact good_of (by decide +kernel)
  have ni : ∀ S, oNotIn (.str (Str.ofString "")) (.tup [g_WAITS, g_ANY_TIME]) S = .ok (.bl true) S := fun S => by
    have := oNotIn_strs (S := S) (a := Str.ofString "") (us := [Str.ofString "waits", Str.ofString "any time"]) (good_of (by decide +kernel)) gu
    rw [show (([Str.ofString "waits", Str.ofString "any time"] : List Str).any fun u => u == Str.ofString "") = false from by decide +kernel] at this
    exact this
  have tr : ∀ S, toTru (.str (Str.ofString "")) S = .ok false S := fun S => rfl
  simp [p_manner_of, p, ni, tr]
def linesD (ms : List Mn) : List D := ((ms.map manL ++ [Str.ofString ""]).map D.str)
theorem manners_bad {ms : List Mn} (hm : ∀ x ∈ ms, x.2 ∈ subs four) (hl : ms.length ≤ 6) {h : List Ob} {n : Nat} (hn : h[n]? = some (.lst (linesD ms))) :
    ∃ S, F_manners_of [.ref n] h = .exc ⟨"BadText", [("line", .int (ms.length + 1))]⟩ ⟨[], S⟩ ∧ Kp0 h S := by
  have e0 : sAsg (dLst dNil) (gN 1) ⟨[some (.ref n), none, none, none, none], h⟩ = .ok .next ⟨[some (.ref n), some (.ref h.length), none, none, none], h ++ [Ob.lst []]⟩ := by simp
  have lx : (linesD ms).length = ms.length + 1 := by simp [linesD]
  obtain ⟨S2, e2, p2⟩ := forO_bad (it := numIt 1 (lstIt n)) (g := gTup 2 (gCons (gN 2) (gCons (gN 3) gNil))) (b := bodyM) (xs := numD 1 (linesD ms)) (j := ms.length) (dj := .tup [.int (1 + (ms.length : Nat)), .str (Str.ofString "")]) (x := ⟨"BadText", [("line", .int (ms.length + 1))]⟩)
    (fun i S => i ≤ ms.length ∧ (∃ a2 a3 a4, S.loc = [some (.ref n), some (.ref h.length), a2, a3, a4]) ∧ Kp0 h S.h ∧ S.h[h.length]? = some (.lst ((ms.take i).map manD))) (fun S => Kp0 h S.h)
    (by
      unfold numD linesD
      rw [List.getElem?_mapIdx, List.getElem?_map, List.getElem?_append_right (by simp)]
      simp)
    (by
      rintro i S ⟨_, _, k, _⟩
      rw [numIt_of (k _ _ hn)]
      unfold numD
      rw [List.getElem?_mapIdx])
    (by
      rintro i d ⟨loc, h1⟩ hi hd ⟨_, ⟨a2, a3, a4, rfl⟩, k, e⟩
      have hx : (linesD ms)[i]? = some (.str (manL ms[i])) := by
        unfold linesD
        rw [List.getElem?_map, List.getElem?_append_left (by simpa using hi)]
        simp [hi]
      have hd' : d = .tup [.int (1 + (i : Nat)), .str (manL ms[i])] := by
        unfold numD at hd
        rw [List.getElem?_mapIdx, hx] at hd
        simpa using hd.symm
      subst hd'
      refine ⟨_, g_two 2 3 _ _ _, ?_⟩
      refine okmp (turnM (hm ms[i] (List.getElem_mem hi)) k (Nat.le_refl _) e (by simp; omega)) ?_
      rintro f S ⟨rfl, q1, q2, q3⟩
      refine ⟨rfl, by omega, ⟨_, _, _, q1⟩, q2, ?_⟩
      rw [q3, List.take_add_one, List.getElem?_eq_getElem hi, List.map_append]
      rfl)
    (by
      rintro ⟨loc, h1⟩ ⟨_, ⟨a2, a3, a4, rfl⟩, k, e⟩
      refine ⟨_, g_two 2 3 _ _ _, ⟨[some (.ref n), some (.ref h.length), some (.int (1 + (ms.length : Nat))), some (.str (Str.ofString "")), some .non], h1⟩, ?_, k⟩
      have ma := manner_nil h1
      simp [bodyM, ma]
      omega)
    100000 0 ⟨[some (.ref n), some (.ref h.length), none, none, none], h ++ [Ob.lst []]⟩ (Nat.zero_le _) (by omega) ⟨Nat.zero_le _, ⟨_, _, _, rfl⟩, Kp0.app _ _, at_new _ _⟩
  refine ⟨S2.h, runB_exc (S := S2) ?_, p2⟩
  show p_manners_of ⟨[some (.ref n), none, none, none, none], h⟩ = _
  rw [manners_eq, z_seq, e0, Res.bind_ok]
  dsimp only
  rw [z_seq, sFor_dyn (enumS_var (by decide) rfl (xs := linesD ms) (at_old hn)), e2]
  rfl
end K08

namespace K08
open PySem L2 PySem.Spec PyProof.Rows Den Fk
variable {h : List Ob} {n m : Nat}
theorem join_snoc (sep x : Str) : ∀ (l : List Str), l ≠ [] → Str.join sep (l ++ [x]) = Str.join sep l ++ sep ++ x
  | [], hn => absurd rfl hn
  | [a], _ => by
    simp [Str.join]
  | a :: b :: l, _ => by
    have ih := join_snoc sep x (b :: l) (by simp)
    have e1 : Str.join sep (a :: b :: l ++ [x]) = a ++ sep ++ Str.join sep (b :: l ++ [x]) := rfl
    have e2 : Str.join sep (a :: b :: l) = a ++ sep ++ Str.join sep (b :: l) := rfl
    rw [e1, e2, ih]
    apply TL.ext_tl
    simp [TL.tl_append]
theorem more_lines {T : List Ts} {ms : List Mn} (b : Bk T ms) : Txt.split (bookT T ms ++ Str.ofString "\n") (Str.ofString "\n") = testsL T :: (ms.map manL ++ [Str.ofString ""]) := by
  have e : bookT T ms ++ Str.ofString "\n" = Str.join (Str.ofString "\n") ((testsL T :: ms.map manL) ++ [Str.ofString ""]) := by
    rw [join_snoc _ _ _ (by simp)]
    apply TL.ext_tl
    simp [TL.tl_append, bookT]
    rfl
  rw [e]
  refine split_read nl_cps (by decide) (by simp) fun p hp => ?_
  rcases List.mem_append.mp hp with hp | hp
  · rcases List.mem_cons.mp hp with rfl | hp
    · exact (t_ok b.t).2.2.1
    · obtain ⟨m, hm, rfl⟩ := List.mem_map.mp hp
      exact (m_ok (b.m m hm)).2.2.1
  · rw [List.mem_singleton.mp hp]
    decide +kernel
theorem read_more {T : List Ts} {ms : List Mn} (b : Bk T ms) (h : List Ob) : ∃ S, F_read_book [.str (bookT T ms ++ Str.ofString "\n")] h = .exc ⟨"BadText", [("line", .int (ms.length + 1))]⟩ ⟨[], S⟩ ∧ Kp0 h S := by
  have l1 := (bookJ b).2.1
  have ml := more_lines b
  have l2 : (bookT T ms ++ Str.ofString "\n").length ≤ 999998 := by
    have : (bookT T ms ++ Str.ofString "\n").length = (bookT T ms).length + (Str.ofString "\n").length := Str.length_append _ _
    rw [this, nl_len]; omega
  have isS : isaB "str" "str" = some true := by decide
  obtain ⟨d1, S1, q1, rfl, k1⟩ := (tests_of_ok b.t (h ++ [Ob.lst ((testsL T :: (ms.map manL ++ [Str.ofString ""])).map D.str)])).ex
  have hl := k1 _ _ (at_new _ _)
  have kt : Kp0 h S1.h := (Kp0.app _ _).trans k1
  obtain ⟨S2, q2, k2⟩ := manners_bad b.m b.l6 (h := S1.h ++ [Ob.lst (linesD ms)]) (at_new _ _)
  generalize bookT T ms ++ Str.ofString "\n" = x at ml l2
  refine ⟨S2, runB_exc (S := ⟨[some (.str x), some (.ref h.length), some (.tup (T.map testD)), none], S2⟩) ?_, (kt.trans (Kp0.app _ _)).trans k2⟩
  show p_read_book ⟨[some (.str x), none, none, none], h⟩ = _
  have el : ((testsL T :: (ms.map manL ++ [Str.ofString ""])).map D.str) = .str (testsL T) :: linesD ms := rfl
  rw [el] at q1 hl
  have ml2 : (Txt.split x (Str.ofString "\n")).map D.str = .str (testsL T) :: linesD ms := by rw [ml]; rfl
  generalize linesD ms = ls at *
  simp [p_read_book, at0, isS, nl_len, l2, ml2, q1, Den.isNon, z_slL, hl, cut_tl, q2]
end K08

namespace K08
open PySem L2 PySem.Spec PyProof.Rows Den Fk
variable {h : List Ob} {n m : Nat}
def tP (t : Ts) : PyData := .tuple [.str t.1, .str t.2]
def mP (m : Mn) : PyData := .tuple [.bool m.1, .tuple (m.2.map PyData.str)]
def bP (T : List Ts) (ms : List Mn) : PyData := .tuple [.tuple (T.map tP), .tuple (ms.map mP)]
theorem vq_t (t : Ts) : Vq h (testD t) (tP t) := .tup (.cons (.str _) (.cons (.str _) .nil))
theorem vq_m (x : Mn) : Vq h (manD x) (mP x) := .tup (.cons (.bl _) (.cons (.tup (Vqs.of_map (fun _ => .str _) _)) .nil))
theorem vq_b (T : List Ts) (ms : List Mn) : Vq h (bookD T ms) (bP T ms) := .tup (.cons (.tup (Vqs.of_map vq_t _)) (.cons (.tup (Vqs.of_map vq_m _)) .nil))
theorem sq_t {t : Ts} (ht : t ∈ six) : Sq (tP t) 20 1 := by
  have : ∀ t ∈ six, sqB (tP t) 20 1 = true := by decide +kernel
  exact sq_of (this t ht)
theorem sq_w {w : Str} (hw : w ∈ four) : Sq (.str w) 20 0 := by
  have : ∀ w ∈ four, sqB (.str w) 20 0 = true := by decide +kernel
  exact sq_of (this w hw)
theorem sq_m {x : Mn} (hx : x.2 ∈ subs four) : Sq (mP x) 200 2 := by
  obtain ⟨l4, mem⟩ := four_len hx
  have h1 : Sq (.tuple (x.2.map PyData.str)) 91 1 := (sq_tup (n := 20) (k := 0) fun p hp => by
    obtain ⟨w, hw, rfl⟩ := List.mem_map.mp hp
    exact sq_w (mem w hw)).le (by rw [List.length_map]; omega) (by decide)
  have h2 : Sq (.bool x.1) 91 1 := by cases x.1 <;> exact sq_of (by decide +kernel)
  exact (sq_tup (n := 91) (k := 1) fun p hp => by
    simp only [List.mem_cons, List.not_mem_nil, or_false] at hp
    rcases hp with rfl | rfl
    · exact h2
    · exact h1).le (by simp) (by decide)
theorem sq_T {T : List Ts} (hT : T ∈ subs six) : Sq (.tuple (T.map tP)) 1300 3 := by
  obtain ⟨t6, mem⟩ := six_len hT
  exact (sq_tup (n := 20) (k := 1) fun p hp => by
    obtain ⟨u, hu, rfl⟩ := List.mem_map.mp hp
    exact sq_t (mem u hu)).le (by rw [List.length_map]; omega) (by decide)
theorem sq_ms {ms : List Mn} (hm : ∀ x ∈ ms, x.2 ∈ subs four) (h6 : ms.length ≤ 6) : Sq (.tuple (ms.map mP)) 1300 3 :=
  (sq_tup (n := 200) (k := 2) fun p hp => by
    obtain ⟨u, hu, rfl⟩ := List.mem_map.mp hp
    exact sq_m (hm u hu)).le (by rw [List.length_map]; omega) (by decide)
theorem sq_pair {a b : PyData} (ha : Sq a 1300 3) (hb : Sq b 1300 3) : Sq (.tuple [a, b]) 5000 4 := (sq_tup (n := 1300) (k := 3) fun p hp => by
    simp only [List.mem_cons, List.not_mem_nil, or_false] at hp
    rcases hp with rfl | rfl
    · exact ha
    · exact hb).le (by simp) (by decide)
theorem sq_b {T : List Ts} {ms : List Mn} (b : Bk T ms) : Sq (bP T ms) 5000 4 := sq_pair (sq_T b.t) (sq_ms b.m b.l6)
structure Ow (T : List Ts) (ms : List Mn) (r t : Str) (i : Int) (s : Str) : Prop where
  b : Bk T ms
  hr : r ∈ rds
  ht : t ∈ trs
  i1 : 1 ≤ i
  i7 : i ≤ 7
  hs : s ∈ names5
def ownD (T : List Ts) (ms : List Mn) (r t : Str) (i : Int) (s : Str) : D := .tup [bookD T ms, wD r t, .int i, .str s]
def unP : PyData := .list [.str "unfit"]
theorem sq_un : Sq unP 5000 4 := sq_of (by decide +kernel)
theorem vq_un {k : Nat} (e : h[k]? = some (.lst [.str "unfit"])) : Vq h (.ref k) unP := .lst e (.cons (.str _) .nil)
def lc1 : DSt := (sAsg (dVar 1) (gTup 4 (gCons (gN 4) (gCons (gN 5) (gCons (gN 6) (gCons (gN 7) gNil))))))
def lc2 : DSt := (sIf (tV (dBin oEq (dVar 0) (dC (.str "error")))) (sRet (dIf (tTr (dVar 2)) (dCallK F_book_error [0] dNil (dCons (dVar 4) dNil)) (dCall F_book_error (dCons (dVar 4) dNil)))) sNop)
def lc3 : DSt := (sIf (tV (dBin oEq (dVar 0) (dC (.str "world error")))) (sRet (dIf (tTr (dVar 2)) (dCallK F_world_error [0] dNil (dCons (dVar 5) dNil)) (dCall F_world_error (dCons (dVar 5) dNil)))) sNop)
def lc4 : DSt := (sIf (tV (dBin oEq (dVar 0) (dC (.str "text")))) (sRet (dIf (tTr (dVar 2)) (dCallK F_book_text [0] dNil (dCons (dVar 4) dNil)) (dCall F_book_text (dCons (dVar 4) dNil)))) sNop)
def lc5 : DSt := (sIf (tV (dBin oEq (dVar 0) (dC (.str "world text")))) (sRet (dIf (tTr (dVar 2)) (dCallK F_world_text [0] dNil (dCons (dVar 5) dNil)) (dCall F_world_text (dCons (dVar 5) dNil)))) sNop)
def lc6 : DSt := (sIf (tV (dBin oEq (dVar 0) (dC (.str "names")))) (sRet (dCall F_known_names dNil)) sNop)
def lc7 : DSt := (sTryN (sRet (dCall F_law_refusable (dCons (dVar 0) (dCons (dVar 1) (dCons (dVar 2) dNil))))) [(sub_Unfit, sRetB (dLst (dCons (dC (.str "unfit")) dNil))), (sub_BadText, sRetX 3 (xLst (xCons (xC (dC (.str "text"))) (xCons (xFld "BadText" "line") xNil)))), (sub_BadBook, sRetX 3 (xLst (xCons (xC (dC (.str "book"))) (xCons (xFld "BadBook" "error") xNil))))])
theorem p_law_called_eq : p_law_called = (sSeq lc1 (sSeq lc2 (sSeq lc3 (sSeq lc4 (sSeq lc5 (sSeq lc6 lc7)))))) := rfl
def lr1 : DSt := (sAsg (dVar 1) (gTup 4 (gCons (gN 3) (gCons (gN 4) (gCons (gN 5) (gCons (gN 6) gNil))))))
def lr2 : DSt := (sIf (tV (dBin oEq (dVar 0) (dC (.str "alike")))) (sSeq (sIf (tTr (dVar 2)) (sRet (dCallK F_alike_for [1, 2, 0] dNil (dCons (dVar 5) (dCons (dBin oIx (dVar 3) (dC (.int 0))) (dCons (dBin oIx (dBin oIx (dVar 3) (dC (.int 1))) (dC (.int 0))) dNil))))) sNop) (sRet (dCall F_alike_for (dCons (dBin oIx (dVar 3) (dC (.int 0))) (dCons (dBin oIx (dBin oIx (dVar 3) (dC (.int 1))) (dC (.int 0))) (dCons (dVar 5) dNil)))))) sNop)
def lr3 : DSt := (sIf (tV (dBin oEq (dVar 0) (dC (.str "read")))) (sSeq (sAsg (dBin oAdd (dCall F_law_text (dCons (dVar 3) dNil)) (dBin oMulA (dC (.str "\n")) (dCB cIntA (dCons (dBin oGt (dVar 5) (dC (.int 5))) dNil)))) (gN 7)) (sRet (dIf (tTr (dVar 2)) (dCallK F_read_book [0] dNil (dCons (dVar 7) dNil)) (dCall F_read_book (dCons (dVar 7) dNil))))) sNop)
def lr4 : DSt := (sIf (tV (dBin oEq (dVar 0) (dC (.str "read world")))) (sSeq (sAsg (dBin oAdd (dBin oAdd (dBin oAdd (dBin oIx (dVar 4) (dC (.int 0))) (dC (.str ","))) (dBin oMulA (dC (.str " ")) (dCB cIntA (dCons (dBin oLt (dVar 5) (dC (.int 6))) dNil)))) (dBin oIx (dVar 4) (dC (.int 1)))) (gN 7)) (sRet (dIf (tTr (dVar 2)) (dCallK F_read_world [0] dNil (dCons (dVar 7) dNil)) (dCall F_read_world (dCons (dVar 7) dNil))))) sNop)
def lr5 : DSt := (sIf (tV (dBin oEq (dVar 0) (dC (.str "known")))) (sRet (dIf (tTr (dVar 2)) (dCallK F_known_book [1, 0] dNil (dCons (dVar 5) (dCons (dVar 6) dNil))) (dCall F_known_book (dCons (dVar 6) (dCons (dVar 5) dNil))))) sNop)
def lr6 : DSt := (sRet (dIf (tTr (dVar 2)) (dCallK F_known_worlds [0] dNil (dCons (dVar 6) dNil)) (dCall F_known_worlds (dCons (dVar 6) dNil))))
theorem p_law_refusable_eq : p_law_refusable = (sSeq lr1 (sSeq lr2 (sSeq lr3 (sSeq lr4 (sSeq lr5 lr6))))) := rfl

def wds : List Str := ["error", "world error", "text", "world text", "names", "alike", "read", "read world", "known", "worlds"]
theorem w_good {w : Str} (hw : w ∈ wds) : Good w := by
  simp only [wds, List.mem_cons, List.not_mem_nil, or_false] at hw
  rcases hw with rfl | rfl | rfl | rfl | rfl | rfl | rfl | rfl | rfl | rfl <;> exact good_of (by decide +kernel)
theorem if_ne {w u : Str} {X : DSt} {S : DS} (hw : w ∈ wds) (hu : u ∈ wds) (hl : S.loc[0]? = some (some (.str w))) (hne : (w == u) = false) : sIf (tV (dBin oEq (dVar 0) (dC (.str u)))) X sNop S = .ok .next S := by
  have e := eq_str (S := S) (w_good hw).shaped (w_good hu).shaped
  rw [hne] at e
  simp [hl, e]
theorem if_eq {w : Str} {X : DSt} {S : DS} (hw : w ∈ wds) (hl : S.loc[0]? = some (some (.str w))) : sIf (tV (dBin oEq (dVar 0) (dC (.str w)))) X sNop S = X S := by
  have e := eq_str (S := S) (w_good hw).shaped (w_good hw).shaped
  simp [hl, e]
theorem seq_next {a b : DSt} {S S1 : DS} {Q : Fl → DS → Prop} (e : a S = .ok .next S1) (o : Ok (b S1) Q) : Ok (sSeq a b S) Q := by
  rw [z_seq, e]
  exact o
theorem seq_ret {a b : DSt} {S : DS} {Q : Fl → DS → Prop} (o : Ok (a S) fun f S' => (∃ d, f = .ret d) ∧ Q f S') : Ok (sSeq a b S) Q := by
  obtain ⟨f, S', e, ⟨d, rfl⟩, q⟩ := o.ex
  rw [z_seq, e]
  exact q
abbrev C8 (w : Str) (o : D) (nb : Bool) (a b c d e : Option D) (h : List Ob) : DS := ⟨[some (.str w), some o, some (.bl nb), a, b, c, d, e], h⟩
theorem unpack {T : List Ts} {ms : List Mn} {r t : Str} {i : Int} {s w : Str} {nb : Bool} : lc1 (C8 w (ownD T ms r t i s) nb none none none none none h) = .ok .next (C8 w (ownD T ms r t i s) nb none (some (bookD T ms)) (some (wD r t)) (some (.int i)) (some (.str s)) h) := by
  simp [lc1, ownD]
end K08

namespace K08
open PySem L2 PySem.Spec PyProof.Rows Den Fk
variable {h : List Ob} {n m : Nat} {T : List Ts} {ms : List Mn} {r t s : Str} {i : Int}
theorem dir {F : Fn} {k : Nat} {v d : D} {S S1 : DS} {nb : Bool} (h2 : S.loc[2]? = some (some (.bl nb))) (hk : S.loc[k]? = some (some v)) (e : F [v] S.h = .ok d S1) : sRet (dIf (tTr (dVar 2)) (dCallK F [0] dNil (dCons (dVar k) dNil)) (dCall F (dCons (dVar k) dNil))) S = .ok (.ret d) ⟨S.loc, S1.h⟩ := by
  have pk : pick [0] [v] = [v] := rfl
  cases nb <;> simp [h2, hk, pk, e]
def Cal (T : List Ts) (ms : List Mn) (r t : Str) (i : Int) (s w : Str) (P : PyData) : Prop := ∀ (nb : Bool) (h : List Ob), Ok (F_law_called [.str w, ownD T ms r t i s, .bl nb] h) fun d S => Vq S.h d P ∧ Kp0 h S.h
theorem cal_of {w : Str} {P : PyData} (k : ∀ (nb : Bool) (h : List Ob), Ok ((sSeq lc2 (sSeq lc3 (sSeq lc4 (sSeq lc5 (sSeq lc6 lc7))))) (C8 w (ownD T ms r t i s) nb none (some (bookD T ms)) (some (wD r t)) (some (.int i)) (some (.str s)) h)) fun f S => (∃ d, f = .ret d ∧ Vq S.h d P) ∧ Kp0 h S.h) : Cal T ms r t i s w P := fun nb h => by
  apply ok_runB
  show Ok (p_law_called (C8 w (ownD T ms r t i s) nb none none none none none h)) _
  rw [p_law_called_eq]
  refine seq_next unpack ?_
  obtain ⟨f, S, e, ⟨d, rfl, v⟩, kp⟩ := (k nb h).ex
  rw [e]
  exact ⟨v, kp⟩
theorem seq_ret2 {a b : DSt} {S S1 : DS} {d : D} {Q : Fl → DS → Prop} (e : a S = .ok (.ret d) S1) (q : Q (.ret d) S1) : Ok (sSeq a b S) Q := by
  rw [z_seq, e]
  exact q
theorem cal_error (o : Ow T ms r t i s) : Cal T ms r t i s "error" .none := cal_of fun nb h => by
  obtain ⟨d, S, e, rfl, k⟩ := (book_error_ok o.b h).ex
  refine seq_ret2 (d := .non) (S1 := ⟨_, S.h⟩) ((if_eq (by simp [wds]) rfl).trans (dir (nb := nb) rfl rfl e)) ⟨⟨_, rfl, .non⟩, k⟩
theorem cal_worldE (o : Ow T ms r t i s) : Cal T ms r t i s "world error" .none := cal_of fun nb h => by
  refine seq_next (if_ne (by simp [wds]) (by simp [wds]) rfl (by decide +kernel)) ?_
  exact seq_ret2 ((if_eq (by simp [wds]) rfl).trans (dir (nb := nb) rfl rfl (we_ok o.hr o.ht h))) ⟨⟨_, rfl, .non⟩, Kp0.refl _⟩
theorem cal_text (o : Ow T ms r t i s) : Cal T ms r t i s "text" (.str (bookT T ms)) := cal_of fun nb h => by
  refine seq_next (if_ne (by simp [wds]) (by simp [wds]) rfl (by decide +kernel)) (seq_next (if_ne (by simp [wds]) (by simp [wds]) rfl (by decide +kernel)) ?_)
  obtain ⟨d, S, e, rfl, k⟩ := (book_text_ok o.b h).ex
  exact seq_ret2 ((if_eq (by simp [wds]) rfl).trans (dir (nb := nb) rfl rfl e)) ⟨⟨_, rfl, .str _⟩, k⟩
theorem cal_worldT (o : Ow T ms r t i s) : Cal T ms r t i s "world text" (.str (r ++ Str.ofString ", " ++ t)) := cal_of fun nb h => by
  refine seq_next (if_ne (by simp [wds]) (by simp [wds]) rfl (by decide +kernel)) (seq_next (if_ne (by simp [wds]) (by simp [wds]) rfl (by decide +kernel)) (seq_next (if_ne (by simp [wds]) (by simp [wds]) rfl (by decide +kernel)) ?_))
  exact seq_ret2 ((if_eq (by simp [wds]) rfl).trans (dir (nb := nb) rfl rfl (wt_ok o.hr o.ht h))) ⟨⟨_, rfl, .str _⟩, Kp0.refl _⟩
def nmP : PyData := .tuple (KN.map fun r => .str r.nm)
theorem cal_names (o : Ow T ms r t i s) : Cal T ms r t i s "names" nmP := cal_of fun nb h => by
  refine seq_next (if_ne (by simp [wds]) (by simp [wds]) rfl (by decide +kernel)) (seq_next (if_ne (by simp [wds]) (by simp [wds]) rfl (by decide +kernel)) (seq_next (if_ne (by simp [wds]) (by simp [wds]) rfl (by decide +kernel)) (seq_next (if_ne (by simp [wds]) (by simp [wds]) rfl (by decide +kernel)) ?_)))
  have vn := v_names h
  refine seq_ret2 (d := .tup nms) (S1 := ⟨_, h ++ [.lst nms]⟩) ((if_eq (by simp [wds]) rfl).trans (by rw [z_ret, z_call, z_nil, Res.bind_ok]; rw [vn]; rfl)) ⟨⟨_, rfl, .tup (Vqs.of_map (enc := fun r : Kr => D.str r.nm) (py := fun r : Kr => PyData.str r.nm) (fun r => .str _) KN)⟩, Kp0.app _ _⟩
/-! what may be refused -/
def Ref (T : List Ts) (ms : List Mn) (r t : Str) (i : Int) (s w : Str) (P : PyData) : Prop := ∀ (nb : Bool) (h : List Ob),
  (Ok (F_law_refusable [.str w, ownD T ms r t i s, .bl nb] h) fun d S => Vq S.h d P ∧ Kp0 h S.h) ∨
  (P = unP ∧ ∃ u, F_law_refusable [.str w, ownD T ms r t i s, .bl nb] h = .exc ⟨"Unfit", []⟩ ⟨[], h ++ u⟩) ∨
  (∃ k : Int, P = .list [.str "text", .int k] ∧ ∃ H, F_law_refusable [.str w, ownD T ms r t i s, .bl nb] h = .exc ⟨"BadText", [("line", .int k)]⟩ ⟨[], H⟩ ∧ Kp0 h H)
theorem cal_ref {w : Str} {P : PyData} (hw : w ∈ (["alike", "read", "read world", "known", "worlds"] : List Str)) (k : Ref T ms r t i s w P) : Cal T ms r t i s w P := cal_of fun nb h => by
  have mw : w ∈ wds := by
    simp only [List.mem_cons, List.not_mem_nil, or_false] at hw
    rcases hw with rfl | rfl | rfl | rfl | rfl <;> simp [wds]
  have ne : ∀ u ∈ (["error", "world error", "text", "world text", "names"] : List Str), (w == u) = false := by
    simp only [List.mem_cons, List.not_mem_nil, or_false] at hw
    rcases hw with rfl | rfl | rfl | rfl | rfl <;> decide +kernel
  refine seq_next (if_ne mw (by simp [wds]) rfl (ne _ (by simp))) (seq_next (if_ne mw (by simp [wds]) rfl (ne _ (by simp))) (seq_next (if_ne mw (by simp [wds]) rfl (ne _ (by simp))) (seq_next (if_ne mw (by simp [wds]) rfl (ne _ (by simp))) (seq_next (if_ne mw (by simp [wds]) rfl (ne _ (by simp))) ?_))))
  have su1 : sub_Unfit "Unfit" = some true := by decide +kernel
  have su2 : sub_Unfit "BadText" = some false := by decide +kernel
  have su3 : sub_BadText "BadText" = some true := by decide +kernel
  unfold lc7 sTryN
  rcases k nb h with o | ⟨rfl, u, e⟩ | ⟨j, rfl, H, e, kp⟩
  · obtain ⟨d, S, e, v, kp⟩ := o.ex
    simp [e]
    exact ⟨v, kp⟩
  · simp [e, tryH, su1, sRetB]
    rw [← List.append_assoc]
    exact ⟨vq_un (by have := at_new (h ++ u) (Ob.lst [.str "unfit"]); simpa using this), (Kp0.app _ _).trans (Kp0.app _ _)⟩
  · simp [e, tryH, su2, su3, sRetX, xLst, xCons, xNil, xC, xFld]
    exact ⟨.lst (at_new _ _) (.cons (.str _) (.cons (.int _) .nil)), kp.trans (Kp0.app _ _)⟩
/-! the five that may be refused -/
abbrev R8 (w : Str) (o : D) (nb : Bool) (a b c d e : Option D) (h : List Ob) : DS := ⟨[some (.str w), some o, some (.bl nb), a, b, c, d, e], h⟩
abbrev R8' (T : List Ts) (ms : List Mn) (r t : Str) (i : Int) (s w : Str) (nb : Bool) (h : List Ob) : DS := R8 w (ownD T ms r t i s) nb (some (bookD T ms)) (some (wD r t)) (some (.int i)) (some (.str s)) none h
theorem unpackR {w : Str} {nb : Bool} : lr1 (R8 w (ownD T ms r t i s) nb none none none none none h) = .ok .next (R8' T ms r t i s w nb h) := by
  simp [lr1, ownD]
theorem ref_ok {w : Str} {P : PyData} {nb : Bool} (k : Ok ((sSeq lr2 (sSeq lr3 (sSeq lr4 (sSeq lr5 lr6)))) (R8' T ms r t i s w nb h)) fun f S => (∃ d, f = .ret d ∧ Vq S.h d P) ∧ Kp0 h S.h) : Ok (F_law_refusable [.str w, ownD T ms r t i s, .bl nb] h) fun d S => Vq S.h d P ∧ Kp0 h S.h := by
  apply ok_runB
  show Ok (p_law_refusable (R8 w (ownD T ms r t i s) nb none none none none none h)) _
  rw [p_law_refusable_eq]
  refine seq_next unpackR ?_
  obtain ⟨f, S, e, ⟨d, rfl, v⟩, kp⟩ := k.ex
  rw [e]
  exact ⟨v, kp⟩
theorem ref_exc {w : Str} {nb : Bool} {x : Xn} {S : DS} (k : (sSeq lr2 (sSeq lr3 (sSeq lr4 (sSeq lr5 lr6)))) (R8' T ms r t i s w nb h) = .exc x S) : F_law_refusable [.str w, ownD T ms r t i s, .bl nb] h = .exc x ⟨[], S.h⟩ := by
  refine runB_exc ?_
  show p_law_refusable (R8 w (ownD T ms r t i s) nb none none none none none h) = _
  rw [p_law_refusable_eq, z_seq, unpackR]
  exact k
theorem seq_nx {a b : DSt} {S S1 : DS} (e : a S = .ok .next S1) : sSeq a b S = b S1 := by
  rw [z_seq, e]; rfl
theorem seq_ex {a b : DSt} {S S1 : DS} {x : Xn} (e : a S = .exc x S1) : sSeq a b S = .exc x S1 := by
  rw [z_seq, e]; rfl
theorem ref_worlds (o : Ow T ms r t i s) : ∃ P, Sq P 5000 4 ∧ Ref T ms r t i s "worlds" P ∧ (s = "colour" → P = unP) ∧ (s ≠ "colour" → ∃ x ∈ KN, P = .tuple (x.ws.map tP)) := by
  have go : ∀ nb h, (sSeq lr2 (sSeq lr3 (sSeq lr4 (sSeq lr5 lr6)))) (R8' T ms r t i s "worlds" nb h) = lr6 (R8' T ms r t i s "worlds" nb h) := fun nb h => by
    exact (seq_nx (if_ne (by simp [wds]) (by simp [wds]) rfl (by decide +kernel))).trans ((seq_nx (if_ne (by simp [wds]) (by simp [wds]) rfl (by decide +kernel))).trans ((seq_nx (if_ne (by simp [wds]) (by simp [wds]) rfl (by decide +kernel))).trans (seq_nx (if_ne (by simp [wds]) (by simp [wds]) rfl (by decide +kernel)))))
  have pk : ∀ v : D, pick [0] [v] = [v] := fun v => rfl
  rcases n5_row o.hs with ⟨rfl, e⟩ | ⟨x, hx, hs, e⟩
  · refine ⟨unP, sq_un, fun nb h => .inr (.inl ⟨rfl, [], ?_⟩), fun _ => rfl, fun q => absurd rfl q⟩
    have ew := v_kw_no (h := h) (n5_good o.hs) e
    rw [List.append_nil]
    refine ref_exc (S := R8' T ms r t i "colour" "worlds" nb h) ?_
    rw [go]
    unfold lr6
    cases nb <;> simp [pk, ew]
  · refine ⟨.tuple (x.ws.map tP), ?_, fun nb h => .inl (ref_ok ?_), fun q => absurd q hs, fun _ => ⟨x, hx, rfl⟩⟩
    · unfold KN at hx
      simp only [List.mem_cons, List.not_mem_nil, or_false] at hx
      rcases hx with rfl | rfl | rfl | rfl | rfl | rfl | rfl <;> exact sq_of (by decide +kernel)
    · have ew := v_kw_yes (h := h) (n5_good o.hs) e
      rw [go]
      unfold lr6
      have q : sRet (dIf (tTr (dVar 2)) (dCallK F_known_worlds [0] dNil (dCons (dVar 6) dNil)) (dCall F_known_worlds (dCons (dVar 6) dNil))) (R8' T ms r t i s "worlds" nb h) = .ok (.ret (.tup (x.ws.map testD))) (R8' T ms r t i s "worlds" nb h) := dir (S1 := ⟨[], h⟩) (nb := nb) rfl rfl ew
      rw [q]
      exact ⟨⟨_, rfl, .tup (Vqs.of_map vq_t _)⟩, Kp0.refl _⟩
theorem ref_known (o : Ow T ms r t i s) : ∃ P, Sq P 5000 4 ∧ Ref T ms r t i s "known" P ∧ (s = "colour" ∨ ¬ (2 ≤ i ∧ i ≤ 6) → P = unP) ∧ (s ≠ "colour" → 2 ≤ i ∧ i ≤ 6 → ∃ a l, P = .tuple [a, .tuple l] ∧ (l.length : Int) = i) := by
  have go : ∀ nb h, (sSeq lr2 (sSeq lr3 (sSeq lr4 (sSeq lr5 lr6)))) (R8' T ms r t i s "known" nb h) = sSeq lr5 lr6 (R8' T ms r t i s "known" nb h) := fun nb h =>
    (seq_nx (if_ne (by simp [wds]) (by simp [wds]) rfl (by decide +kernel))).trans ((seq_nx (if_ne (by simp [wds]) (by simp [wds]) rfl (by decide +kernel))).trans (seq_nx (if_ne (by simp [wds]) (by simp [wds]) rfl (by decide +kernel))))
  have pk : pick [1, 0] [.int i, .str s] = [D.str s, .int i] := rfl
  have exc : (∀ h, F_known_book [.str s, .int i] h = .exc ⟨"Unfit", []⟩ ⟨[], h⟩) → Ref T ms r t i s "known" unP := fun ek nb h => .inr (.inl ⟨rfl, [], by
    rw [List.append_nil]
    refine ref_exc (S := R8' T ms r t i s "known" nb h) ?_
    rw [go]
    refine seq_ex ((if_eq (by simp [wds]) rfl).trans ?_)
    cases nb <;> simp [pk, ek]⟩)
  rcases n5_row o.hs with ⟨rfl, e⟩ | ⟨x, hx, hs, e⟩
  · exact ⟨unP, sq_un, exc fun h => v_kb_no1 (n5_good o.hs) e, fun _ => rfl, fun q => absurd rfl q⟩
  · by_cases hi : 2 ≤ i ∧ i ≤ 6
    · refine ⟨.tuple [.tuple (x.ts.map tP), .tuple (List.replicate i.toNat (.tuple [.bool true, .tuple (x.wd.map PyData.str)]))], ?_, fun nb h => .inl (ref_ok ?_), fun q => ?_, fun _ _ => ⟨_, _, rfl, by simp; omega⟩⟩
      · have st : Sq (.tuple (x.ts.map tP)) 1300 3 ∧ Sq (.tuple [.bool true, .tuple (x.wd.map PyData.str)]) 200 2 := by
          unfold KN at hx
          simp only [List.mem_cons, List.not_mem_nil, or_false] at hx
          rcases hx with rfl | rfl | rfl | rfl | rfl | rfl | rfl <;> exact ⟨sq_of (by decide +kernel), sq_of (by decide +kernel)⟩
        exact sq_pair st.1 ((sq_tup (n := 200) (k := 2) fun p hp => by
          rw [List.eq_of_mem_replicate hp]; exact st.2).le (by simp; omega) (by decide))
      · have ek := v_kb_yes (h := h) (n5_good o.hs) e hi.1 hi.2
        rw [go]
        refine seq_ret2 (d := .tup [.tup (x.ts.map testD), .tup (List.replicate i.toNat (.tup [.bl true, .tup (x.wd.map D.str)]))]) (S1 := R8' T ms r t i s "known" nb h) ((if_eq (by simp [wds]) rfl).trans ?_) ⟨⟨_, rfl, ?_⟩, Kp0.refl _⟩
        · cases nb <;> simp [pk, ek]
        · refine .tup (.cons (.tup (Vqs.of_map vq_t _)) (.cons (.tup ?_) .nil))
          induction i.toNat with
          | zero => exact .nil
          | succ k ih => exact .cons (.tup (.cons (.bl _) (.cons (.tup (Vqs.of_map (fun _ => .str _) _)) .nil))) ih
      · rcases q with q | q
        · exact absurd q hs
        · exact absurd hi q
    · exact ⟨unP, sq_un, exc fun h => v_kb_no2 (n5_good o.hs) e hi, fun _ => rfl, fun _ q => absurd q hi⟩
end K08

namespace K08
open PySem L2 PySem.Spec PyProof.Rows Den Fk
variable {h : List Ob} {n m : Nat} {T : List Ts} {ms : List Mn} {r t s : Str} {i : Int}
theorem add_s {x y : Str} (S : DS) (hl : x.length + y.length ≤ 1000000) : oAdd (.str x) (.str y) S = .ok (.str (x ++ y)) S := by
  rw [z_addS, mxL_eq, if_pos hl]
def wP (r t : Str) : PyData := .tuple [.str r, .str t]
theorem sq_wP {r t : Str} (hr : r ∈ rds) (ht : t ∈ trs) : Sq (wP r t) 5000 4 := by
  simp only [rds, trs, List.mem_cons, List.not_mem_nil, or_false] at hr ht
  rcases hr with rfl | rfl <;> rcases ht with rfl | rfl <;> exact sq_of (by decide +kernel)
def rwP (r t : Str) (i : Int) : PyData := if i < 6 then wP r t else .list [.str "text", .int 0]
theorem wl {r t : Str} (hr : r ∈ rds) (ht : t ∈ trs) : r.length ≤ 20 ∧ t.length ≤ 20 := by
  simp only [rds, trs, List.mem_cons, List.not_mem_nil, or_false] at hr ht
  rcases hr with rfl | rfl <;> rcases ht with rfl | rfl <;> exact ⟨by decide +kernel, by decide +kernel⟩
theorem ref_rw (o : Ow T ms r t i s) : Sq (rwP r t i) 5000 4 ∧ Ref T ms r t i s "read world" (rwP r t i) := by
  have go : ∀ nb h, (sSeq lr2 (sSeq lr3 (sSeq lr4 (sSeq lr5 lr6)))) (R8' T ms r t i s "read world" nb h) = (sSeq lr4 (sSeq lr5 lr6)) (R8' T ms r t i s "read world" nb h) := fun nb h =>
    (seq_nx (if_ne (by simp [wds]) (by simp [wds]) rfl (by decide +kernel))).trans (seq_nx (if_ne (by simp [wds]) (by simp [wds]) rfl (by decide +kernel)))
  have i0 : ∀ S, oIx (wD r t) (.int 0) S = .ok (.str r) S := fun S => ixT_at S (by decide) rfl
  have i1 : ∀ S, oIx (wD r t) (.int 1) S = .ok (.str t) S := fun S => ixT_at S (by decide) rfl
  have pk : ∀ v : D, pick [0] [v] = [v] := fun v => rfl
  obtain ⟨wr, wt⟩ := wl o.hr o.ht
  have lc : (Str.ofString ",").length = 1 := by decide +kernel
  have ls : (Str.ofString " ").length = 1 := by decide +kernel
  have l0 : (Str.ofString "").length = 0 := by decide +kernel
  have m1 : ∀ S, oMulA (.str (Str.ofString " ")) (.int 1) S = .ok (.str (Str.ofString " ")) S := fun S => by
    unfold oMulA
    dsimp only
    rw [if_pos (by decide +kernel)]
    rfl
  have m0 : ∀ S, oMulA (.str (Str.ofString " ")) (.int 0) S = .ok (.str (Str.ofString "")) S := fun S => by
    unfold oMulA
    dsimp only
    rw [if_pos (by decide +kernel)]
    rfl
  have txt : ∀ (nb : Bool) (h : List Ob), (dBin oAdd (dBin oAdd (dBin oAdd (dBin oIx (dVar 4) (dC (.int 0))) (dC (.str ","))) (dBin oMulA (dC (.str " ")) (dCB cIntA (dCons (dBin oLt (dVar 5) (dC (.int 6))) dNil)))) (dBin oIx (dVar 4) (dC (.int 1)))) (R8' T ms r t i s "read world" nb h) = .ok (.str (wtx r t (decide (i < 6)))) (R8' T ms r t i s "read world" nb h) := fun nb h => by
    have a1 := fun S => add_s (x := r) (y := Str.ofString ",") S (by omega)
    have e1 : (r ++ Str.ofString ",").length ≤ 21 := by rw [Str.length_append]; omega
    have a2 := fun S => add_s (x := r ++ Str.ofString ",") (y := Str.ofString " ") S (by omega)
    have a3 := fun S => add_s (x := r ++ Str.ofString ",") (y := Str.ofString "") S (by omega)
    have e2 : (r ++ Str.ofString "," ++ Str.ofString " ").length ≤ 22 := by rw [Str.length_append]; omega
    have e3 : (r ++ Str.ofString "," ++ Str.ofString "").length ≤ 22 := by rw [Str.length_append]; omega
    have a4 := fun S => add_s (x := r ++ Str.ofString "," ++ Str.ofString " ") (y := t) S (by omega)
    have a5 := fun S => add_s (x := r ++ Str.ofString "," ++ Str.ofString "") (y := t) S (by omega)
    by_cases hi : i < 6 <;> simp [hi, wtx, i0, i1, -z_addS, a1, a2, a3, a4, a5, m1, m0]
  unfold rwP
  by_cases hi : i < 6
  · rw [if_pos hi]
    refine ⟨sq_wP o.hr o.ht, fun nb h => .inl (ref_ok ?_)⟩
    obtain ⟨u, e⟩ := rw_far o.hr o.ht h
    rw [go]
    have tx := txt nb h
    rw [decide_eq_true hi] at tx
    refine seq_ret2 (d := wD r t) (S1 := R8 "read world" (ownD T ms r t i s) nb (some (bookD T ms)) (some (wD r t)) (some (.int i)) (some (.str s)) (some (.str (wtx r t true))) (h ++ u)) ((if_eq (by simp [wds]) rfl).trans ?_) ⟨⟨_, rfl, .tup (.cons (.str _) (.cons (.str _) .nil))⟩, Kp0.app _ _⟩
    refine (seq_nx (S1 := R8 "read world" (ownD T ms r t i s) nb (some (bookD T ms)) (some (wD r t)) (some (.int i)) (some (.str s)) (some (.str (wtx r t true))) h) (by rw [z_asg, tx]; rfl)).trans ?_
    exact dir (nb := nb) (S1 := ⟨[], h ++ u⟩) rfl rfl e
  · rw [if_neg hi]
    refine ⟨sq_of (by decide +kernel), fun nb h => .inr (.inr ⟨0, rfl, ?_⟩)⟩
    obtain ⟨u, e⟩ := rw_near o.hr o.ht h
    refine ⟨h ++ u, ?_, Kp0.app _ _⟩
    have tx := txt nb h
    rw [decide_eq_false hi] at tx
    generalize wtx r t false = x at tx e
    refine ref_exc (S := R8 "read world" (ownD T ms r t i s) nb (some (bookD T ms)) (some (wD r t)) (some (.int i)) (some (.str s)) (some (.str x)) (h ++ u)) ?_
    rw [go]
    refine seq_ex ((if_eq (by simp [wds]) rfl).trans ?_)
    refine (seq_nx (S1 := R8 "read world" (ownD T ms r t i s) nb (some (bookD T ms)) (some (wD r t)) (some (.int i)) (some (.str s)) (some (.str x)) h) (by rw [z_asg, tx]; rfl)).trans ?_
    cases nb <;> simp [pk, e]
end K08

namespace K08
open PySem L2 PySem.Spec PyProof.Rows Den Fk
variable {h : List Ob} {n m : Nat} {T : List Ts} {ms : List Mn} {r t s : Str} {i : Int}
def rdP (T : List Ts) (ms : List Mn) (i : Int) : PyData := if 5 < i then .list [.str "text", .int (ms.length + 1)] else bP T ms
theorem app_nil (x : Str) : x ++ Str.ofString "" = x := by
  apply TL.ext_tl
  rw [TL.tl_append]
  have : TL.tl (Str.ofString "") = [] := by decide +kernel
  rw [this, List.append_nil]
theorem ref_read (o : Ow T ms r t i s) : Sq (rdP T ms i) 5000 4 ∧ Ref T ms r t i s "read" (rdP T ms i) := by
  have go : ∀ nb h, (sSeq lr2 (sSeq lr3 (sSeq lr4 (sSeq lr5 lr6)))) (R8' T ms r t i s "read" nb h) = (sSeq lr3 (sSeq lr4 (sSeq lr5 lr6))) (R8' T ms r t i s "read" nb h) := fun nb h =>
    seq_nx (if_ne (by simp [wds]) (by simp [wds]) rfl (by decide +kernel))
  have pk : ∀ v : D, pick [0] [v] = [v] := fun v => rfl
  have m1 : ∀ S, oMulA (.str (Str.ofString "\n")) (.int 1) S = .ok (.str (Str.ofString "\n")) S := fun S => by
    unfold oMulA
    dsimp only
    rw [if_pos (by decide +kernel)]
    rfl
  have m0 : ∀ S, oMulA (.str (Str.ofString "\n")) (.int 0) S = .ok (.str (Str.ofString "")) S := fun S => by
    unfold oMulA
    dsimp only
    rw [if_pos (by decide +kernel)]
    rfl
  have l0 : (Str.ofString "").length = 0 := by decide +kernel
  have lb := (bookJ o.b).2.1
  have txt : ∀ (nb : Bool) (h : List Ob), ∃ H, Kp0 h H ∧ (dBin oAdd (dCall F_law_text (dCons (dVar 3) dNil)) (dBin oMulA (dC (.str "\n")) (dCB cIntA (dCons (dBin oGt (dVar 5) (dC (.int 5))) dNil)))) (R8' T ms r t i s "read" nb h) = .ok (.str (if 5 < i then bookT T ms ++ Str.ofString "\n" else bookT T ms)) (R8' T ms r t i s "read" nb H) := fun nb h => by
    obtain ⟨d, S, e, rfl, k⟩ := (law_text_ok o.b h).ex
    refine ⟨S.h, k, ?_⟩
    have a1 := fun S => add_s (x := bookT T ms) (y := Str.ofString "\n") S (by rw [nl_len]; omega)
    have a2 := fun S => add_s (x := bookT T ms) (y := Str.ofString "") S (by omega)
    by_cases hi : 5 < i
    · simp [hi, e, m1, a1, -z_addS]
    · simp [hi, e, m0, a2, -z_addS, app_nil]
  unfold rdP
  by_cases hi : 5 < i
  · rw [if_pos hi]
    have hl := o.b.l6
    have h2 := o.b.l2
    have sq : Sq (.list [.str "text", .int (ms.length + 1)]) 5000 4 := by
      have : ∀ k ∈ List.range 8, sqB (.list [.str "text", .int (k : Nat)]) 5000 4 = true := by decide +kernel
      have := sq_of (this (ms.length + 1) (List.mem_range.mpr (by omega)))
      simpa using this
    refine ⟨sq, fun nb h => .inr (.inr ⟨_, rfl, ?_⟩)⟩
    obtain ⟨H, kH, tx⟩ := txt nb h
    rw [if_pos hi] at tx
    obtain ⟨H2, e, k2⟩ := read_more o.b H
    refine ⟨H2, ?_, kH.trans k2⟩
    generalize bookT T ms ++ Str.ofString "\n" = x at tx e
    refine ref_exc (S := R8 "read" (ownD T ms r t i s) nb (some (bookD T ms)) (some (wD r t)) (some (.int i)) (some (.str s)) (some (.str x)) H2) ?_
    rw [go]
    refine seq_ex ((if_eq (by simp [wds]) rfl).trans ?_)
    refine (seq_nx (S1 := R8 "read" (ownD T ms r t i s) nb (some (bookD T ms)) (some (wD r t)) (some (.int i)) (some (.str s)) (some (.str x)) H) (by rw [z_asg, tx]; rfl)).trans ?_
    cases nb <;> simp [pk, e]
  · rw [if_neg hi]
    refine ⟨sq_b o.b, fun nb h => .inl (ref_ok ?_)⟩
    obtain ⟨H, kH, tx⟩ := txt nb h
    rw [if_neg hi] at tx
    obtain ⟨d, S, e, rfl, k2⟩ := (read_book_ok o.b H).ex
    rw [go]
    refine seq_ret2 (d := bookD T ms) (S1 := R8 "read" (ownD T ms r t i s) nb (some (bookD T ms)) (some (wD r t)) (some (.int i)) (some (.str s)) (some (.str (bookT T ms))) S.h) ((if_eq (by simp [wds]) rfl).trans ?_) ⟨⟨_, rfl, vq_b _ _⟩, kH.trans k2⟩
    refine (seq_nx (S1 := R8 "read" (ownD T ms r t i s) nb (some (bookD T ms)) (some (wD r t)) (some (.int i)) (some (.str s)) (some (.str (bookT T ms))) H) (by rw [z_asg, tx]; rfl)).trans ?_
    exact dir (nb := nb) rfl rfl e
def alP (T : List Ts) (ms : List Mn) (i : Int) : PyData := if 2 ≤ i ∧ i ≤ 6 then .tuple [.tuple (T.map tP), .tuple (List.replicate i.toNat ((ms.map mP).headD .none))] else unP
theorem ref_alike (o : Ow T ms r t i s) : Sq (alP T ms i) 5000 4 ∧ Ref T ms r t i s "alike" (alP T ms i) := by
  have hl := o.b.l2
  obtain ⟨m0, rest, rfl⟩ : ∃ m0 rest, ms = m0 :: rest := by
    cases ms with
    | nil => simp at hl
    | cons a l => exact ⟨a, l, rfl⟩
  have i0 : ∀ S, oIx (bookD T (m0 :: rest)) (.int 0) S = .ok (.tup (T.map testD)) S := fun S => ixT_at S (by decide) rfl
  have i1 : ∀ S, oIx (bookD T (m0 :: rest)) (.int 1) S = .ok (.tup ((m0 :: rest).map manD)) S := fun S => ixT_at S (by decide) rfl
  have i2 : ∀ S, oIx (.tup ((m0 :: rest).map manD)) (.int 0) S = .ok (manD m0) S := fun S => ixT_at S (by decide) rfl
  have pk : pick [1, 2, 0] [.int i, .tup (T.map testD), manD m0] = [D.tup (T.map testD), manD m0, .int i] := rfl
  unfold alP
  by_cases hi : 2 ≤ i ∧ i ≤ 6
  · rw [if_pos hi]
    refine ⟨sq_pair (sq_T o.b.t) ((sq_tup (n := 200) (k := 2) fun p hp => by
      rw [List.eq_of_mem_replicate hp]; exact sq_m (o.b.m m0 (by simp))).le (by simp; omega) (by decide)), fun nb h => .inl (ref_ok ?_)⟩
    have e := v_alike (t := .tup (T.map testD)) (mn := manD m0) (h := h) hi.1 hi.2
    refine seq_ret2 (d := .tup [.tup (T.map testD), .tup (List.replicate i.toNat (manD m0))]) (S1 := R8' T (m0 :: rest) r t i s "alike" nb h) ((if_eq (by simp [wds]) rfl).trans ?_) ⟨⟨_, rfl, ?_⟩, Kp0.refl _⟩
    · cases nb <;> simp [pk, i0, i1, i2, e, -List.map_cons]
    · refine .tup (.cons (.tup (Vqs.of_map vq_t _)) (.cons (.tup ?_) .nil))
      show Vqs _ _ (List.replicate i.toNat (mP m0))
      induction i.toNat with
      | zero => exact .nil
      | succ k ih => exact .cons (vq_m _) ih
  · rw [if_neg hi]
    refine ⟨sq_un, fun nb h => .inr (.inl ⟨rfl, [], ?_⟩)⟩
    have e := v_alike_no (t := .tup (T.map testD)) (mn := manD m0) (h := h) hi
    rw [List.append_nil]
    refine ref_exc (S := R8' T (m0 :: rest) r t i s "alike" nb h) ?_
    refine seq_ex ((if_eq (by simp [wds]) rfl).trans ?_)
    cases nb <;> simp [pk, i0, i1, i2, e, -List.map_cons]
end K08

namespace K08
open PySem L2 PySem.Spec PyProof.Rows Den Fk
variable {h : List Ob} {n m : Nat} {T : List Ts} {ms : List Mn} {r t s : Str} {i : Int}
def di1 : DSt := (sAsg (dVar 1) (gTup 4 (gCons (gN 3) (gCons (gN 4) (gCons (gN 5) (gCons (gN 6) gNil))))))
def di2 : DSt := (sIf (tV (dBin oIn (dVar 0) (dTup (dCons (dC (.str "error")) (dCons (dC (.str "world error")) dNil))))) (sRet (dBin oIsN (dVar 2) (dC .non))) sNop)
def di3 : DSt := (sIf (tV (dBin oEq (dVar 0) (dC (.str "text")))) (sRet (dBin oEq (dCB cReprQ (dCons (dVar 2) dNil)) (dCB cReprQ (dCons (dCall F_law_text (dCons (dVar 3) dNil)) dNil)))) sNop)
def di4 : DSt := (sIf (tV (dBin oEq (dVar 0) (dC (.str "world text")))) (sRet (dBin oEq (dCB cReprQ (dCons (dVar 2) dNil)) (dCB cReprQ (dCons (dMtS mJoin (dC (.str ", ")) (dVar 4)) dNil)))) sNop)
def di5 : DSt := (sIf (tV (dBin oEq (dVar 0) (dC (.str "names")))) (sRet (dAnd (dCB cIsi (dCons (dVar 2) (dCons (dC (.ty "tuple")) dNil))) (dBin oEq (dCB cLen (dCons (dVar 2) dNil)) (dC (.int 7))))) sNop)
def di6 : DSt := (sIf (tV (dBin oEq (dVar 0) (dC (.str "alike")))) (sRet (dBin oEq (dCB cReprQ (dCons (dVar 2) dNil)) (dCB cReprQ (dCons (dIf (tV (dChain oLe oLe (dC (.int 2)) (dVar 5) (dC (.int 6)))) (dTup (dCons (dBin oIx (dVar 3) (dC (.int 0))) (dCons (dBin oMulC (dTup (dCons (dBin oIx (dBin oIx (dVar 3) (dC (.int 1))) (dC (.int 0))) dNil)) (dVar 5)) dNil))) (dLst (dCons (dC (.str "unfit")) dNil))) dNil)))) sNop)
def di7 : DSt := (sIf (tV (dBin oEq (dVar 0) (dC (.str "read")))) (sRet (dBin oEq (dCB cReprQ (dCons (dVar 2) dNil)) (dCB cReprQ (dCons (dIf (tV (dBin oLt (dVar 5) (dC (.int 6)))) (dVar 3) (dLst (dCons (dC (.str "text")) (dCons (dBin oAdd (dCB cLen (dCons (dBin oIx (dVar 3) (dC (.int 1))) dNil)) (dC (.int 1))) dNil)))) dNil)))) sNop)
def di8 : DSt := (sIf (tV (dBin oEq (dVar 0) (dC (.str "read world")))) (sRet (dBin oEq (dCB cReprQ (dCons (dVar 2) dNil)) (dCB cReprQ (dCons (dIf (tV (dBin oLt (dVar 5) (dC (.int 6)))) (dVar 4) (dLst (dCons (dC (.str "text")) (dCons (dC (.int 0)) dNil)))) dNil)))) sNop)
def di9 : DSt := (sIf (tV (dBin oEq (dVar 6) (dC (.str "colour")))) (sRet (dBin oEq (dCB cReprQ (dCons (dVar 2) dNil)) (dCB cReprQ (dCons (dLst (dCons (dC (.str "unfit")) dNil)) dNil)))) sNop)
def di10 : DSt := (sIf (tV (dBin oEq (dVar 0) (dC (.str "known")))) (sSeq (sIf (tNotD (tV (dChain oLe oLe (dC (.int 2)) (dVar 5) (dC (.int 6))))) (sRet (dBin oEq (dCB cReprQ (dCons (dVar 2) dNil)) (dCB cReprQ (dCons (dLst (dCons (dC (.str "unfit")) dNil)) dNil)))) sNop) (sRet (dAnd (dCB cIsi (dCons (dVar 2) (dCons (dC (.ty "tuple")) dNil))) (dBin oEq (dCB cLen (dCons (dBin oIx (dVar 2) (dC (.int 1))) dNil)) (dVar 5))))) sNop)
def di11 : DSt := (sRet (dAnd (dCB cIsi (dCons (dVar 2) (dCons (dC (.ty "tuple")) dNil))) (dBin oIn (dTup (dCons (dC (.str "at once")) (dCons (dC (.str "alike")) dNil))) (dVar 2))))
theorem p_law_is_due_eq : p_law_is_due = (sSeq di1 (sSeq di2 (sSeq di3 (sSeq di4 (sSeq di5 (sSeq di6 (sSeq di7 (sSeq di8 (sSeq di9 (sSeq di10 di11)))))))))) := rfl

abbrev I7 (w : Str) (o d : D) (a b c e : Option D) (h : List Ob) : DS := ⟨[some (.str w), some o, some d, a, b, c, e], h⟩
abbrev I7' (T : List Ts) (ms : List Mn) (r t : Str) (i : Int) (s w : Str) (d : D) (h : List Ob) : DS := I7 w (ownD T ms r t i s) d (some (bookD T ms)) (some (wD r t)) (some (.int i)) (some (.str s)) h
theorem unpackI {w : Str} {d : D} : di1 (I7 w (ownD T ms r t i s) d none none none none h) = .ok .next (I7' T ms r t i s w d h) := by
  simp [di1, ownD]
def Due (T : List Ts) (ms : List Mn) (r t : Str) (i : Int) (s w : Str) (P : PyData) : Prop := ∀ (h : List Ob) (d : D), Vq h d P → Ok (F_law_is_due [.str w, ownD T ms r t i s, d] h) fun e S => e = .bl true ∧ Kp0 h S.h
theorem due_of {w : Str} {P : PyData} (k : ∀ (h : List Ob) (d : D), Vq h d P → Ok ((sSeq di2 (sSeq di3 (sSeq di4 (sSeq di5 (sSeq di6 (sSeq di7 (sSeq di8 (sSeq di9 (sSeq di10 di11))))))))) (I7' T ms r t i s w d h)) fun f S => f = .ret (.bl true) ∧ Kp0 h S.h) : Due T ms r t i s w P := fun h d v => by
  apply ok_runB
  show Ok (p_law_is_due (I7 w (ownD T ms r t i s) d none none none none h)) _
  rw [p_law_is_due_eq]
  refine seq_next unpackI ?_
  obtain ⟨f, S, e, rfl, kp⟩ := (k h d v).ex
  rw [e]
  exact ⟨rfl, kp⟩
theorem rep_eq {e : DE} {S : DS} {d d' : D} {P : PyData} {H : List Ob} (h2 : S.loc[2]? = some (some d)) (v : Vq S.h d P) (sq : Sq P 5000 4) (ee : e S = .ok d' ⟨S.loc, H⟩) (v' : Vq H d' P) : sRet (dBin oEq (dCB cReprQ (dCons (dVar 2) dNil)) (dCB cReprQ (dCons e dNil))) S = .ok (.ret (.bl true)) ⟨S.loc, H⟩ := by
  obtain ⟨l, G⟩ := S
  have h2 : l[2]? = some (some d) := h2
  have a1 : cReprQ [d] ⟨l, G⟩ = .ok (.str P.shown) ⟨l, G⟩ := sq.repr (by decide) (by decide) v
  have a2 : cReprQ [d'] ⟨l, H⟩ = .ok (.str P.shown) ⟨l, H⟩ := sq.repr (by decide) (by decide) v'
  have q : oEq (.str P.shown) (.str P.shown) ⟨l, H⟩ = .ok (.bl true) ⟨l, H⟩ := by
    rw [eq_str sq.g.shaped sq.g.shaped]; simp
  simp only [z_ret, z_bin, z_cb, z_cons, z_nil, z_var, h2, Res.bind_ok, a1, ee, a2, q]
def two : List Str := ["error", "world error"]
theorem two_good : ∀ u ∈ two, Good u := fun u hu => by
  simp only [two, List.mem_cons, List.not_mem_nil, or_false] at hu
  rcases hu with rfl | rfl <;> exact good_of (by decide +kernel)
theorem di2_no {w : Str} {d : D} (hw : w ∈ wds) (hne : (two.any fun u => u == w) = false) : di2 (I7' T ms r t i s w d h) = .ok .next (I7' T ms r t i s w d h) := by
  have e : ∀ S, oIn (.str w) (.tup (two.map D.str)) S = .ok (.bl (two.any fun u => u == w)) S := fun S => oIn_strs (w_good hw) two_good
  rw [hne] at e
  have e2 : ∀ S, oIn (.str w) (.tup [.str (Str.ofString "error"), .str (Str.ofString "world error")]) S = .ok (.bl false) S := e
  simp [di2, e2]
theorem di2_yes {w : Str} (hw : w ∈ wds) (hne : (two.any fun u => u == w) = true) : di2 (I7' T ms r t i s w .non h) = .ok (.ret (.bl true)) (I7' T ms r t i s w .non h) := by
  have e : ∀ S, oIn (.str w) (.tup (two.map D.str)) S = .ok (.bl (two.any fun u => u == w)) S := fun S => oIn_strs (w_good hw) two_good
  rw [hne] at e
  have e2 : ∀ S, oIn (.str w) (.tup [.str (Str.ofString "error"), .str (Str.ofString "world error")]) S = .ok (.bl true) S := e
  simp [di2, e2]
theorem due_error : Due T ms r t i s "error" .none := due_of fun h d v => by
  cases v
  exact seq_ret2 (di2_yes (by simp [wds]) (by decide +kernel)) ⟨rfl, Kp0.refl _⟩
theorem due_worldE : Due T ms r t i s "world error" .none := due_of fun h d v => by
  cases v
  exact seq_ret2 (di2_yes (by simp [wds]) (by decide +kernel)) ⟨rfl, Kp0.refl _⟩
theorem due_text (o : Ow T ms r t i s) (sq : Sq (.str (bookT T ms)) 5000 4) : Due T ms r t i s "text" (.str (bookT T ms)) := due_of fun h d v => by
  obtain ⟨d', S, e, rfl, k⟩ := (law_text_ok o.b h).ex
  refine seq_next (di2_no (by simp [wds]) (by decide +kernel)) (seq_ret2 ((if_eq (by simp [wds]) rfl).trans (rep_eq (H := S.h) rfl v sq (by simp [e]) (.str _))) ⟨rfl, k⟩)
theorem sq_wt {r t : Str} (hr : r ∈ rds) (ht : t ∈ trs) : Sq (.str (r ++ Str.ofString ", " ++ t)) 5000 4 := by
  simp only [rds, trs, List.mem_cons, List.not_mem_nil, or_false] at hr ht
  rcases hr with rfl | rfl <;> rcases ht with rfl | rfl <;> exact sq_of (by decide +kernel)
theorem due_worldT (o : Ow T ms r t i s) : Due T ms r t i s "world text" (.str (r ++ Str.ofString ", " ++ t)) := due_of fun h d v => by
  obtain ⟨j1, j3⟩ := j2 o.hr o.ht
  have js : strsOf [.str r, .str t] = some [r, t] := rfl
  have mj : ∀ S, mJoin (.str (Str.ofString ", ")) [wD r t] S = .ok (.str (r ++ Str.ofString ", " ++ t)) S := fun S => by
    unfold mJoin wD
    dsimp only
    rw [js]
    dsimp only
    rw [j1, j3]; rfl
  refine seq_next (di2_no (by simp [wds]) (by decide +kernel)) (seq_next (if_ne (by simp [wds]) (by simp [wds]) rfl (by decide +kernel)) (seq_ret2 ((if_eq (by simp [wds]) rfl).trans (rep_eq (H := h) rfl v (sq_wt o.hr o.ht) (by simp [mj]) (.str _))) ⟨rfl, Kp0.refl _⟩))
theorem due_names : Due T ms r t i s "names" nmP := due_of fun h d v => by
  refine seq_next (di2_no (by simp [wds]) (by decide +kernel)) (seq_next (if_ne (by simp [wds]) (by simp [wds]) rfl (by decide +kernel)) (seq_next (if_ne (by simp [wds]) (by simp [wds]) rfl (by decide +kernel)) (seq_ret2 (S1 := I7' T ms r t i s "names" d h) ((if_eq (by simp [wds]) rfl).trans ?_) ⟨rfl, Kp0.refl _⟩)))
  cases v with
  | tup rr =>
    have := rr.len
    have hl : (List.length _ : Nat) = 7 := this.trans rfl
    simp [tyName, isaB, hl]
end K08

namespace K08
open PySem L2 PySem.Spec PyProof.Rows Den Fk
variable {h : List Ob} {n m : Nat} {T : List Ts} {ms : List Mn} {r t s : Str} {i : Int}
theorem due_rw (o : Ow T ms r t i s) (sq : Sq (rwP r t i) 5000 4) : Due T ms r t i s "read world" (rwP r t i) := due_of fun h d v => by
  refine seq_next (di2_no (by simp [wds]) (by decide +kernel)) (seq_next (if_ne (by simp [wds]) (by simp [wds]) rfl (by decide +kernel)) (seq_next (if_ne (by simp [wds]) (by simp [wds]) rfl (by decide +kernel)) (seq_next (if_ne (by simp [wds]) (by simp [wds]) rfl (by decide +kernel)) (seq_next (if_ne (by simp [wds]) (by simp [wds]) rfl (by decide +kernel)) (seq_next (if_ne (by simp [wds]) (by simp [wds]) rfl (by decide +kernel)) ?_)))))
  by_cases hi : i < 6
  · refine seq_ret2 ((if_eq (by simp [wds]) rfl).trans (rep_eq (d' := wD r t) (H := h) rfl v sq (by simp [hi]) ?_)) ⟨rfl, Kp0.refl _⟩
    unfold rwP
    rw [if_pos hi]
    exact .tup (.cons (.str _) (.cons (.str _) .nil))
  · refine seq_ret2 ((if_eq (by simp [wds]) rfl).trans (rep_eq (d' := .ref h.length) (H := h ++ [.lst [.str "text", .int 0]]) rfl v sq (by simp [hi]) ?_)) ⟨rfl, Kp0.app _ _⟩
    unfold rwP
    rw [if_neg hi]
    exact .lst (at_new _ _) (.cons (.str _) (.cons (.int _) .nil))
theorem due_read (o : Ow T ms r t i s) (sq : Sq (rdP T ms i) 5000 4) : Due T ms r t i s "read" (rdP T ms i) := due_of fun h d v => by
  refine seq_next (di2_no (by simp [wds]) (by decide +kernel)) (seq_next (if_ne (by simp [wds]) (by simp [wds]) rfl (by decide +kernel)) (seq_next (if_ne (by simp [wds]) (by simp [wds]) rfl (by decide +kernel)) (seq_next (if_ne (by simp [wds]) (by simp [wds]) rfl (by decide +kernel)) (seq_next (if_ne (by simp [wds]) (by simp [wds]) rfl (by decide +kernel)) ?_))))
  have i1 : ∀ S, oIx (bookD T ms) (.int 1) S = .ok (.tup (ms.map manD)) S := fun S => ixT_at S (by decide) rfl
  by_cases hi : i < 6
  · refine seq_ret2 ((if_eq (by simp [wds]) rfl).trans (rep_eq (d' := bookD T ms) (H := h) rfl v sq (by simp [hi]) ?_)) ⟨rfl, Kp0.refl _⟩
    unfold rdP
    rw [if_neg (by omega)]
    exact vq_b _ _
  · refine seq_ret2 ((if_eq (by simp [wds]) rfl).trans (rep_eq (d' := .ref h.length) (H := h ++ [.lst [.str "text", .int (ms.length + 1)]]) rfl v sq (by simp [hi, i1]) ?_)) ⟨rfl, Kp0.app _ _⟩
    unfold rdP
    rw [if_pos (by omega)]
    exact .lst (at_new _ _) (.cons (.str _) (.cons (.int _) .nil))
theorem due_alike (o : Ow T ms r t i s) (sq : Sq (alP T ms i) 5000 4) : Due T ms r t i s "alike" (alP T ms i) := due_of fun h d v => by
  refine seq_next (di2_no (by simp [wds]) (by decide +kernel)) (seq_next (if_ne (by simp [wds]) (by simp [wds]) rfl (by decide +kernel)) (seq_next (if_ne (by simp [wds]) (by simp [wds]) rfl (by decide +kernel)) (seq_next (if_ne (by simp [wds]) (by simp [wds]) rfl (by decide +kernel)) ?_)))
  have hl := o.b.l2
  obtain ⟨m0, rest, rfl⟩ : ∃ m0 rest, ms = m0 :: rest := by
    cases ms with
    | nil => simp at hl
    | cons a l => exact ⟨a, l, rfl⟩
  have i0 : ∀ S, oIx (bookD T (m0 :: rest)) (.int 0) S = .ok (.tup (T.map testD)) S := fun S => ixT_at S (by decide) rfl
  have i1 : ∀ S, oIx (bookD T (m0 :: rest)) (.int 1) S = .ok (.tup ((m0 :: rest).map manD)) S := fun S => ixT_at S (by decide) rfl
  have i2 : ∀ S, oIx (.tup ((m0 :: rest).map manD)) (.int 0) S = .ok (manD m0) S := fun S => ixT_at S (by decide) rfl
  by_cases hi : 2 ≤ i ∧ i ≤ 6
  · have a1 : 0 ≤ i := by omega
    have a2 : i ≤ 1000 := by omega
    have rp : (List.replicate i.toNat [manD m0]).flatten = List.replicate i.toNat (manD m0) := by
      induction i.toNat with
      | zero => rfl
      | succ k ih => rw [List.replicate_succ, List.flatten_cons, ih]; rfl
    refine seq_ret2 ((if_eq (by simp [wds]) rfl).trans (rep_eq (d' := .tup [.tup (T.map testD), .tup (List.replicate i.toNat (manD m0))]) (H := h) rfl v sq (by simp [hi.1, hi.2, i0, i1, i2, a1, a2, rp, -List.map_cons]) ?_)) ⟨rfl, Kp0.refl _⟩
    unfold alP
    rw [if_pos hi]
    refine .tup (.cons (.tup (Vqs.of_map vq_t _)) (.cons (.tup ?_) .nil))
    show Vqs _ (List.replicate i.toNat (manD m0)) (List.replicate i.toNat (mP m0))
    induction i.toNat with
    | zero => exact .nil
    | succ k ih => exact .cons (vq_m _) ih
  · have ee : dIf (tV (dChain oLe oLe (dC (.int 2)) (dVar 5) (dC (.int 6)))) (dTup (dCons (dBin oIx (dVar 3) (dC (.int 0))) (dCons (dBin oMulC (dTup (dCons (dBin oIx (dBin oIx (dVar 3) (dC (.int 1))) (dC (.int 0))) dNil)) (dVar 5)) dNil))) (dLst (dCons (dC (.str "unfit")) dNil)) (I7' T (m0 :: rest) r t i s "alike" d h) = .ok (.ref h.length) (I7' T (m0 :: rest) r t i s "alike" d (h ++ [.lst [.str "unfit"]])) := by
      by_cases h2 : 2 ≤ i
      · have h6 : ¬ i ≤ 6 := fun q => hi ⟨h2, q⟩
        simp [h2, h6]
      · simp [h2]
    refine seq_ret2 ((if_eq (by simp [wds]) rfl).trans (rep_eq (d' := .ref h.length) (H := h ++ [.lst [.str "unfit"]]) rfl v sq ee ?_)) ⟨rfl, Kp0.app _ _⟩
    unfold alP
    rw [if_neg hi]
    exact vq_un (at_new _ _)
theorem di9_yes {w : Str} {d : D} (v : Vq h d unP) : di9 (I7' T ms r t i "colour" w d h) = .ok (.ret (.bl true)) (I7' T ms r t i "colour" w d (h ++ [.lst [.str "unfit"]])) := by
  have g : Good (Str.ofString "colour") := n5_good (by simp [names5])
  have e : ∀ S, oEq (.str (Str.ofString "colour")) (.str (Str.ofString "colour")) S = .ok (.bl true) S := fun S => by rw [eq_str g.shaped g.shaped]; simp
  have q := rep_eq (e := dLst (dCons (dC (.str "unfit")) dNil)) (S := I7' T ms r t i "colour" w d h) (H := h ++ [.lst [.str "unfit"]]) (d' := .ref h.length) rfl v sq_un (by simp) (vq_un (at_new _ _))
  unfold di9
  rw [z_if]
  have c : tV (dBin oEq (dVar 6) (dC (.str "colour"))) (I7' T ms r t i "colour" w d h) = .ok true (I7' T ms r t i "colour" w d h) := by
    simp [e]
  rw [c]
  simp only [Res.bind_ok, if_true]
  exact q
theorem di9_no {w : Str} {d : D} (hs : s ∈ names5) (hne : s ≠ "colour") : di9 (I7' T ms r t i s w d h) = .ok .next (I7' T ms r t i s w d h) := by
  have g : Good (Str.ofString "colour") := n5_good (by simp [names5])
  have e : ∀ S, oEq (.str s) (.str (Str.ofString "colour")) S = .ok (.bl false) S := fun S => by
    rw [eq_str (n5_good hs).shaped g.shaped]
    have : (s == Str.ofString "colour") = false := by simpa using hne
    rw [this]
  simp [di9, e]
theorem due_known (o : Ow T ms r t i s) {P : PyData} (h1 : s = "colour" ∨ ¬ (2 ≤ i ∧ i ≤ 6) → P = unP) (h2 : s ≠ "colour" → 2 ≤ i ∧ i ≤ 6 → ∃ a l, P = .tuple [a, .tuple l] ∧ (l.length : Int) = i) : Due T ms r t i s "known" P := due_of fun h d v => by
  refine seq_next (di2_no (by simp [wds]) (by decide +kernel)) (seq_next (if_ne (by simp [wds]) (by simp [wds]) rfl (by decide +kernel)) (seq_next (if_ne (by simp [wds]) (by simp [wds]) rfl (by decide +kernel)) (seq_next (if_ne (by simp [wds]) (by simp [wds]) rfl (by decide +kernel)) (seq_next (if_ne (by simp [wds]) (by simp [wds]) rfl (by decide +kernel)) (seq_next (if_ne (by simp [wds]) (by simp [wds]) rfl (by decide +kernel)) (seq_next (if_ne (by simp [wds]) (by simp [wds]) rfl (by decide +kernel)) ?_))))))
  by_cases hs : s = "colour"
  · subst hs
    obtain rfl := h1 (.inl rfl)
    exact seq_ret2 (di9_yes v) ⟨rfl, Kp0.app _ _⟩
  · refine seq_next (di9_no o.hs hs) ?_
    by_cases hi : 2 ≤ i ∧ i ≤ 6
    · obtain ⟨a, l, rfl, hl⟩ := h2 hs hi
      refine seq_ret2 (S1 := I7' T ms r t i s "known" d h) ((if_eq (by simp [wds]) rfl).trans ?_) ⟨rfl, Kp0.refl _⟩
      cases v with
      | tup rr => cases rr with
        | cons ra rr => cases rr with
          | cons rb rr =>
            cases rr
            cases rb with
            | tup rl =>
              rename_i x ys
              have i1 : ∀ S, oIx (.tup [x, .tup ys]) (.int 1) S = .ok (.tup ys) S := fun S => ixT_at S (by decide) rfl
              have l2 : (ys.length : Int) = i := by rw [rl.len]; exact hl
              have z1 : atI [x, .tup ys] 1 = some (.tup ys) := rfl
              simp [hi.1, hi.2, tyName, isaB, z1, l2]
    · obtain rfl := h1 (.inr hi)
      have q := rep_eq (e := dLst (dCons (dC (.str "unfit")) dNil)) (S := I7' T ms r t i s "known" d h) (H := h ++ [.lst [.str "unfit"]]) (d' := .ref h.length) rfl v sq_un (by simp) (vq_un (at_new _ _))
      refine seq_ret2 (d := .bl true) (S1 := I7' T ms r t i s "known" d (h ++ [.lst [.str "unfit"]])) ((if_eq (by simp [wds]) rfl).trans ?_) ⟨rfl, Kp0.app _ _⟩
      rw [z_seq, z_if]
      have c : tNotD (tV (dChain oLe oLe (dC (.int 2)) (dVar 5) (dC (.int 6)))) (I7' T ms r t i s "known" d h) = .ok true (I7' T ms r t i s "known" d h) := by
        by_cases h2 : 2 ≤ i
        · have h6 : ¬ i ≤ 6 := fun q => hi ⟨h2, q⟩
          simp [h2, h6]
        · simp [h2]
      rw [c]
      simp only [Res.bind_ok, if_true]
      rw [q]
      rfl
theorem inv_t {d : D} {w : Ts} (v : Vq h d (tP w)) : d = testD w := by
  cases v with
  | tup r => cases r with
    | cons a r => cases r with
      | cons b r => cases r; cases a; cases b; rfl
theorem inv_ts : ∀ {ws : List Ts} {xs : List D}, Vqs h xs (ws.map tP) → xs = ws.map testD
  | [], _, .nil => rfl
  | w :: ws, _, .cons a r => by rw [inv_t a, inv_ts r]; rfl
theorem in_ws {x : Kr} (hx : x ∈ KN) (S : DS) : oIn (.tup [.str (Str.ofString "at once"), .str (Str.ofString "alike")]) (.tup (x.ws.map testD)) S = .ok (.bl true) S := by
  have mm : ∀ ws : List Ts, (ws.map testD).mapM (pyD S) = some (ws.map tP) := by
    intro ws
    induction ws with
    | nil => rfl
    | cons u ws ih => rw [List.map_cons, List.mapM_cons, ih]; rfl
  have sa : SeqAt.shaped (tP ("at once", "alike")) = true := by decide +kernel
  have sb : SeqAt.shaped (.tuple (x.ws.map tP)) = true ∧ ((x.ws.map tP).any fun z => PyData.eqv z (tP ("at once", "alike"))) = true := by
    unfold KN at hx
    simp only [List.mem_cons, List.not_mem_nil, or_false] at hx
    rcases hx with rfl | rfl | rfl | rfl | rfl | rfl | rfl <;> exact ⟨by decide +kernel, by decide +kernel⟩
  have e : inD (.tup [.str (Str.ofString "at once"), .str (Str.ofString "alike")]) (.tup (x.ws.map testD)) S = some true := by
    unfold inD
    dsimp only
    rw [show pyD S (.tup [.str (Str.ofString "at once"), .str (Str.ofString "alike")]) = some (tP ("at once", "alike")) from rfl, mm]
    dsimp only
    rw [sa, sb.1, sb.2]
    rfl
  unfold oIn
  rw [e]
theorem due_worlds (o : Ow T ms r t i s) {P : PyData} (h1 : s = "colour" → P = unP) (h2 : s ≠ "colour" → ∃ x ∈ KN, P = .tuple (x.ws.map tP)) : Due T ms r t i s "worlds" P := due_of fun h d v => by
  refine seq_next (di2_no (by simp [wds]) (by decide +kernel)) (seq_next (if_ne (by simp [wds]) (by simp [wds]) rfl (by decide +kernel)) (seq_next (if_ne (by simp [wds]) (by simp [wds]) rfl (by decide +kernel)) (seq_next (if_ne (by simp [wds]) (by simp [wds]) rfl (by decide +kernel)) (seq_next (if_ne (by simp [wds]) (by simp [wds]) rfl (by decide +kernel)) (seq_next (if_ne (by simp [wds]) (by simp [wds]) rfl (by decide +kernel)) (seq_next (if_ne (by simp [wds]) (by simp [wds]) rfl (by decide +kernel)) ?_))))))
  by_cases hs : s = "colour"
  · subst hs
    obtain rfl := h1 rfl
    exact seq_ret2 (di9_yes v) ⟨rfl, Kp0.app _ _⟩
  · refine seq_next (di9_no o.hs hs) (seq_next (if_ne (by simp [wds]) (by simp [wds]) rfl (by decide +kernel)) ?_)
    obtain ⟨x, hx, rfl⟩ := h2 hs
    cases v with
    | tup rr =>
      rw [inv_ts rr]
      have q := in_ws hx
      simp [di11, tyName, isaB, q]
      exact Kp0.refl _
end K08

namespace Den
open PySem L2 PySem.Builtin.Str
theorem rch_ok : ∀ c ∈ List.range 128, ∀ q ∈ [34, 39], (decide ((reprChar q c).length ≤ 4) && (reprChar q c).all (fun k => decide (k < 256))) = true := by decide +kernel
theorem fold_ok {q : Nat} (hq : q ∈ [34, 39]) : ∀ (l : List Nat) (acc : Array Nat), (∀ c ∈ l, c < 128) → (∀ c ∈ acc.toList, c < 256) → (l.foldl (fun out c => out ++ (reprChar q c).toArray) acc).size ≤ acc.size + 4 * l.length ∧ ∀ c ∈ (l.foldl (fun out c => out ++ (reprChar q c).toArray) acc).toList, c < 256
  | [], acc, _, ha => ⟨by simp, ha⟩
  | c :: l, acc, hl, ha => by
    have h := rch_ok c (List.mem_range.mpr (hl c (by simp))) q hq
    rw [Bool.and_eq_true, decide_eq_true_eq, List.all_eq_true] at h
    obtain ⟨h1, h2⟩ := fold_ok hq l (acc ++ (reprChar q c).toArray) (fun d hd => hl d (by simp [hd])) (fun d hd => by
      rw [Array.toList_append] at hd
      rcases List.mem_append.mp hd with hd | hd
      · exact ha d hd
      · exact of_decide_eq_true (h.2 d (by simpa using hd)))
    rw [List.foldl_cons]
    refine ⟨?_, h2⟩
    have := h.1
    simp only [Array.size_append, List.size_toArray] at h1
    rw [List.length_cons]
    omega
theorem sq_str {x : Str} (g : ∀ c ∈ x.cps.toList, c < 128) {n : Nat} (hn : 4 * x.length + 2 ≤ n) : Sq (.str x) n 0 := by
  have hq : reprQuote x ∈ [34, 39] := by
    unfold reprQuote
    split <;> simp
  have hq2 : reprQuote x < 256 := by
    unfold reprQuote
    split <;> omega
  obtain ⟨h1, h2⟩ := fold_ok hq x.cps.toList #[reprQuote x] g (by simpa using hq2)
  rw [Array.foldl_toList] at h1 h2
  refine ⟨rfl, by simp [PyData.depth], ?_, ?_⟩
  · show (reprText x).length ≤ n
    show ((x.cps.foldl (fun out c => out ++ (reprChar (reprQuote x) c).toArray) #[reprQuote x]).push (reprQuote x)).size ≤ n
    rw [Array.size_push]
    have hl : x.cps.toList.length = x.length := by simp; rfl
    rw [hl] at h1
    have e1 : (#[reprQuote x] : Array Nat).size = 1 := rfl
    omega
  · intro c hc
    have hc : c ∈ ((x.cps.foldl (fun out c => out ++ (reprChar (reprQuote x) c).toArray) #[reprQuote x]).push (reprQuote x)).toList := hc
    rw [Array.toList_push] at hc
    rcases List.mem_append.mp hc with hc | hc
    · exact h2 c hc
    · rw [List.mem_singleton.mp hc]; exact hq2
end Den
namespace K08
open PySem L2 PySem.Spec PyProof.Rows Den Fk
theorem sq_text {T : List Ts} {ms : List Mn} (b : Bk T ms) : Sq (.str (bookT T ms)) 5000 4 := (sq_str (bookJ b).2.2 (n := 5000) (by have := (bookJ b).2.1; omega)).le (by decide) (by decide)
theorem sq_nm : Sq nmP 5000 4 := sq_of (by decide +kernel)
def wordsL : List Str := wds
theorem word_ok {T : List Ts} {ms : List Mn} {r t s : Str} {i : Int} (o : Ow T ms r t i s) {w : Str} (hw : w ∈ wds) : ∃ P, Sq P 5000 4 ∧ Cal T ms r t i s w P ∧ Due T ms r t i s w P := by
  have hN : Sq .none 5000 4 := sq_of (by decide +kernel)
  simp only [wds, List.mem_cons, List.not_mem_nil, or_false] at hw
  rcases hw with rfl | rfl | rfl | rfl | rfl | rfl | rfl | rfl | rfl | rfl
  · exact ⟨_, hN, cal_error o, due_error⟩
  · exact ⟨_, hN, cal_worldE o, due_worldE⟩
  · exact ⟨_, sq_text o.b, cal_text o, due_text o (sq_text o.b)⟩
  · exact ⟨_, sq_wt o.hr o.ht, cal_worldT o, due_worldT o⟩
  · exact ⟨_, sq_nm, cal_names o, due_names⟩
  · obtain ⟨q, k⟩ := ref_alike o
    exact ⟨_, q, cal_ref (by simp) k, due_alike o q⟩
  · obtain ⟨q, k⟩ := ref_read o
    exact ⟨_, q, cal_ref (by simp) k, due_read o q⟩
  · obtain ⟨q, k⟩ := ref_rw o
    exact ⟨_, q, cal_ref (by simp) k, due_rw o q⟩
  · obtain ⟨P, q, k, h1, h2⟩ := ref_known o
    exact ⟨P, q, cal_ref (by simp) k, due_known o h1 h2⟩
  · obtain ⟨P, q, k, h1, h2⟩ := ref_worlds o
    exact ⟨P, q, cal_ref (by simp) k, due_worlds o h1 h2⟩
end K08

namespace Den
open PySem L2
/-- a comprehension whose turns change the heap, by the turn's number -/
theorem comp_ix {β : Type} {enc' : β → D} {vs : List Nat} {it : DS → Res Iter0} {g : DG} {e : DE} {S S1 : DS} {xs : List D} (P : Nat → List Ob → Prop) (hi : it S = .ok (.vals xs) S1) (hl : xs.length < 100000) (j0 : P 0 S1.h)
    (p : ∀ i d h, i < xs.length → P i h → ∃ S0, g d ⟨wipeD S1.loc vs, h⟩ = some S0 ∧ Ok (e S0) fun y S3 => (∃ z, y = enc' z) ∧ P (i + 1) S3.h) :
    ∃ (a : List β) (h2 : List Ob), dComp vs it g tTrue e S = .ok (.ref h2.length) ⟨S1.loc, h2 ++ [.lst (a.map enc')]⟩ ∧ P xs.length h2 ∧ a.length = xs.length := by
  have go : ∀ (zs : List D) (i : Nat) (acc : List D) (h : List Ob), i + zs.length = xs.length → acc.length + zs.length ≤ 1000000 → P i h → ∃ (h2 : List Ob) (a2 : List β), compV g tTrue e (wipeD S1.loc vs) zs acc h = .ok (acc ++ a2.map enc') ⟨wipeD S1.loc vs, h2⟩ ∧ P xs.length h2 ∧ a2.length = zs.length := by
    intro zs
    induction zs with
    | nil =>
      intro i acc h hz _ j
      have : i = xs.length := by simpa using hz
      subst this
      exact ⟨h, [], by simp [compV], j, rfl⟩
    | cons z zs ih =>
      intro i acc h hz l j
      simp only [List.length_cons] at l hz
      obtain ⟨S0, h1, h3⟩ := p i z h (by omega) j
      obtain ⟨y, S3, e2, ⟨y', rfl⟩, j3⟩ := h3.ex
      unfold compV
      rw [h1]
      dsimp only
      unfold compT
      rw [z_tTrue, Res.only_ok, if_pos rfl, e2, Res.only_ok, mxL_eq, if_pos (by omega), Res.only_ok]
      obtain ⟨h5, a3, e3, j4, s3⟩ := ih (i + 1) (acc ++ [enc' y']) S3.h (by omega) (by simp; omega) j3
      exact ⟨h5, y' :: a3, by rw [e3]; simp, j4, by simp [s3]⟩
  obtain ⟨h2, a2, e2, j, s⟩ := go xs 0 [] S1.h (by omega) (by simp; omega) j0
  refine ⟨a2, h2, ?_, j, s⟩
  unfold dComp
  rw [hi, Res.bind_ok]
  dsimp only
  rw [e2]
  simp [newO]
end Den
namespace K08
open PySem L2 PySem.Spec PyProof.Rows Den Fk
variable {h : List Ob} {n m : Nat}
abbrev Wd := {w : Str // w ∈ wds}
def K3 (n m k : Nat) (h h' : List Ob) : Prop := ∀ (j : Nat) (ob : Ob), j ≠ n → j ≠ m → j ≠ k → h[j]? = some ob → h'[j]? = some ob
theorem K3.refl (n m k : Nat) (h : List Ob) : K3 n m k h h := fun _ _ _ _ _ e => e
theorem K3.trans {k : Nat} {h1 h2 : List Ob} (a : K3 n m k h h1) (b : K3 n m k h1 h2) : K3 n m k h h2 := fun j ob x y z e => b j ob x y z (a j ob x y z e)
theorem deck_set {k : Nat} {ob : Ob} (dk : Deck h n m) (kn : k ≠ n) (km : k ≠ m) : Deck (h.set k ob) n m := by
  obtain ⟨ne, s, xs, hn, hm, r⟩ := dk
  exact ⟨ne, s, xs, by rw [List.getElem?_set_ne kn]; exact hn, by rw [List.getElem?_set_ne km]; exact hm, r⟩
def popE : DE := dMtL mPopAt (dVar 8) (dCons (dCall F_law_draw (dCons (dVar 1) (dCons (dCB cLen (dCons (dVar 8) dNil)) dNil))) dNil)
theorem pop_ok {S : DS} {k : Nat} {ws : List Wd} (h8 : S.loc[8]? = some (some (.ref k))) (h1 : S.loc[1]? = some (some (.ref n))) (dk : Deck S.h n m) (kn : k ≠ n) (km : k ≠ m) (hk : S.h[k]? = some (.lst (ws.map fun w => D.str w.1))) (hl : 1 ≤ ws.length) (h10 : ws.length ≤ 10) :
    Ok (popE S) fun d S' => (∃ w : Wd, d = .str w.1) ∧ S'.loc = S.loc ∧ Deck S'.h n m ∧ K3 n m k S.h S'.h ∧ ∃ ws' : List Wd, S'.h[k]? = some (.lst (ws'.map fun w => D.str w.1)) ∧ ws'.length + 1 = ws.length := by
  obtain ⟨l, H⟩ := S
  obtain ⟨d, Z, q, r, rfl, r0, r1, DZ, kZ⟩ := (draw_ok dk (many := (ws.length : Int)) (by omega) (by omega)).ex
  have hk2 := kZ _ _ kn km hk
  have hr : r.toNat < ws.length := by omega
  have pp : mPopAt (.ref k) [.int r] ⟨l, Z.h⟩ = .ok (.str ws[r.toNat].1) ⟨l, Z.h.set k (.lst ((ws.eraseIdx r.toNat).map fun w => D.str w.1))⟩ := by
    rw [z_popAt]
    simp only [hk2]
    rw [if_pos ⟨r0, by omega⟩, List.getElem?_map, List.getElem?_eq_getElem hr]
    simp only [Option.map_some]
    congr 3
    rw [List.eraseIdx_eq_take_drop_succ, List.eraseIdx_eq_take_drop_succ, List.map_append, List.map_take, List.map_drop]
  have h8' : l[8]? = some (some (.ref k)) := h8
  have h1' : l[1]? = some (some (.ref n)) := h1
  have hk' : H[k]? = some (.lst (ws.map fun w => D.str w.1)) := hk
  have q' : F_law_draw [.ref n, .int (ws.length : Nat)] H = .ok (.int r) Z := q
  unfold popE
  rw [z_mtL]
  simp only [z_var, h8', Res.bind_ok, z_isLst, hk', if_true, z_cons, z_nil, z_call, h1', z_cb, z_lenR, List.length_map, q', pp]
  refine ⟨⟨ws[r.toNat], rfl⟩, rfl, deck_set DZ kn km, fun j ob a b c e => ?_, ws.eraseIdx r.toNat, ?_, ?_⟩
  · rw [List.getElem?_set_ne (fun z => c z.symm)]
    exact kZ j ob a b e
  · rw [List.getElem?_set_self (lt_of_at hk2)]
  · rw [List.length_eraseIdx_of_lt hr]
    omega
theorem drawn_ok {sc : D} {o2 o3 o4 o5 o6 o7 o9 oa ob oc od : Option D} {k : Nat} {ws : List Wd} (dk : Deck h n m) (kn : k ≠ n) (km : k ≠ m) (hk : h[k]? = some (.lst (ws.map fun w => D.str w.1))) (h10 : ws.length = 10) :
    ∃ (a : List Wd) (h2 : List Ob), dComp [13] (dRng (dCons (dCB cLen (dCons (dVar 8) dNil)) dNil)) (gN 13) tTrue popE ⟨[some sc, some (.ref n), o2, o3, o4, o5, o6, o7, some (.ref k), o9, oa, ob, oc, od], h⟩ = .ok (.ref h2.length) ⟨[some sc, some (.ref n), o2, o3, o4, o5, o6, o7, some (.ref k), o9, oa, ob, oc, od], h2 ++ [.lst (a.map fun w => D.str w.1)]⟩ ∧ Deck h2 n m ∧ K3 n m k h h2 ∧ a.length = 10 := by
  have e0 : dRng (dCons (dCB cLen (dCons (dVar 8) dNil)) dNil) ⟨[some sc, some (.ref n), o2, o3, o4, o5, o6, o7, some (.ref k), o9, oa, ob, oc, od], h⟩ = .ok (.vals (rgD 0 10)) ⟨[some sc, some (.ref n), o2, o3, o4, o5, o6, o7, some (.ref k), o9, oa, ob, oc, od], h⟩ := by
    rw [rng_of (j := 10) (S1 := ⟨[some sc, some (.ref n), o2, o3, o4, o5, o6, o7, some (.ref k), o9, oa, ob, oc, od], h⟩) (by simp [hk, h10]) (by omega)]
    rfl
  obtain ⟨a, h2, e, ⟨D2, k2, _⟩, al⟩ := comp_ix (β := Wd) (enc' := fun w => D.str w.1) (vs := [13]) (g := gN 13) (e := popE) (fun i H => Deck H n m ∧ K3 n m k h H ∧ ∃ ws' : List Wd, H[k]? = some (.lst (ws'.map fun w => D.str w.1)) ∧ ws'.length + i = 10) e0 (by rw [rgD_len]; omega) ⟨dk, K3.refl _ _ _ _, ws, hk, by omega⟩ (by
    rintro i d H hi ⟨DH, kH, ws', hk', hl⟩
    rw [rgD_len] at hi
    refine ⟨_, rfl, ?_⟩
    obtain ⟨y, S3, e3, hy, _, D3, k3, w3, hk3, hl3⟩ := (pop_ok (S := ⟨[some sc, some (.ref n), o2, o3, o4, o5, o6, o7, some (.ref k), o9, oa, ob, oc, some d], H⟩) rfl rfl DH kn km hk' (by omega) (by omega)).ex
    show Ok (popE ⟨[some sc, some (.ref n), o2, o3, o4, o5, o6, o7, some (.ref k), o9, oa, ob, oc, some d], H⟩) _
    rw [e3]
    exact ⟨hy, D3, kH.trans k3, w3, hk3, by omega⟩)
  exact ⟨a, h2, e, D2, k2, by rw [al, rgD_len]⟩
end K08

namespace K08
open PySem L2 PySem.Spec PyProof.Rows Den Fk
variable {h : List Ob} {n m : Nat}
def lw1 : DSt := (sAsg (dCall F_law_deck (dCons (dVar 0) dNil)) (gN 1))
def lw2 : DSt := (sPar 4 5 (dCons (dLst dNil) (dCons (dLst dNil) dNil)))
def lw3b1 : DSt := (sAsg (dTup (dCons (dCall F_law_pick (dCons (dVar 1) (dCons (dLst (dCons (dC (.str "slow")) (dCons (dC (.str "at once")) dNil))) dNil))) (dCons (dCall F_law_pick (dCons (dVar 1) (dCons (dLst (dCons (dC (.str "alike")) (dCons (dC (.str "anew")) dNil))) dNil))) dNil))) (gN 6))
def lw3b2 : DSt := (sAsg (dCall F_law_pick (dCons (dVar 1) (dCons (dLst (dCons (dC (.str "colours")) (dCons (dC (.str "early sum")) (dCons (dC (.str "four counts")) (dCons (dC (.str "sent twice")) (dCons (dC (.str "colour")) dNil)))))) dNil))) (gN 7))
def lw3b3 : DSt := (sExpr (dMtL mAppend (dVar 4) (dCons (dTup (dCons (dCall F_law_book (dCons (dVar 1) dNil)) (dCons (dVar 6) (dCons (dBin oAdd (dC (.int 1)) (dCall F_law_draw (dCons (dVar 1) (dCons (dC (.int 7)) dNil)))) (dCons (dVar 7) dNil))))) dNil)))
def lw3b4 : DSt := (sAsg (dLst (dCons (dC (.str "error")) (dCons (dC (.str "world error")) (dCons (dC (.str "text")) (dCons (dC (.str "world text")) (dCons (dC (.str "names")) (dCons (dC (.str "alike")) (dCons (dC (.str "read")) (dCons (dC (.str "read world")) (dCons (dC (.str "known")) dNil)))))))))) (gN 8))
def lw3b5 : DSt := (sExpr (dMtL mAppend (dVar 8) (dCons (dC (.str "worlds")) dNil)))
def lw3b6 : DSt := (sExpr (dMtL mAppend (dVar 5) (dCons (dComp [13] (dRng (dCons (dCB cLen (dCons (dVar 8) dNil)) dNil)) (gN 13) tTrue (dMtL mPopAt (dVar 8) (dCons (dCall F_law_draw (dCons (dVar 1) (dCons (dCB cLen (dCons (dVar 8) dNil)) dNil))) dNil))) dNil)))
def lw3b : DSt := (sSeq lw3b1 (sSeq lw3b2 (sSeq lw3b3 (sSeq lw3b4 (sSeq lw3b5 lw3b6)))))
def lw3 : DSt := (sFor (dRng (dCons (dC (.int 2)) dNil)) (gN 2) lw3b)
def lw4 : DSt := (sAsg (dCB cReprQ (dCons (dVar 4) dNil)) (gN 3))
def lw5b1 : DSt := (sAsg (dCall F_law_draw (dCons (dVar 1) (dCons (dC (.int 2)) dNil))) (gN 9))
def lw5b2 : DSt := (sAsg (dIf (tV (dBin oNe (dBin oIx (dVar 5) (dVar 9)) (dLst dNil))) (dVar 9) (dBin oSub (dC (.int 1)) (dVar 9))) (gN 9))
def lw5b3 : DSt := (sPar 11 12 (dCons (dMtL mPop (dBin oIx (dVar 5) (dVar 9)) dNil) (dCons (dBin oIx (dVar 4) (dVar 9)) dNil)))
def lw5b4 : DSt := (sAsg (dCall F_law_called (dCons (dVar 11) (dCons (dVar 12) (dCons (dC (.bl false)) dNil)))) (gN 10))
def lw5b5 : DSt := (sIf (tOrD (tV (dBin oNe (dCB cReprQ (dCons (dCall F_law_called (dCons (dVar 11) (dCons (dVar 12) (dCons (dC (.bl true)) dNil)))) dNil)) (dCB cReprQ (dCons (dVar 10) dNil)))) (tNotD (tTr (dCall F_law_is_due (dCons (dVar 11) (dCons (dVar 12) (dCons (dVar 10) dNil))))))) (sRet (dC (.bl false))) sNop)
def lw5b : DSt := (sSeq lw5b1 (sSeq lw5b2 (sSeq lw5b3 (sSeq lw5b4 lw5b5))))
def lw5 : DSt := (sFor (dRng (dCons (dC (.int 20)) dNil)) (gN 2) lw5b)
def lw6 : DSt := (sRet (dBin oEq (dCB cReprQ (dCons (dVar 4) dNil)) (dVar 3)))
theorem p_law_eq : p_law = (sSeq lw1 (sSeq lw2 (sSeq lw3 (sSeq lw4 (sSeq lw5 lw6))))) := rfl
abbrev St (sc : D) (n : Nat) (o2 o3 o4 o5 o6 o7 o8 o9 oa ob oc od : Option D) (h : List Ob) : DS := ⟨[some sc, some (.ref n), o2, o3, o4, o5, o6, o7, o8, o9, oa, ob, oc, od], h⟩
def IsOwn (d : D) : Prop := ∃ T ms r t i s, d = ownD T ms r t i s ∧ Ow T ms r t i s
def ten : List Wd := wds.attach
theorem ten_len : ten.length = 10 := rfl
theorem ten_eq : ten.map (fun w => D.str w.1) = [.str "error", .str "world error", .str "text", .str "world text", .str "names", .str "alike", .str "read", .str "read world", .str "known", .str "worlds"] := rfl
theorem set_new (h : List Ob) (a b : Ob) : (h ++ [a]).set h.length b = h ++ [b] := by simp
theorem fill1 {sc : D} {o2 o3 o4 o5 o6 o7 o8 o9 oa ob oc od : Option D} (dk : Deck h n m) : Ok (lw3b1 (St sc n o2 o3 o4 o5 o6 o7 o8 o9 oa ob oc od h)) fun f S => f = .next ∧ ∃ r t H, S = St sc n o2 o3 o4 o5 (some (wD r t)) o7 o8 o9 oa ob oc od H ∧ r ∈ rds ∧ t ∈ trs ∧ Deck H n m ∧ Kp n m h H := by
  obtain ⟨d1, S1, q1, i1, D1, k1⟩ := (picked dk (xs := [.str "slow", .str "at once"]) (by simp) (by simp)).ex
  obtain ⟨d2, S2, q2, i2, D2, k2⟩ := (picked D1 (xs := [.str "alike", .str "anew"]) (by simp) (by simp)).ex
  have e1 : lw3b1 (St sc n o2 o3 o4 o5 o6 o7 o8 o9 oa ob oc od h) = .ok .next (St sc n o2 o3 o4 o5 (some (.tup [d1, d2])) o7 o8 o9 oa ob oc od S2.h) := by
    simp [lw3b1, q1, q2]
  rw [e1]
  simp only [List.mem_cons, List.not_mem_nil, or_false] at i1 i2
  refine ⟨rfl, ?_⟩
  rcases i1 with rfl | rfl <;> rcases i2 with rfl | rfl <;> exact ⟨_, _, _, rfl, by simp [rds], by simp [trs], D2, k1.trans k2⟩
theorem fill2 {sc : D} {o2 o3 o4 o5 o6 o7 o8 o9 oa ob oc od : Option D} (dk : Deck h n m) : Ok (lw3b2 (St sc n o2 o3 o4 o5 o6 o7 o8 o9 oa ob oc od h)) fun f S => f = .next ∧ ∃ s H, S = St sc n o2 o3 o4 o5 o6 (some (.str s)) o8 o9 oa ob oc od H ∧ s ∈ names5 ∧ Deck H n m ∧ Kp n m h H := by
  obtain ⟨d1, S1, q1, i1, D1, k1⟩ := (picked dk (xs := [.str "colours", .str "early sum", .str "four counts", .str "sent twice", .str "colour"]) (by simp) (by simp)).ex
  have e1 : lw3b2 (St sc n o2 o3 o4 o5 o6 o7 o8 o9 oa ob oc od h) = .ok .next (St sc n o2 o3 o4 o5 o6 (some d1) o8 o9 oa ob oc od S1.h) := by
    simp [lw3b2, q1]
  rw [e1]
  simp only [List.mem_cons, List.not_mem_nil, or_false] at i1
  refine ⟨rfl, ?_⟩
  rcases i1 with rfl | rfl | rfl | rfl | rfl <;> exact ⟨_, _, rfl, by simp [names5], D1, k1⟩
theorem fill3 {sc : D} {o2 o3 o5 o8 o9 oa ob oc od : Option D} {r t s : Str} {p : Nat} {owns : List D} (dk : Deck h n m) (hr : r ∈ rds) (ht : t ∈ trs) (hs : s ∈ names5) (hp : h[p]? = some (.lst owns)) (pn : p ≠ n) (pm : p ≠ m) (l1 : owns.length < 5) :
    Ok (lw3b3 (St sc n o2 o3 (some (.ref p)) o5 (some (wD r t)) (some (.str s)) o8 o9 oa ob oc od h)) fun f S => f = .next ∧ ∃ own H, S = St sc n o2 o3 (some (.ref p)) o5 (some (wD r t)) (some (.str s)) o8 o9 oa ob oc od H ∧ IsOwn own ∧ Deck H n m ∧ K3 n m p h H ∧ H[p]? = some (.lst (owns ++ [own])) := by
  obtain ⟨d1, S1, q1, ⟨T, ms, rfl, bk⟩, D1, k1⟩ := (lbook_ok dk).ex
  obtain ⟨d2, S2, q2, i, rfl, i0, i1, D2, k2⟩ := (draw_ok D1 (many := 7) (by omega) (by omega)).ex
  have hp2 := (k1.trans k2) _ _ pn pm hp
  have l1' : owns.length < 1000000 := by omega
  have e1 : lw3b3 (St sc n o2 o3 (some (.ref p)) o5 (some (wD r t)) (some (.str s)) o8 o9 oa ob oc od h) = .ok .next (St sc n o2 o3 (some (.ref p)) o5 (some (wD r t)) (some (.str s)) o8 o9 oa ob oc od (S2.h.set p (.lst (owns ++ [ownD T ms r t (1 + i) s])))) := by
    unfold lw3b3
    rw [z_expr, z_mtL]
    simp only [z_var, List.getElem?_cons_succ, List.getElem?_cons_zero, Res.bind_ok, z_isLst, hp, if_true, z_cons, z_nil, z_tup, z_call, z_bin, z_c, q1, q2, z_add]
    rw [if_pos (by simp [mxL_eq])]
    simp only [Res.bind_ok]
    rw [z_append]
    dsimp only
    rw [hp2]
    dsimp only
    rw [if_pos (by rw [mxL_eq]; exact l1')]
    rfl
  rw [e1]
  refine ⟨rfl, _, _, rfl, ⟨T, ms, r, t, 1 + i, s, rfl, ⟨bk, hr, ht, by omega, by omega, hs⟩⟩, deck_set D2 pn pm, ?_, ?_⟩
  · intro j ob a b c e
    rw [List.getElem?_set_ne (fun z => c z.symm)]
    exact (k1.trans k2) _ _ a b e
  · rw [List.getElem?_set_self (lt_of_at hp2)]
end K08

namespace K08
open PySem L2 PySem.Spec PyProof.Rows Den Fk
variable {h : List Ob} {n m : Nat}
theorem deck_lt (dk : Deck h n m) : n < h.length ∧ m < h.length := by
  obtain ⟨ne, s, xs, hn, hm, r⟩ := dk
  exact ⟨lt_of_at hn, lt_of_at hm⟩
theorem fill_ok {sc : D} {o2 o3 o6 o7 o8 o9 oa ob oc od : Option D} {p q : Nat} {owns refs : List D} (dk : Deck h n m) (hp : h[p]? = some (.lst owns)) (hq : h[q]? = some (.lst refs)) (pn : p ≠ n) (pm : p ≠ m) (qn : q ≠ n) (qm : q ≠ m) (pq : p ≠ q) (l1 : owns.length < 5) (l2 : refs.length < 5) :
    Ok (lw3b (St sc n o2 o3 (some (.ref p)) (some (.ref q)) o6 o7 o8 o9 oa ob oc od h)) fun f S => f = .next ∧ ∃ o6 o7 o8 H own k, S = St sc n o2 o3 (some (.ref p)) (some (.ref q)) o6 o7 o8 o9 oa ob oc od H ∧ Deck H n m ∧ IsOwn own ∧ H[p]? = some (.lst (owns ++ [own])) ∧ H[q]? = some (.lst (refs ++ [.ref k])) ∧ (∃ ws : List Wd, H[k]? = some (.lst (ws.map fun w => D.str w.1)) ∧ ws.length = 10) ∧ (k ≠ n ∧ k ≠ m ∧ k ≠ p ∧ k ≠ q) ∧ ∀ j ob, j ≠ n → j ≠ m → j ≠ p → j ≠ q → h[j]? = some ob → H[j]? = some ob ∧ j ≠ k := by
  obtain ⟨_, _, e1, rfl, r, t, H1, rfl, hr, ht, D1, k1⟩ := (fill1 (sc := sc) (o2 := o2) (o3 := o3) (o4 := some (.ref p)) (o5 := some (.ref q)) (o6 := o6) (o7 := o7) (o8 := o8) (o9 := o9) (oa := oa) (ob := ob) (oc := oc) (od := od) dk).ex
  obtain ⟨_, _, e2, rfl, s, H2, rfl, hs, D2, k2⟩ := (fill2 (sc := sc) (o2 := o2) (o3 := o3) (o4 := some (.ref p)) (o5 := some (.ref q)) (o6 := some (wD r t)) (o7 := o7) (o8 := o8) (o9 := o9) (oa := oa) (ob := ob) (oc := oc) (od := od) D1).ex
  have hp2 := (k1.trans k2) _ _ pn pm hp
  have hq2 := (k1.trans k2) _ _ qn qm hq
  obtain ⟨_, _, e3, rfl, own, H3, rfl, io, D3, k3, hp3⟩ := (fill3 (sc := sc) (o2 := o2) (o3 := o3) (o5 := some (.ref q)) (o8 := o8) (o9 := o9) (oa := oa) (ob := ob) (oc := oc) (od := od) D2 hr ht hs hp2 pn pm l1).ex
  have hq3 := k3 _ _ qn qm (Ne.symm pq) hq2
  have e4 : lw3b4 (St sc n o2 o3 (some (.ref p)) (some (.ref q)) (some (wD r t)) (some (.str s)) o8 o9 oa ob oc od H3) = .ok .next (St sc n o2 o3 (some (.ref p)) (some (.ref q)) (some (wD r t)) (some (.str s)) (some (.ref H3.length)) o9 oa ob oc od (H3 ++ [Ob.lst [.str "error", .str "world error", .str "text", .str "world text", .str "names", .str "alike", .str "read", .str "read world", .str "known"]])) := by
    simp [lw3b4]
  have e5 : lw3b5 (St sc n o2 o3 (some (.ref p)) (some (.ref q)) (some (wD r t)) (some (.str s)) (some (.ref H3.length)) o9 oa ob oc od (H3 ++ [Ob.lst [.str "error", .str "world error", .str "text", .str "world text", .str "names", .str "alike", .str "read", .str "read world", .str "known"]])) = .ok .next (St sc n o2 o3 (some (.ref p)) (some (.ref q)) (some (wD r t)) (some (.str s)) (some (.ref H3.length)) o9 oa ob oc od (H3 ++ [Ob.lst (ten.map fun w => D.str w.1)])) := by
    rw [ten_eq]
    simp [lw3b5]
  have nk := deck_new D3
  have D5 : Deck (H3 ++ [Ob.lst (ten.map fun w => D.str w.1)]) n m := D3.keep (Kp0.app _ _)
  have hp5 : (H3 ++ [Ob.lst (ten.map fun w => D.str w.1)])[p]? = _ := at_old hp3
  have hq5 : (H3 ++ [Ob.lst (ten.map fun w => D.str w.1)])[q]? = _ := at_old hq3
  obtain ⟨a, h6, e6, D6, k6, al⟩ := drawn_ok (sc := sc) (o2 := o2) (o3 := o3) (o4 := some (.ref p)) (o5 := some (.ref q)) (o6 := some (wD r t)) (o7 := some (.str s)) (o9 := o9) (oa := oa) (ob := ob) (oc := oc) (od := od) D5 nk.2 nk.1 (at_new H3 (.lst (ten.map fun w => D.str w.1))) ten_len
  have np := lt_of_at hp3
  have nq := lt_of_at hq3
  have hp6 := k6 p _ pn pm (by omega) hp5
  have hq6 := k6 q _ qn qm (by omega) hq5
  have l2' : refs.length < mxL := by rw [mxL_eq]; omega
  have e6' : lw3b6 (St sc n o2 o3 (some (.ref p)) (some (.ref q)) (some (wD r t)) (some (.str s)) (some (.ref H3.length)) o9 oa ob oc od (H3 ++ [Ob.lst (ten.map fun w => D.str w.1)])) = .ok .next (St sc n o2 o3 (some (.ref p)) (some (.ref q)) (some (wD r t)) (some (.str s)) (some (.ref H3.length)) o9 oa ob oc od ((h6 ++ [Ob.lst (a.map fun w => D.str w.1)]).set q (Ob.lst (refs ++ [D.ref h6.length])))) := by
    have hq7 : (h6 ++ [Ob.lst (a.map fun w => D.str w.1)])[q]? = _ := at_old hq6
    unfold popE at e6
    unfold lw3b6
    rw [z_expr, z_mtL]
    simp only [z_var, List.getElem?_cons_succ, List.getElem?_cons_zero, Res.bind_ok, z_isLst, hq5, if_true, z_cons, z_nil]
    rw [e6]
    simp only [Res.bind_ok]
    rw [z_append]
    dsimp only
    rw [hq7]
    dsimp only
    rw [if_pos l2']
    rfl
  unfold lw3b
  simp only [z_seq, e1, e2, e3, e4, e5, e6', Res.bind_ok]
  have dl := deck_lt D6
  have lp := lt_of_at hp6
  have lq := lt_of_at hq6
  refine ⟨rfl, _, _, _, _, own, h6.length, rfl, deck_set (D6.keep (Kp0.app _ _)) qn qm, io, ?_, ?_, ⟨a, ?_, al⟩, ⟨by omega, by omega, by omega, by omega⟩, ?_⟩
  · rw [List.getElem?_set_ne (Ne.symm pq)]
    exact at_old hp6
  · rw [List.getElem?_set_self (by simp; omega)]
  · rw [List.getElem?_set_ne (by omega)]
    exact at_new _ _
  · intro j ob' jn jm jp jq e
    have b3 := k3 _ _ jn jm jp ((k1.trans k2) _ _ jn jm e)
    have l3 := lt_of_at b3
    have b6 := k6 j _ jn jm (by omega) (at_old b3)
    have l6 := lt_of_at b6
    refine ⟨?_, by omega⟩
    rw [List.getElem?_set_ne (Ne.symm jq)]
    exact at_old b6
structure Cfg (n m p q : Nat) (a b : D) (u v : Nat) (i : Nat) (H : List Ob) : Prop where
  dk : Deck H n m
  pn : p ≠ n ∧ p ≠ m
  qn : q ≠ n ∧ q ≠ m
  pq : p ≠ q
  up : u ≠ p
  uq : u ≠ q
  vp : v ≠ p
  vq : v ≠ q
  uv : u ≠ v
  un : u ≠ n ∧ u ≠ m
  vn : v ≠ n ∧ v ≠ m
  hp : H[p]? = some (.lst [a, b])
  hq : H[q]? = some (.lst [.ref u, .ref v])
  ha : IsOwn a
  hb : IsOwn b
  ex : ∃ x y : List Wd, H[u]? = some (.lst (x.map fun w => D.str w.1)) ∧ H[v]? = some (.lst (y.map fun w => D.str w.1)) ∧ x.length + y.length + i = 20 ∧ x.length ≤ 10 ∧ y.length ≤ 10
theorem lw3_ok {sc : D} {o2 o3 o6 o7 o8 o9 oa ob oc od : Option D} {p q : Nat} (dk : Deck h n m) (hp : h[p]? = some (.lst [])) (hq : h[q]? = some (.lst [])) (pn : p ≠ n) (pm : p ≠ m) (qn : q ≠ n) (qm : q ≠ m) (pq : p ≠ q) :
    ∃ q2 q6 q7 q8 H a b u v, lw3 (St sc n o2 o3 (some (.ref p)) (some (.ref q)) o6 o7 o8 o9 oa ob oc od h) = .ok .next (St sc n q2 o3 (some (.ref p)) (some (.ref q)) q6 q7 q8 o9 oa ob oc od H) ∧ Cfg n m p q a b u v 0 H := by
  obtain ⟨_, _, e1, rfl, a6, a7, a8, H1, own1, k1, rfl, D1, i1, hp1, hq1, ⟨w1, hk1, wl1⟩, f1, kp1⟩ := (fill_ok (sc := sc) (o2 := some (.int 0)) (o3 := o3) (o6 := o6) (o7 := o7) (o8 := o8) (o9 := o9) (oa := oa) (ob := ob) (oc := oc) (od := od) dk hp hq pn pm qn qm pq (by simp) (by simp)).ex
  obtain ⟨_, _, e2, rfl, b6, b7, b8, H2, own2, k2, rfl, D2, i2, hp2, hq2, ⟨w2, hk2, wl2⟩, f2, kp2⟩ := (fill_ok (sc := sc) (o2 := some (.int 1)) (o3 := o3) (o6 := a6) (o7 := a7) (o8 := a8) (o9 := o9) (oa := oa) (ob := ob) (oc := oc) (od := od) D1 hp1 hq1 pn pm qn qm pq (by simp) (by simp)).ex
  obtain ⟨hk1', ne⟩ := kp2 k1 _ f1.1 f1.2.1 f1.2.2.1 f1.2.2.2 hk1
  refine ⟨some (.int 1), b6, b7, b8, H2, own1, own2, k1, k2, ?_, ⟨D2, ⟨pn, pm⟩, ⟨qn, qm⟩, pq, f1.2.2.1, f1.2.2.2, f2.2.2.1, f2.2.2.2, ne, ⟨f1.1, f1.2.1⟩, ⟨f2.1, f2.2.1⟩, hp2, hq2, i1, i2, w1, w2, hk1', hk2, by omega, by omega, by omega⟩⟩
  unfold lw3
  rw [sFor_vals (xs := [.int 0, .int 1]) (S1 := St sc n o2 o3 (some (.ref p)) (some (.ref q)) o6 o7 o8 o9 oa ob oc od h) (rng_of (a := dC (.int 2)) (j := 2) (S1 := St sc n o2 o3 (some (.ref p)) (some (.ref q)) o6 o7 o8 o9 oa ob oc od h) rfl (by omega))]
  unfold forV
  simp only [z_gN]
  rw [show (St sc n o2 o3 (some (.ref p)) (some (.ref q)) o6 o7 o8 o9 oa ob oc od h).loc.set 2 (some (.int 0)) = (St sc n (some (.int 0)) o3 (some (.ref p)) (some (.ref q)) o6 o7 o8 o9 oa ob oc od h).loc from rfl]
  rw [e1]
  unfold forV
  simp only [z_gN, Res.bind_ok]
  rw [show (St sc n (some (.int 0)) o3 (some (.ref p)) (some (.ref q)) a6 a7 a8 o9 oa ob oc od H1).loc.set 2 (some (.int 1)) = (St sc n (some (.int 1)) o3 (some (.ref p)) (some (.ref q)) a6 a7 a8 o9 oa ob oc od H1).loc from rfl]
  rw [e2]
  rfl
end K08

namespace K08
open PySem L2 PySem.Spec PyProof.Rows Den Fk
variable {h : List Ob} {n m : Nat}
theorem ok_imp {α : Type} {r : Res α} {Q R : α → DS → Prop} (a : Ok r Q) (k : ∀ x S, Q x S → R x S) : Ok r R := by
  cases r with
  | ok x S => exact k x S a
  | exc => exact a
  | stuck => exact a
def ownP (T : List Ts) (ms : List Mn) (r t : Str) (i : Int) (s : Str) : PyData := .tuple [bP T ms, .tuple [.str r, .str t], .int i, .str s]
theorem vq_own (T : List Ts) (ms : List Mn) (r t : Str) (i : Int) (s : Str) : Vq h (ownD T ms r t i s) (ownP T ms r t i s) := .tup (.cons (vq_b T ms) (.cons (.tup (.cons (.str _) (.cons (.str _) .nil))) (.cons (.int _) (.cons (.str _) .nil))))
theorem sq_i7 {i : Int} (h1 : 1 ≤ i) (h7 : i ≤ 7) : Sq (.int i) 5000 4 := by
  have : i = 1 ∨ i = 2 ∨ i = 3 ∨ i = 4 ∨ i = 5 ∨ i = 6 ∨ i = 7 := by omega
  rcases this with rfl | rfl | rfl | rfl | rfl | rfl | rfl <;> exact sq_of (by decide +kernel)
theorem sq_n5 {s : Str} (hs : s ∈ names5) : Sq (.str s) 5000 4 := by
  simp only [names5, List.mem_cons, List.not_mem_nil, or_false] at hs
  rcases hs with rfl | rfl | rfl | rfl | rfl <;> exact sq_of (by decide +kernel)
theorem sq_rt {r t : Str} (hr : r ∈ rds) (ht : t ∈ trs) : Sq (.tuple [.str r, .str t]) 5000 4 := by
  simp only [rds, trs, List.mem_cons, List.not_mem_nil, or_false] at hr ht
  rcases hr with rfl | rfl <;> rcases ht with rfl | rfl <;> exact sq_of (by decide +kernel)
theorem sq_own {T : List Ts} {ms : List Mn} {r t : Str} {i : Int} {s : Str} (o : Ow T ms r t i s) : Sq (ownP T ms r t i s) 21000 5 := (sq_tup (n := 5000) (k := 4) fun q hq => by
  simp only [List.mem_cons, List.not_mem_nil, or_false] at hq
  rcases hq with rfl | rfl | rfl | rfl
  · exact sq_b o.b
  · exact sq_rt o.hr o.ht
  · exact sq_i7 o.i1 o.i7
  · exact sq_n5 o.hs).le (by simp) (by decide)
theorem own_py {d : D} (o : IsOwn d) : ∃ P, Sq P 21000 5 ∧ ∀ H, Vq H d P := by
  obtain ⟨T, ms, r, t, i, s, rfl, o⟩ := o
  exact ⟨_, sq_own o, fun H => vq_own T ms r t i s⟩
theorem some_py {a b : D} (oa : IsOwn a) (ob : IsOwn b) : ∃ P, Sq P 50000 6 ∧ ∀ H (p : Nat), H[p]? = some (.lst [a, b]) → Vq H (.ref p) P := by
  obtain ⟨A, sa, va⟩ := own_py oa
  obtain ⟨B, sb, vb⟩ := own_py ob
  refine ⟨.list [A, B], (sq_list (n := 21000) (k := 5) fun q hq => ?_).le (by simp) (by decide), fun H p e => .lst e (.cons (va H) (.cons (vb H) .nil))⟩
  simp only [List.mem_cons, List.not_mem_nil, or_false] at hq
  rcases hq with rfl | rfl
  · exact sa
  · exact sb
theorem task_ok {sc : D} {o2 o3 o6 o7 o8 oa ob oc od : Option D} {p q k : Nat} {w : Int} {own : D} {ws : List Wd} (ho : IsOwn own) (hq : ∀ l, oIx (.ref q) (.int w) ⟨l, h⟩ = .ok (.ref k) ⟨l, h⟩) (hp : ∀ l ob, oIx (.ref p) (.int w) ⟨l, h.set k ob⟩ = .ok own ⟨l, h.set k ob⟩) (hk : h[k]? = some (.lst (ws.map fun w => D.str w.1))) (hl : 1 ≤ ws.length) :
    Ok ((sSeq lw5b3 (sSeq lw5b4 lw5b5)) (St sc n o2 o3 (some (.ref p)) (some (.ref q)) o6 o7 o8 (some (.int w)) oa ob oc od h)) fun f S => f = .next ∧ ∃ oa ob oc H, S = St sc n o2 o3 (some (.ref p)) (some (.ref q)) o6 o7 o8 (some (.int w)) oa ob oc od H ∧ Kp0 (h.set k (.lst (ws.dropLast.map fun w => D.str w.1))) H := by
  have hlast : (ws.map fun w => D.str w.1)[(ws.map fun w => D.str w.1).length - 1]? = some (.str (ws[ws.length - 1]'(by omega)).1) := by
    rw [List.length_map, List.getElem?_map, List.getElem?_eq_getElem (by omega)]
    rfl
  generalize ws[ws.length - 1]'(by omega) = word at hlast
  have pp : ∀ l, mPop (.ref k) [] ⟨l, h⟩ = .ok (.str word.1) ⟨l, h.set k (.lst (ws.dropLast.map fun w => D.str w.1))⟩ := fun l => by
    rw [z_pop]
    simp only [hk, hlast, List.map_dropLast]
  obtain ⟨T, ms, r, t, i, s, rfl, o⟩ := ho
  obtain ⟨P, sq, cal, due⟩ := word_ok o word.2
  have e3 : lw5b3 (St sc n o2 o3 (some (.ref p)) (some (.ref q)) o6 o7 o8 (some (.int w)) oa ob oc od h) = .ok .next (St sc n o2 o3 (some (.ref p)) (some (.ref q)) o6 o7 o8 (some (.int w)) oa (some (.str word.1)) (some (ownD T ms r t i s)) od (h.set k (.lst (ws.dropLast.map fun w => D.str w.1)))) := by
    unfold lw5b3
    rw [z_par]
    simp only [z_cons, z_nil, z_mtL, z_bin, z_var, List.getElem?_cons_succ, List.getElem?_cons_zero, Res.bind_ok, hq, z_isLst, hk, if_true, pp, hp]
    rfl
  generalize h.set k (.lst (ws.dropLast.map fun w => D.str w.1)) = H3 at e3
  obtain ⟨d, S4, q4, v4, k4⟩ := (cal false H3).ex
  have e4 : lw5b4 (St sc n o2 o3 (some (.ref p)) (some (.ref q)) o6 o7 o8 (some (.int w)) oa (some (.str word.1)) (some (ownD T ms r t i s)) od H3) = .ok .next (St sc n o2 o3 (some (.ref p)) (some (.ref q)) o6 o7 o8 (some (.int w)) (some d) (some (.str word.1)) (some (ownD T ms r t i s)) od S4.h) := by
    unfold lw5b4
    simp only [z_asg, z_call, z_cons, z_nil, z_c, z_var, List.getElem?_cons_succ, List.getElem?_cons_zero, Res.bind_ok, q4]
    rfl
  obtain ⟨d', S5, q5, v5, k5⟩ := (cal true S4.h).ex
  have v4' := v4.mono k5
  obtain ⟨_, S6, q6, rfl, k6⟩ := (due S5.h d v4').ex
  have r1 : ∀ l, cReprQ [d'] ⟨l, S5.h⟩ = .ok (.str P.shown) ⟨l, S5.h⟩ := fun l => sq.repr (by decide) (by decide) v5
  have r2 : ∀ l, cReprQ [d] ⟨l, S5.h⟩ = .ok (.str P.shown) ⟨l, S5.h⟩ := fun l => sq.repr (by decide) (by decide) v4'
  have e5 : lw5b5 (St sc n o2 o3 (some (.ref p)) (some (.ref q)) o6 o7 o8 (some (.int w)) (some d) (some (.str word.1)) (some (ownD T ms r t i s)) od S4.h) = .ok .next (St sc n o2 o3 (some (.ref p)) (some (.ref q)) o6 o7 o8 (some (.int w)) (some d) (some (.str word.1)) (some (ownD T ms r t i s)) od S6.h) := by
    unfold lw5b5
    simp only [z_if, z_tOr, z_tNot, z_tTr, z_tV, z_bin, z_cb, z_cons, z_nil, z_call, z_var, z_c, List.getElem?_cons_succ, List.getElem?_cons_zero, Res.bind_ok, q5, r1, r2, sq.ne, z_toB, Bool.false_eq_true, ↓reduceIte, q6]
    simp
  simp only [z_seq, e3, e4, e5, Res.bind_ok]
  exact ⟨rfl, _, _, _, _, rfl, (k4.trans k5).trans k6⟩
theorem which_ok {sc : D} {o2 o3 o6 o7 o8 oa ob oc od : Option D} {p q u v : Nat} {a b : D} {i : Nat} {w : Int} (hi : i < 20) (c : Cfg n m p q a b u v i h) (h0 : 0 ≤ w) (h1 : w < 2) :
    ∃ (w' : Int) (h' : List Ob), lw5b2 (St sc n o2 o3 (some (.ref p)) (some (.ref q)) o6 o7 o8 (some (.int w)) oa ob oc od h) = .ok .next (St sc n o2 o3 (some (.ref p)) (some (.ref q)) o6 o7 o8 (some (.int w')) oa ob oc od h') ∧ Cfg n m p q a b u v i h' ∧ ((w' = 0 ∧ ∃ x y : List Wd, h'[u]? = some (.lst (x.map fun w => D.str w.1)) ∧ h'[v]? = some (.lst (y.map fun w => D.str w.1)) ∧ x.length + y.length + i = 20 ∧ x.length ≤ 10 ∧ y.length ≤ 10 ∧ 1 ≤ x.length) ∨ (w' = 1 ∧ ∃ x y : List Wd, h'[u]? = some (.lst (x.map fun w => D.str w.1)) ∧ h'[v]? = some (.lst (y.map fun w => D.str w.1)) ∧ x.length + y.length + i = 20 ∧ x.length ≤ 10 ∧ y.length ≤ 10 ∧ 1 ≤ y.length)) := by
  obtain ⟨x, y, hu, hv, sum, lx, ly⟩ := c.ex
  have c' : Cfg n m p q a b u v i (h ++ [.lst []]) := ⟨c.dk.keep (Kp0.app _ _), c.pn, c.qn, c.pq, c.up, c.uq, c.vp, c.vq, c.uv, c.un, c.vn, at_old c.hp, at_old c.hq, c.ha, c.hb, x, y, at_old hu, at_old hv, sum, lx, ly⟩
  have gd : ∀ ws : List Wd, ∀ z ∈ ws.map Subtype.val, Good z := fun ws z hz => by
    obtain ⟨w, _, rfl⟩ := List.mem_map.mp hz
    exact w_good w.2
  have ne : ∀ l k (ws : List Wd), h[k]? = some (.lst (ws.map fun w => D.str w.1)) → oNe (.ref k) (.ref h.length) ⟨l, h ++ [.lst []]⟩ = .ok (.bl (!ws.isEmpty)) ⟨l, h ++ [.lst []]⟩ := fun l k ws hk => by
    rw [ne_strs (us := ws.map Subtype.val) (gd ws) (by rw [List.map_map]; exact at_old hk) (at_new _ _), List.isEmpty_map]
  have w01 : w = 0 ∨ w = 1 := by omega
  have emp : ∀ ws : List Wd, ws.isEmpty = true → ws.length = 0 := fun ws e => by
    rw [List.isEmpty_iff.mp e]; rfl
  have emp' : ∀ ws : List Wd, ws.isEmpty = false → 1 ≤ ws.length := fun ws e => by
    cases ws with
    | nil => cases e
    | cons => simp
  rcases w01 with rfl | rfl
  · have ix : ∀ l, oIx (.ref q) (.int 0) ⟨l, h⟩ = .ok (.ref u) ⟨l, h⟩ := fun l => ix_lst c.hq rfl
    have nn := fun l => ne l u x hu
    cases hx : x.isEmpty
    · refine ⟨0, h ++ [.lst []], ?_, c', .inl ⟨rfl, x, y, at_old hu, at_old hv, sum, lx, ly, emp' x hx⟩⟩
      simp only [hx] at nn
      unfold lw5b2
      simp only [z_asg, z_dIf, z_tV, z_bin, z_lst, z_nil, z_var, z_c, List.getElem?_cons_succ, List.getElem?_cons_zero, Res.bind_ok, ix, z_newO, List.length_nil, Nat.zero_le, if_true, nn]
      simp
    · refine ⟨1, h ++ [.lst []], ?_, c', .inr ⟨rfl, x, y, at_old hu, at_old hv, sum, lx, ly, by have := emp x hx; omega⟩⟩
      simp only [hx] at nn
      unfold lw5b2
      simp only [z_asg, z_dIf, z_tV, z_bin, z_lst, z_nil, z_var, z_c, List.getElem?_cons_succ, List.getElem?_cons_zero, Res.bind_ok, ix, z_newO, List.length_nil, Nat.zero_le, if_true, nn]
      simp
  · have ix : ∀ l, oIx (.ref q) (.int 1) ⟨l, h⟩ = .ok (.ref v) ⟨l, h⟩ := fun l => ix_lst c.hq rfl
    have nn := fun l => ne l v y hv
    cases hx : y.isEmpty
    · refine ⟨1, h ++ [.lst []], ?_, c', .inr ⟨rfl, x, y, at_old hu, at_old hv, sum, lx, ly, emp' y hx⟩⟩
      simp only [hx] at nn
      unfold lw5b2
      simp only [z_asg, z_dIf, z_tV, z_bin, z_lst, z_nil, z_var, z_c, List.getElem?_cons_succ, List.getElem?_cons_zero, Res.bind_ok, ix, z_newO, List.length_nil, Nat.zero_le, if_true, nn]
      simp
    · refine ⟨0, h ++ [.lst []], ?_, c', .inl ⟨rfl, x, y, at_old hu, at_old hv, sum, lx, ly, by have := emp y hx; omega⟩⟩
      simp only [hx] at nn
      unfold lw5b2
      simp only [z_asg, z_dIf, z_tV, z_bin, z_lst, z_nil, z_var, z_c, List.getElem?_cons_succ, List.getElem?_cons_zero, Res.bind_ok, ix, z_newO, List.length_nil, Nat.zero_le, if_true, nn]
      simp
end K08

namespace K08
open PySem L2 PySem.Spec PyProof.Rows Den Fk
variable {h : List Ob} {n m : Nat}
theorem turn5 {sc : D} {o2 o3 o6 o7 o8 o9 oa ob oc od : Option D} {p q u v : Nat} {a b : D} {i : Nat} (hi : i < 20) (c : Cfg n m p q a b u v i h) :
    Ok (lw5b (St sc n o2 o3 (some (.ref p)) (some (.ref q)) o6 o7 o8 o9 oa ob oc od h)) fun f S => f = .next ∧ ∃ o9 oa ob oc H, S = St sc n o2 o3 (some (.ref p)) (some (.ref q)) o6 o7 o8 o9 oa ob oc od H ∧ Cfg n m p q a b u v (i + 1) H := by
  obtain ⟨d1, S1, q1, w, rfl, w0, w1, D1, k1⟩ := (draw_ok c.dk (many := 2) (by omega) (by omega)).ex
  have e1 : lw5b1 (St sc n o2 o3 (some (.ref p)) (some (.ref q)) o6 o7 o8 o9 oa ob oc od h) = .ok .next (St sc n o2 o3 (some (.ref p)) (some (.ref q)) o6 o7 o8 (some (.int w)) oa ob oc od S1.h) := by
    simp [lw5b1, q1]
  obtain ⟨x, y, hu, hv, sum, lx, ly⟩ := c.ex
  have c1 : Cfg n m p q a b u v i S1.h := ⟨D1, c.pn, c.qn, c.pq, c.up, c.uq, c.vp, c.vq, c.uv, c.un, c.vn, k1 _ _ c.pn.1 c.pn.2 c.hp, k1 _ _ c.qn.1 c.qn.2 c.hq, c.ha, c.hb, x, y, k1 _ _ c.un.1 c.un.2 hu, k1 _ _ c.vn.1 c.vn.2 hv, sum, lx, ly⟩
  obtain ⟨w', h', e2, c2, cs⟩ := which_ok (sc := sc) (o2 := o2) (o3 := o3) (o6 := o6) (o7 := o7) (o8 := o8) (oa := oa) (ob := ob) (oc := oc) (od := od) hi c1 w0 w1
  unfold lw5b
  rw [z_seq, e1, Res.bind_ok]
  dsimp only
  rw [z_seq, e2, Res.bind_ok]
  dsimp only
  rcases cs with ⟨rfl, x, y, hu, hv, sum, lx, ly, l1⟩ | ⟨rfl, x, y, hu, hv, sum, lx, ly, l1⟩
  · refine ok_imp (task_ok (sc := sc) (n := n) (o2 := o2) (o3 := o3) (o6 := o6) (o7 := o7) (o8 := o8) (oa := oa) (ob := ob) (oc := oc) (od := od) (p := p) (q := q) (k := u) (w := 0) (own := a) (ws := x) c.ha (fun l => ix_lst c2.hq rfl) (fun l ob' => ix_lst (by rw [List.getElem?_set_ne c.up]; exact c2.hp) rfl) hu l1) fun f S e => ?_
    obtain ⟨rfl, a1, a2, a3, H, rfl, kp⟩ := e
    refine ⟨rfl, _, _, _, _, H, rfl, ⟨(deck_set c2.dk c.un.1 c.un.2).keep kp, c.pn, c.qn, c.pq, c.up, c.uq, c.vp, c.vq, c.uv, c.un, c.vn, kp _ _ ?_, kp _ _ ?_, c.ha, c.hb, x.dropLast, y, kp _ _ ?_, kp _ _ ?_, ?_, ?_, ly⟩⟩
    · rw [List.getElem?_set_ne c.up]; exact c2.hp
    · rw [List.getElem?_set_ne c.uq]; exact c2.hq
    · rw [List.getElem?_set_self (lt_of_at hu)]
    · rw [List.getElem?_set_ne c.uv]; exact hv
    · rw [List.length_dropLast]; omega
    · rw [List.length_dropLast]; omega
  · refine ok_imp (task_ok (sc := sc) (n := n) (o2 := o2) (o3 := o3) (o6 := o6) (o7 := o7) (o8 := o8) (oa := oa) (ob := ob) (oc := oc) (od := od) (p := p) (q := q) (k := v) (w := 1) (own := b) (ws := y) c.hb (fun l => ix_lst c2.hq rfl) (fun l ob' => ix_lst (by rw [List.getElem?_set_ne c.vp]; exact c2.hp) rfl) hv l1) fun f S e => ?_
    obtain ⟨rfl, a1, a2, a3, H, rfl, kp⟩ := e
    refine ⟨rfl, _, _, _, _, H, rfl, ⟨(deck_set c2.dk c.vn.1 c.vn.2).keep kp, c.pn, c.qn, c.pq, c.up, c.uq, c.vp, c.vq, c.uv, c.un, c.vn, kp _ _ ?_, kp _ _ ?_, c.ha, c.hb, x, y.dropLast, kp _ _ ?_, kp _ _ ?_, ?_, lx, ?_⟩⟩
    · rw [List.getElem?_set_ne c.vp]; exact c2.hp
    · rw [List.getElem?_set_ne c.vq]; exact c2.hq
    · rw [List.getElem?_set_ne (Ne.symm c.uv)]; exact hu
    · rw [List.getElem?_set_self (lt_of_at hv)]
    · rw [List.length_dropLast]; omega
    · rw [List.length_dropLast]; omega
theorem holds (ns : List Int) (hl : ns.length ≤ 63) : ∃ S', F_law [.ro (ns.map D.int)] [] = .ok (.bl true) S' := by
  suffices q : Ok (F_law [.ro (ns.map D.int)] []) fun d _ => d = .bl true by
    obtain ⟨d, S, e, rfl⟩ := q.ex
    exact ⟨S, e⟩
  apply ok_runB
  show Ok (p_law ⟨[some (.ro (ns.map D.int)), none, none, none, none, none, none, none, none, none, none, none, none, none], []⟩) _
  rw [p_law_eq]
  obtain ⟨d1, S1, q1, n, m, rfl, D1, k1⟩ := (Fg.deck_ok (ns := ns) 1572608 (by decide) hl []).ex
  have q1 : F_law_deck [.ro (ns.map D.int)] [] = .ok (.ref n) S1 := q1
  have D1 : Deck S1.h n m := by
    obtain ⟨ne, s, xs, hn, hm, r⟩ := D1
    exact ⟨ne, s, xs, hn, hm, r⟩
  have e1 : lw1 ⟨[some (.ro (ns.map D.int)), none, none, none, none, none, none, none, none, none, none, none, none, none], []⟩ = .ok .next (St (.ro (ns.map D.int)) n none none none none none none none none none none none none S1.h) := by
    simp [lw1, q1]
  generalize S1.h = H1 at e1 D1
  have dl := deck_lt D1
  have e2 : lw2 (St (.ro (ns.map D.int)) n none none none none none none none none none none none none H1) = .ok .next (St (.ro (ns.map D.int)) n none none (some (.ref H1.length)) (some (.ref (H1.length + 1))) none none none none none none none none (H1 ++ [.lst []] ++ [.lst []])) := by
    simp [lw2]
  have hp2 : (H1 ++ [Ob.lst []] ++ [Ob.lst []])[H1.length]? = some (.lst []) := at_old (at_new _ _)
  have hq2 : (H1 ++ [Ob.lst []] ++ [Ob.lst []])[H1.length + 1]? = some (.lst []) := by simp
  obtain ⟨a2, a6, a7, a8, H3, a, b, u, v, e3, c3⟩ := lw3_ok (sc := .ro (ns.map D.int)) (o2 := none) (o3 := none) (o6 := none) (o7 := none) (o8 := none) (o9 := none) (oa := none) (ob := none) (oc := none) (od := none) ((D1.keep (Kp0.app _ _)).keep (Kp0.app _ _)) hp2 hq2 (by omega) (by omega) (by omega) (by omega) (by omega)
  generalize H1.length = p at e2 e3 c3
  generalize p + 1 = q at e2 e3 c3
  obtain ⟨P, sq, va⟩ := some_py c3.ha c3.hb
  have e4 : lw4 (St (.ro (ns.map D.int)) n a2 none (some (.ref p)) (some (.ref q)) a6 a7 a8 none none none none none H3) = .ok .next (St (.ro (ns.map D.int)) n a2 (some (.str P.shown)) (some (.ref p)) (some (.ref q)) a6 a7 a8 none none none none none H3) := by
    have r1 : ∀ l, cReprQ [.ref p] ⟨l, H3⟩ = .ok (.str P.shown) ⟨l, H3⟩ := fun l => sq.repr (by decide) (by decide) (va H3 p c3.hp)
    unfold lw4
    simp only [z_asg, z_cb, z_cons, z_nil, z_var, List.getElem?_cons_succ, List.getElem?_cons_zero, Res.bind_ok, r1]
    rfl
  obtain ⟨S5, e5, i5⟩ := forV_go (g := gN 2) (b := lw5b) (enc := fun (i : Nat) => D.int (0 + (i : Nat))) (whole := List.range 20) (fun i S => ∃ o2 o9 oa ob oc H, S = St (.ro (ns.map D.int)) n o2 (some (.str P.shown)) (some (.ref p)) (some (.ref q)) a6 a7 a8 o9 oa ob oc none H ∧ Cfg n m p q a b u v i H) (by
    rintro i x S hx ⟨o2, o9, oa, ob, oc, H, rfl, c⟩
    have hi : i < 20 := by
      have := (List.getElem?_eq_some_iff.mp hx).1
      rwa [List.length_range] at this
    refine ⟨_, rfl, ok_imp (turn5 (sc := .ro (ns.map D.int)) (o2 := some (.int (0 + (x : Nat)))) (o3 := some (.str P.shown)) (o6 := a6) (o7 := a7) (o8 := a8) (o9 := o9) (oa := oa) (ob := ob) (oc := oc) (od := none) hi c) fun f S e => ⟨.inl e.1, ?_⟩⟩
    obtain ⟨_, o9, oa, ob, oc, H, rfl, c⟩ := e
    exact ⟨_, _, _, _, _, _, rfl, c⟩) (List.range 20) 0 (St (.ro (ns.map D.int)) n a2 (some (.str P.shown)) (some (.ref p)) (some (.ref q)) a6 a7 a8 none none none none none H3) (Nat.zero_le _) rfl ⟨_, _, _, _, _, _, rfl, c3⟩
  have e5' : lw5 (St (.ro (ns.map D.int)) n a2 (some (.str P.shown)) (some (.ref p)) (some (.ref q)) a6 a7 a8 none none none none none H3) = .ok .next S5 := by
    unfold lw5
    rw [sFor_vals (rng_of (a := dC (.int 20)) (j := 20) (S1 := St (.ro (ns.map D.int)) n a2 (some (.str P.shown)) (some (.ref p)) (some (.ref q)) a6 a7 a8 none none none none none H3) rfl (by omega))]
    exact e5
  obtain ⟨o2, o9, oa, ob, oc, H5, rfl, c5⟩ := i5
  simp only [z_seq, e1, e2, e3, e4, e5', Res.bind_ok]
  have r5 : ∀ l, cReprQ [.ref p] ⟨l, H5⟩ = .ok (.str P.shown) ⟨l, H5⟩ := fun l => sq.repr (by decide) (by decide) (va H5 p c5.hp)
  have eq5 : ∀ S, oEq (.str P.shown) (.str P.shown) S = .ok (.bl true) S := fun S => by
    rw [eq_str sq.g.shaped sq.g.shaped]; simp
  unfold lw6
  simp only [z_ret, z_bin, z_cb, z_cons, z_nil, z_var, List.getElem?_cons_succ, List.getElem?_cons_zero, Res.bind_ok, r5, eq5]
  rfl
end K08

namespace K08
open PySem L2 PySem.Spec PyProof.Rows Den Fk
/-! ### C. the text by places -/
def top (i : Nat) : Stmt := PySem.Challenge.pw_stillrounds_k08_books_by_names.main.body.getD i (.Pass ⟨0, 0, 0, 0⟩)
abbrev s_is_integer : Stmt := top 7
abbrev s_is_many : Stmt := top 8
abbrev s_is_tuple_of : Stmt := top 9
abbrev s_is_ascending : Stmt := top 10
abbrev s_is_notes : Stmt := top 16
abbrev s_is_manner : Stmt := top 17
abbrev s_tests_error : Stmt := top 18
abbrev s_manners_error : Stmt := top 19
abbrev s_book_error : Stmt := top 20
abbrev s_world_error : Stmt := top 21
abbrev s_alike_for : Stmt := top 22
abbrev s_tests_line : Stmt := top 28
abbrev s_manner_line : Stmt := top 29
abbrev s_book_text : Stmt := top 30
abbrev s_world_text : Stmt := top 31
abbrev s_tests_of : Stmt := top 32
abbrev s_manner_of : Stmt := top 33
abbrev s_manners_of : Stmt := top 34
abbrev s_read_book : Stmt := top 35
abbrev s_read_world : Stmt := top 36
abbrev s_row_of : Stmt := top 39
abbrev s_known_names : Stmt := top 40
abbrev s_known_book : Stmt := top 41
abbrev s_known_worlds : Stmt := top 42
abbrev s_law_deck : Stmt := top 44
abbrev s_law_draw : Stmt := top 45
abbrev s_law_pick : Stmt := top 46
abbrev s_law_tests : Stmt := top 47
abbrev s_law_words : Stmt := top 48
abbrev s_law_manner : Stmt := top 49
abbrev s_law_book : Stmt := top 50
abbrev s_law_text : Stmt := top 51
abbrev s_law_refusable : Stmt := top 52
abbrev s_law_called : Stmt := top 53
abbrev s_law_is_due : Stmt := top 54
abbrev s_law : Stmt := top 55
abbrev s_init_BadBook : Stmt := inClass (top 3) 0
abbrev s_init_BadText : Stmt := inClass (top 4) 0
/-! ### D. what is known of the module -/
structure Txt (w : World) (K : PySem.W.Frag) (mg : Str → Option Value) (cm : Str → Value) where
  a_is_integer : Addr
  fd_is_integer : FuncData
  F_is_integer : Fun K "is_integer" "is_integer" s_is_integer a_is_integer fd_is_integer
  m_is_integer : mg "is_integer" = some (.ref a_is_integer)
  a_is_many : Addr
  fd_is_many : FuncData
  F_is_many : Fun K "is_many" "is_many" s_is_many a_is_many fd_is_many
  m_is_many : mg "is_many" = some (.ref a_is_many)
  a_is_tuple_of : Addr
  fd_is_tuple_of : FuncData
  F_is_tuple_of : Fun K "is_tuple_of" "is_tuple_of" s_is_tuple_of a_is_tuple_of fd_is_tuple_of
  m_is_tuple_of : mg "is_tuple_of" = some (.ref a_is_tuple_of)
  a_is_ascending : Addr
  fd_is_ascending : FuncData
  F_is_ascending : Fun K "is_ascending" "is_ascending" s_is_ascending a_is_ascending fd_is_ascending
  m_is_ascending : mg "is_ascending" = some (.ref a_is_ascending)
  a_is_notes : Addr
  fd_is_notes : FuncData
  F_is_notes : Fun K "is_notes" "is_notes" s_is_notes a_is_notes fd_is_notes
  m_is_notes : mg "is_notes" = some (.ref a_is_notes)
  a_is_manner : Addr
  fd_is_manner : FuncData
  F_is_manner : Fun K "is_manner" "is_manner" s_is_manner a_is_manner fd_is_manner
  m_is_manner : mg "is_manner" = some (.ref a_is_manner)
  a_tests_error : Addr
  fd_tests_error : FuncData
  F_tests_error : Fun K "tests_error" "tests_error" s_tests_error a_tests_error fd_tests_error
  m_tests_error : mg "tests_error" = some (.ref a_tests_error)
  a_manners_error : Addr
  fd_manners_error : FuncData
  F_manners_error : Fun K "manners_error" "manners_error" s_manners_error a_manners_error fd_manners_error
  m_manners_error : mg "manners_error" = some (.ref a_manners_error)
  a_book_error : Addr
  fd_book_error : FuncData
  F_book_error : Fun K "book_error" "book_error" s_book_error a_book_error fd_book_error
  m_book_error : mg "book_error" = some (.ref a_book_error)
  a_world_error : Addr
  fd_world_error : FuncData
  F_world_error : Fun K "world_error" "world_error" s_world_error a_world_error fd_world_error
  m_world_error : mg "world_error" = some (.ref a_world_error)
  a_alike_for : Addr
  fd_alike_for : FuncData
  F_alike_for : Fun K "alike_for" "alike_for" s_alike_for a_alike_for fd_alike_for
  m_alike_for : mg "alike_for" = some (.ref a_alike_for)
  a_tests_line : Addr
  fd_tests_line : FuncData
  F_tests_line : Fun K "tests_line" "tests_line" s_tests_line a_tests_line fd_tests_line
  m_tests_line : mg "tests_line" = some (.ref a_tests_line)
  a_manner_line : Addr
  fd_manner_line : FuncData
  F_manner_line : Fun K "manner_line" "manner_line" s_manner_line a_manner_line fd_manner_line
  m_manner_line : mg "manner_line" = some (.ref a_manner_line)
  a_book_text : Addr
  fd_book_text : FuncData
  F_book_text : Fun K "book_text" "book_text" s_book_text a_book_text fd_book_text
  m_book_text : mg "book_text" = some (.ref a_book_text)
  a_world_text : Addr
  fd_world_text : FuncData
  F_world_text : Fun K "world_text" "world_text" s_world_text a_world_text fd_world_text
  m_world_text : mg "world_text" = some (.ref a_world_text)
  a_tests_of : Addr
  fd_tests_of : FuncData
  F_tests_of : Fun K "tests_of" "tests_of" s_tests_of a_tests_of fd_tests_of
  m_tests_of : mg "tests_of" = some (.ref a_tests_of)
  a_manner_of : Addr
  fd_manner_of : FuncData
  F_manner_of : Fun K "manner_of" "manner_of" s_manner_of a_manner_of fd_manner_of
  m_manner_of : mg "manner_of" = some (.ref a_manner_of)
  a_manners_of : Addr
  fd_manners_of : FuncData
  F_manners_of : Fun K "manners_of" "manners_of" s_manners_of a_manners_of fd_manners_of
  m_manners_of : mg "manners_of" = some (.ref a_manners_of)
  a_read_book : Addr
  fd_read_book : FuncData
  F_read_book : Fun K "read_book" "read_book" s_read_book a_read_book fd_read_book
  m_read_book : mg "read_book" = some (.ref a_read_book)
  a_read_world : Addr
  fd_read_world : FuncData
  F_read_world : Fun K "read_world" "read_world" s_read_world a_read_world fd_read_world
  m_read_world : mg "read_world" = some (.ref a_read_world)
  a_row_of : Addr
  fd_row_of : FuncData
  F_row_of : Fun K "row_of" "row_of" s_row_of a_row_of fd_row_of
  m_row_of : mg "row_of" = some (.ref a_row_of)
  a_known_names : Addr
  fd_known_names : FuncData
  F_known_names : Fun K "known_names" "known_names" s_known_names a_known_names fd_known_names
  m_known_names : mg "known_names" = some (.ref a_known_names)
  a_known_book : Addr
  fd_known_book : FuncData
  F_known_book : Fun K "known_book" "known_book" s_known_book a_known_book fd_known_book
  m_known_book : mg "known_book" = some (.ref a_known_book)
  a_known_worlds : Addr
  fd_known_worlds : FuncData
  F_known_worlds : Fun K "known_worlds" "known_worlds" s_known_worlds a_known_worlds fd_known_worlds
  m_known_worlds : mg "known_worlds" = some (.ref a_known_worlds)
  a_law_deck : Addr
  fd_law_deck : FuncData
  F_law_deck : Fun K "_law_deck" "_law_deck" s_law_deck a_law_deck fd_law_deck
  m_law_deck : mg "_law_deck" = some (.ref a_law_deck)
  a_law_draw : Addr
  fd_law_draw : FuncData
  F_law_draw : Fun K "_law_draw" "_law_draw" s_law_draw a_law_draw fd_law_draw
  m_law_draw : mg "_law_draw" = some (.ref a_law_draw)
  a_law_pick : Addr
  fd_law_pick : FuncData
  F_law_pick : Fun K "_law_pick" "_law_pick" s_law_pick a_law_pick fd_law_pick
  m_law_pick : mg "_law_pick" = some (.ref a_law_pick)
  a_law_tests : Addr
  fd_law_tests : FuncData
  F_law_tests : Fun K "_law_tests" "_law_tests" s_law_tests a_law_tests fd_law_tests
  m_law_tests : mg "_law_tests" = some (.ref a_law_tests)
  a_law_words : Addr
  fd_law_words : FuncData
  F_law_words : Fun K "_law_words" "_law_words" s_law_words a_law_words fd_law_words
  m_law_words : mg "_law_words" = some (.ref a_law_words)
  a_law_manner : Addr
  fd_law_manner : FuncData
  F_law_manner : Fun K "_law_manner" "_law_manner" s_law_manner a_law_manner fd_law_manner
  m_law_manner : mg "_law_manner" = some (.ref a_law_manner)
  a_law_book : Addr
  fd_law_book : FuncData
  F_law_book : Fun K "_law_book" "_law_book" s_law_book a_law_book fd_law_book
  m_law_book : mg "_law_book" = some (.ref a_law_book)
  a_law_text : Addr
  fd_law_text : FuncData
  F_law_text : Fun K "_law_text" "_law_text" s_law_text a_law_text fd_law_text
  m_law_text : mg "_law_text" = some (.ref a_law_text)
  a_law_refusable : Addr
  fd_law_refusable : FuncData
  F_law_refusable : Fun K "_law_refusable" "_law_refusable" s_law_refusable a_law_refusable fd_law_refusable
  m_law_refusable : mg "_law_refusable" = some (.ref a_law_refusable)
  a_law_called : Addr
  fd_law_called : FuncData
  F_law_called : Fun K "_law_called" "_law_called" s_law_called a_law_called fd_law_called
  m_law_called : mg "_law_called" = some (.ref a_law_called)
  a_law_is_due : Addr
  fd_law_is_due : FuncData
  F_law_is_due : Fun K "_law_is_due" "_law_is_due" s_law_is_due a_law_is_due fd_law_is_due
  m_law_is_due : mg "_law_is_due" = some (.ref a_law_is_due)
  a_law : Addr
  fd_law : FuncData
  F_law : Fun K "law" "law" s_law a_law fd_law
  m_law : mg "law" = some (.ref a_law)
  z_abs : mg "abs" = none
  z_all : mg "all" = none
  z_bool : mg "bool" = none
  z_enumerate : mg "enumerate" = none
  z_int : mg "int" = none
  z_isinstance : mg "isinstance" = none
  z_len : mg "len" = none
  z_range : mg "range" = none
  z_repr : mg "repr" = none
  z_str : mg "str" = none
  z_tuple : mg "tuple" = none
  z_zip : mg "zip" = none
  u_ANY_TIME : Value
  v_ANY_TIME : V
  rv_ANY_TIME : RelV v_ANY_TIME u_ANY_TIME
  m_ANY_TIME : mg "ANY_TIME" = some u_ANY_TIME
  r_ANY_TIME : ∀ L H, Rep K cm L H g_ANY_TIME v_ANY_TIME
  a_KNOWN : Addr
  m_KNOWN : mg "KNOWN" = some (.ref a_KNOWN)
  r_KNOWN : ∀ L H, Rep K cm L H g_KNOWN (.ref a_KNOWN)
  u_MAX_MACHINES : Value
  v_MAX_MACHINES : V
  rv_MAX_MACHINES : RelV v_MAX_MACHINES u_MAX_MACHINES
  m_MAX_MACHINES : mg "MAX_MACHINES" = some u_MAX_MACHINES
  r_MAX_MACHINES : ∀ L H, Rep K cm L H g_MAX_MACHINES v_MAX_MACHINES
  a_NOTES : Addr
  m_NOTES : mg "NOTES" = some (.ref a_NOTES)
  r_NOTES : ∀ L H, Rep K cm L H g_NOTES (.ref a_NOTES)
  u_NO_TESTS : Value
  v_NO_TESTS : V
  rv_NO_TESTS : RelV v_NO_TESTS u_NO_TESTS
  m_NO_TESTS : mg "NO_TESTS" = some u_NO_TESTS
  r_NO_TESTS : ∀ L H, Rep K cm L H g_NO_TESTS v_NO_TESTS
  a_ROADS : Addr
  m_ROADS : mg "ROADS" = some (.ref a_ROADS)
  r_ROADS : ∀ L H, Rep K cm L H g_ROADS (.ref a_ROADS)
  a_TESTS : Addr
  m_TESTS : mg "TESTS" = some (.ref a_TESTS)
  r_TESTS : ∀ L H, Rep K cm L H g_TESTS (.ref a_TESTS)
  u_TESTS_HEAD : Value
  v_TESTS_HEAD : V
  rv_TESTS_HEAD : RelV v_TESTS_HEAD u_TESTS_HEAD
  m_TESTS_HEAD : mg "TESTS_HEAD" = some u_TESTS_HEAD
  r_TESTS_HEAD : ∀ L H, Rep K cm L H g_TESTS_HEAD v_TESTS_HEAD
  a_TOURS : Addr
  m_TOURS : mg "TOURS" = some (.ref a_TOURS)
  r_TOURS : ∀ L H, Rep K cm L H g_TOURS (.ref a_TOURS)
  u_WAITS : Value
  v_WAITS : V
  rv_WAITS : RelV v_WAITS u_WAITS
  m_WAITS : mg "WAITS" = some u_WAITS
  r_WAITS : ∀ L H, Rep K cm L H g_WAITS v_WAITS
  a_BadBook : Addr
  m_BadBook : mg "BadBook" = some (.ref a_BadBook)
  a_BadText : Addr
  m_BadText : mg "BadText" = some (.ref a_BadText)
  a_Unfit : Addr
  m_Unfit : mg "Unfit" = some (.ref a_Unfit)
  cm_BadBook : cm "BadBook" = .ref a_BadBook
  su_BadBook : ∀ m r, sub_BadBook m = some r → PySem.W.exmOne K (cm m) (.ref a_BadBook) = some r
  ic_BadBook : IsC K a_BadBook
  fI_BadBook : Addr
  fdI_BadBook : FuncData
  FI_BadBook : Fun K "__init__" "BadBook.__init__" s_init_BadBook fI_BadBook fdI_BadBook
  ox_BadBook : OexC K a_BadBook
  no_BadBook : PySem.W.findIn K (.ref a_BadBook) "error" = some none
  in_BadBook : PySem.W.findIn K (.ref a_BadBook) "__init__" = some (some (.ref fI_BadBook))
  it_BadBook : PySem.W.typeIn K (.ref fI_BadBook) = some (.type "function")
  xf_BadBook : XfC K a_BadBook
  cm_BadText : cm "BadText" = .ref a_BadText
  su_BadText : ∀ m r, sub_BadText m = some r → PySem.W.exmOne K (cm m) (.ref a_BadText) = some r
  ic_BadText : IsC K a_BadText
  fI_BadText : Addr
  fdI_BadText : FuncData
  FI_BadText : Fun K "__init__" "BadText.__init__" s_init_BadText fI_BadText fdI_BadText
  ox_BadText : OexC K a_BadText
  no_BadText : PySem.W.findIn K (.ref a_BadText) "line" = some none
  in_BadText : PySem.W.findIn K (.ref a_BadText) "__init__" = some (some (.ref fI_BadText))
  it_BadText : PySem.W.typeIn K (.ref fI_BadText) = some (.type "function")
  xf_BadText : XfC K a_BadText
  cm_Unfit : cm "Unfit" = .ref a_Unfit
  su_Unfit : ∀ m r, sub_Unfit m = some r → PySem.W.exmOne K (cm m) (.ref a_Unfit) = some r
  ic_Unfit : IsC K a_Unfit
  ex_Unfit : PySem.W.excIn K a_Unfit PySem.HandSPX.veTail "ValueError.__new__" = true
  k_Unfit : PySem.W.keepIn K (.ref a_Unfit) = true
  sb_Unfit : PySem.W.subIn K (.ref a_Unfit) (.type "BaseException") = some true
  ty_Unfit : PySem.W.typeIn K (.ref a_Unfit) = some (.type "type")
section
variable {P : Program} {w : World} {K : PySem.W.Frag} {mg : Str → Option Value} {base : Heap} {cm : Str → Value}
theorem pick_len_1_0 (l : List D) (h : l.length = 1) : (pick [0] l).length = 1 := match l, h with | [a], _ => rfl
theorem pick_len_2_10 (l : List D) (h : l.length = 2) : (pick [1, 0] l).length = 2 := match l, h with | [a, b], _ => rfl
theorem pick_len_3_120 (l : List D) (h : l.length = 3) : (pick [1, 2, 0] l).length = 3 := match l, h with | [a, b, c], _ => rfl
theorem sc_init_BadBook : FnScope ["self", "error"] ["self", "error"] (defScope s_init_BadBook) := ⟨rfl, rfl, rfl, by decide +kernel, rfl, by decide +kernel, by decide +kernel⟩
theorem bd_init_BadBook (T : Txt w K mg cm) : Binds K T.fdI_BadBook ["self", "error"] [] := T.FI_BadBook.binds fun _ _ _ _ _ _ us hl => match us, hl with | [_, _], _ => rfl
theorem ok_init_BadBook (T : Txt w K mg cm) : FnOk P w K mg base (L2.CX P w) 1 T.fI_BadBook T.fdI_BadBook ["self", "error"] (spI K T.a_BadBook "error") := T.FI_BadBook.okX sc_init_BadBook spI_len fun cdv A outer s H vs Q E hr h => by
  obtain ⟨a, v, rfl, T1, hno, ea, q⟩ := h
  exact ⟨_, pss_one (ps_ost (pv 0) (pv 1)), v, rfl, .ref a, rfl, a, _, rfl, T1, hno, .inl ⟨ea, q⟩⟩
theorem sc_init_BadText : FnScope ["self", "line"] ["self", "line"] (defScope s_init_BadText) := ⟨rfl, rfl, rfl, by decide +kernel, rfl, by decide +kernel, by decide +kernel⟩
theorem bd_init_BadText (T : Txt w K mg cm) : Binds K T.fdI_BadText ["self", "line"] [] := T.FI_BadText.binds fun _ _ _ _ _ _ us hl => match us, hl with | [_, _], _ => rfl
theorem ok_init_BadText (T : Txt w K mg cm) : FnOk P w K mg base (L2.CX P w) 1 T.fI_BadText T.fdI_BadText ["self", "line"] (spI K T.a_BadText "line") := T.FI_BadText.okX sc_init_BadText spI_len fun cdv A outer s H vs Q E hr h => by
  obtain ⟨a, v, rfl, T1, hno, ea, q⟩ := h
  exact ⟨_, pss_one (ps_ost (pv 0) (pv 1)), v, rfl, .ref a, rfl, a, _, rfl, T1, hno, .inl ⟨ea, q⟩⟩
theorem sc_is_integer : FnScope ["value"] ["value"] (defScope s_is_integer) := ⟨rfl, rfl, rfl, by decide +kernel, rfl, by decide +kernel, by decide +kernel⟩
theorem bd_is_integer (T : Txt w K mg cm) : Binds K T.fd_is_integer ["value"] [] := T.F_is_integer.binds fun _ _ _ _ _ _ us hl => match us, hl with | [_], _ => rfl
theorem ok_is_integer (T : Txt w K mg cm) : FnG P w K mg base 1 T.a_is_integer T.fd_is_integer ["value"] (spD K cm 1 F_is_integer) := FnG.of T.F_is_integer sc_is_integer fun cdv A fr s H E hr hg =>
  (ss_one (s_ret (e_and (e_cb call_isi co_isi (by rfl) T.z_isinstance rfl (a_cons (e_var 0) (a_cons (e_ty (by rfl) T.z_int rfl) a_nil))) (e_and1 (e_notT (e_cb call_isi co_isi (by rfl) T.z_isinstance rfl (a_cons (e_var 0) (a_cons (e_ty (by rfl) T.z_bool rfl) a_nil))))))))
theorem sc_is_many : FnScope ["value"] ["value"] (defScope s_is_many) := ⟨rfl, rfl, rfl, by decide +kernel, rfl, by decide +kernel, by decide +kernel⟩
theorem bd_is_many (T : Txt w K mg cm) : Binds K T.fd_is_many ["value"] [] := T.F_is_many.binds fun _ _ _ _ _ _ us hl => match us, hl with | [_], _ => rfl
theorem ok_is_many (T : Txt w K mg cm) : FnG P w K mg base 2 T.a_is_many T.fd_is_many ["value"] (spD K cm 1 F_is_many) := FnG.of T.F_is_many sc_is_many fun cdv A fr s H E hr hg =>
  (ss_one (s_ret (e_and (e_call (ok_is_integer T) (hr.mono (by decide)) hg (takes_of rfl rfl rfl rfl) (by rfl) T.m_is_integer T.F_is_integer.kp (bd_is_integer T) (a_cons (e_var 0) a_nil) (cnt_cons cnt_nil)) (e_and1 (e_chain op_le op_le ro_le ro_le e_int (e_var 0) (e_glob (v := T.v_MAX_MACHINES) (by rfl) T.m_MAX_MACHINES T.rv_MAX_MACHINES T.r_MAX_MACHINES))))))
theorem sc_is_tuple_of : FnScope ["value", "many"] ["value", "many"] (defScope s_is_tuple_of) := ⟨rfl, rfl, rfl, by decide +kernel, rfl, by decide +kernel, by decide +kernel⟩
theorem bd_is_tuple_of (T : Txt w K mg cm) : Binds K T.fd_is_tuple_of ["value", "many"] [] := T.F_is_tuple_of.binds fun _ _ _ _ _ _ us hl => match us, hl with | [_, _], _ => rfl
theorem ok_is_tuple_of (T : Txt w K mg cm) : FnG P w K mg base 1 T.a_is_tuple_of T.fd_is_tuple_of ["value", "many"] (spD K cm 2 F_is_tuple_of) := FnG.of T.F_is_tuple_of sc_is_tuple_of fun cdv A fr s H E hr hg =>
  (ss_one (s_ret (e_and (e_cb call_isi co_isi (by rfl) T.z_isinstance rfl (a_cons (e_var 0) (a_cons (e_ty (by rfl) T.z_tuple rfl) a_nil))) (e_and1 (c_eq hr (e_cb call_len_any co_len (by rfl) T.z_len rfl (a_cons (e_var 0) a_nil)) (e_var 1))))))
theorem sc_is_ascending : FnScope ["items", "low", "high"] ["items"] (defScope s_is_ascending) := ⟨rfl, rfl, rfl, by decide +kernel, rfl, by decide +kernel, by decide +kernel⟩
theorem bd_is_ascending (T : Txt w K mg cm) : Binds K T.fd_is_ascending ["items"] [] := T.F_is_ascending.binds fun _ _ _ _ _ _ us hl => match us, hl with | [_], _ => rfl
theorem ok_is_ascending (T : Txt w K mg cm) : FnG P w K mg base 1 T.a_is_ascending T.fd_is_ascending ["items"] (spD K cm 1 F_is_ascending) := FnG.of T.F_is_ascending sc_is_ascending fun cdv A fr s H E hr hg =>
  (ss_one (s_ret (e_cb (cr_all rfl) co_all (by rfl) T.z_all rfl (a_cons (e_comp rfl sc_is_ascending.nd (i_zip (by rfl) T.z_zip (a_cons (e_var 0) (a_cons (e_slice (e_var 0) (p_some e_int) p_none) a_nil))) (own := [("low", 1), ("high", 2)]) (blkOk_by (by kernel_rfl)) (tg_two 1 2 (by decide)) (fun _ _ _ _ _ => (pg_tup rfl (pgs_cons (pg_name (i := 1) sc_is_ascending.nd rfl (by first | exact Or.inl rfl | exact Or.inr rfl)) (pgs_cons (pg_name (i := 2) sc_is_ascending.nd rfl (by first | exact Or.inl rfl | exact Or.inr rfl)) pgs_nil)) rfl rfl)) (fun _ _ _ _ _ => ts_nil) (fun _ _ _ _ _ => (c_ltA hr (e_var 1) (e_var 2)))) a_nil))))
theorem sc_is_notes : FnScope ["value", "word"] ["value"] (defScope s_is_notes) := ⟨rfl, rfl, rfl, by decide +kernel, rfl, by decide +kernel, by decide +kernel⟩
theorem bd_is_notes (T : Txt w K mg cm) : Binds K T.fd_is_notes ["value"] [] := T.F_is_notes.binds fun _ _ _ _ _ _ us hl => match us, hl with | [_], _ => rfl
theorem ok_is_notes (T : Txt w K mg cm) : FnG P w K mg base 2 T.a_is_notes T.fd_is_notes ["value"] (spD K cm 1 F_is_notes) := FnG.of T.F_is_notes sc_is_notes fun cdv A fr s H E hr hg =>
  (ss_cons (s_if (t_not (t_tr (e_cb call_isi co_isi (by rfl) T.z_isinstance rfl (a_cons (e_var 0) (a_cons (e_ty (by rfl) T.z_tuple rfl) a_nil))))) (ss_one (s_ret e_bl)) ss_nil)
    (ss_one (s_ret (e_and (e_cb (cr_all rfl) co_all (by rfl) T.z_all rfl (a_cons (e_comp rfl sc_is_notes.nd (i_any (e_var 0)) (own := [("word", 1)]) (blkOk_by (by kernel_rfl)) (tg_one 1) (fun _ _ _ _ _ => (pg_name (i := 1) sc_is_notes.nd rfl (by first | exact Or.inl rfl | exact Or.inr rfl))) (fun _ _ _ _ _ => ts_nil) (fun _ _ _ _ _ => (c_in hr (e_var 1) (e_glob (v := (.ref T.a_NOTES)) (by rfl) T.m_NOTES rfl T.r_NOTES)))) a_nil)) (e_and1 (e_call (ok_is_ascending T) (hr.mono (by decide)) hg (takes_of rfl rfl rfl rfl) (by rfl) T.m_is_ascending T.F_is_ascending.kp (bd_is_ascending T) (a_cons (e_var 0) a_nil) (cnt_cons cnt_nil)))))))
theorem sc_is_manner : FnScope ["value"] ["value"] (defScope s_is_manner) := ⟨rfl, rfl, rfl, by decide +kernel, rfl, by decide +kernel, by decide +kernel⟩
theorem bd_is_manner (T : Txt w K mg cm) : Binds K T.fd_is_manner ["value"] [] := T.F_is_manner.binds fun _ _ _ _ _ _ us hl => match us, hl with | [_], _ => rfl
theorem ok_is_manner (T : Txt w K mg cm) : FnG P w K mg base 3 T.a_is_manner T.fd_is_manner ["value"] (spD K cm 1 F_is_manner) := FnG.of T.F_is_manner sc_is_manner fun cdv A fr s H E hr hg =>
  (ss_one (s_ret (e_and (e_call (ok_is_tuple_of T) (hr.mono (by decide)) hg (takes_of rfl rfl rfl rfl) (by rfl) T.m_is_tuple_of T.F_is_tuple_of.kp (bd_is_tuple_of T) (a_cons (e_var 0) (a_cons e_int a_nil)) (cnt_cons (cnt_cons cnt_nil))) (e_and (e_cb call_isi co_isi (by rfl) T.z_isinstance rfl (a_cons (e_ixR hr (e_var 0) e_int) (a_cons (e_ty (by rfl) T.z_bool rfl) a_nil))) (e_and1 (e_call (ok_is_notes T) (hr.mono (by decide)) hg (takes_of rfl rfl rfl rfl) (by rfl) T.m_is_notes T.F_is_notes.kp (bd_is_notes T) (a_cons (e_ixR hr (e_var 0) e_int) a_nil) (cnt_cons cnt_nil)))))))
theorem sc_tests_error : FnScope ["tests", "k", "test"] ["tests"] (defScope s_tests_error) := ⟨rfl, rfl, rfl, by decide +kernel, rfl, by decide +kernel, by decide +kernel⟩
theorem bd_tests_error (T : Txt w K mg cm) : Binds K T.fd_tests_error ["tests"] [] := T.F_tests_error.binds fun _ _ _ _ _ _ us hl => match us, hl with | [_], _ => rfl
theorem ok_tests_error (T : Txt w K mg cm) : FnG P w K mg base 2 T.a_tests_error T.fd_tests_error ["tests"] (spD K cm 1 F_tests_error) := FnG.of T.F_tests_error sc_tests_error fun cdv A fr s H E hr hg =>
  (ss_cons (s_for (passes_of rfl) rfl (i_enumT (by rfl) T.z_enumerate (a_cons (e_var 0) a_nil)) (g_tup rfl (gs_cons (g_name (i := 1) sc_tests_error.nd rfl (by first | exact Or.inl rfl | exact Or.inr rfl)) (gs_cons (g_name (i := 2) sc_tests_error.nd rfl (by first | exact Or.inl rfl | exact Or.inr rfl)) gs_nil))) (ss_one (s_if (t_nin hr (e_var 2) (e_glob (v := (.ref T.a_TESTS)) (by rfl) T.m_TESTS rfl T.r_TESTS)) (ss_one (s_ret (e_tup (a_cons e_str (a_cons (e_var 1) a_nil))))) ss_nil)))
    (ss_one (s_ret (e_if (t_tr (e_call (ok_is_ascending T) (hr.mono (by decide)) hg (takes_of rfl rfl rfl rfl) (by rfl) T.m_is_ascending T.F_is_ascending.kp (bd_is_ascending T) (a_cons (e_var 0) a_nil) (cnt_cons cnt_nil))) e_non e_str))))
theorem sc_manners_error : FnScope ["manners", "i", "manner"] ["manners"] (defScope s_manners_error) := ⟨rfl, rfl, rfl, by decide +kernel, rfl, by decide +kernel, by decide +kernel⟩
theorem bd_manners_error (T : Txt w K mg cm) : Binds K T.fd_manners_error ["manners"] [] := T.F_manners_error.binds fun _ _ _ _ _ _ us hl => match us, hl with | [_], _ => rfl
theorem ok_manners_error (T : Txt w K mg cm) : FnG P w K mg base 4 T.a_manners_error T.fd_manners_error ["manners"] (spD K cm 1 F_manners_error) := FnG.of T.F_manners_error sc_manners_error fun cdv A fr s H E hr hg =>
  (ss_cons (s_if (t_not (t_tr (e_call (ok_is_many T) (hr.mono (by decide)) hg (takes_of rfl rfl rfl rfl) (by rfl) T.m_is_many T.F_is_many.kp (bd_is_many T) (a_cons (e_cb call_len_any co_len (by rfl) T.z_len rfl (a_cons (e_var 0) a_nil)) a_nil) (cnt_cons cnt_nil)))) (ss_one (s_ret e_str)) ss_nil)
    (ss_cons (s_for (passes_of rfl) rfl (i_enumT (by rfl) T.z_enumerate (a_cons (e_var 0) a_nil)) (g_tup rfl (gs_cons (g_name (i := 1) sc_manners_error.nd rfl (by first | exact Or.inl rfl | exact Or.inr rfl)) (gs_cons (g_name (i := 2) sc_manners_error.nd rfl (by first | exact Or.inl rfl | exact Or.inr rfl)) gs_nil))) (ss_one (s_if (t_not (t_tr (e_call (ok_is_manner T) (hr.mono (by decide)) hg (takes_of rfl rfl rfl rfl) (by rfl) T.m_is_manner T.F_is_manner.kp (bd_is_manner T) (a_cons (e_var 2) a_nil) (cnt_cons cnt_nil)))) (ss_one (s_ret (e_tup (a_cons e_str (a_cons (e_var 1) a_nil))))) ss_nil)))
    (ss_one (s_ret e_non))))
theorem sc_book_error : FnScope ["value", "error", "tests", "manners"] ["value"] (defScope s_book_error) := ⟨rfl, rfl, rfl, by decide +kernel, rfl, by decide +kernel, by decide +kernel⟩
theorem bd_book_error (T : Txt w K mg cm) : Binds K T.fd_book_error ["value"] [] := T.F_book_error.binds fun _ _ _ _ _ _ us hl => match us, hl with | [_], _ => rfl
theorem kb_book_error_0_value (T : Txt w K mg cm) : KB T.fd_book_error ["value"] 0 ["value"] [0] := kb_of T.F_book_error fun _ _ _ _ _ _ us ws h1 h2 => match us, ws, h1, h2 with | [], [_], _, _ => rfl
theorem ok_book_error (T : Txt w K mg cm) : FnG P w K mg base 5 T.a_book_error T.fd_book_error ["value"] (spD K cm 1 F_book_error) := FnG.of T.F_book_error sc_book_error fun cdv A fr s H E hr hg =>
  (ss_cons (s_if (t_not (t_tr (e_call (ok_is_tuple_of T) (hr.mono (by decide)) hg (takes_of rfl rfl rfl rfl) (by rfl) T.m_is_tuple_of T.F_is_tuple_of.kp (bd_is_tuple_of T) (a_cons (e_var 0) (a_cons e_int a_nil)) (cnt_cons (cnt_cons cnt_nil))))) (ss_one (s_ret e_str)) ss_nil)
    (ss_cons (s_asg (e_var 0) (g_tup rfl (gs_cons (g_name (i := 2) sc_book_error.nd rfl (by first | exact Or.inl rfl | exact Or.inr rfl)) (gs_cons (g_name (i := 3) sc_book_error.nd rfl (by first | exact Or.inl rfl | exact Or.inr rfl)) gs_nil))))
    (ss_cons (s_if ((w_or (t_not (t_tr (e_cb call_isi co_isi (by rfl) T.z_isinstance rfl (a_cons (e_var 2) (a_cons (e_ty (by rfl) T.z_tuple rfl) a_nil))))) (w_or1 (t_not (t_tr (e_cb call_isi co_isi (by rfl) T.z_isinstance rfl (a_cons (e_var 3) (a_cons (e_ty (by rfl) T.z_tuple rfl) a_nil)))))))).pt (ss_one (s_ret e_str)) ss_nil)
    (ss_cons (s_set (i := 1) sc_book_error.nd rfl (by first | exact Or.inl rfl | exact Or.inr rfl) (e_call (ok_tests_error T) (hr.mono (by decide)) hg (takes_of rfl rfl rfl rfl) (by rfl) T.m_tests_error T.F_tests_error.kp (bd_tests_error T) (a_cons (e_var 2) a_nil) (cnt_cons cnt_nil)))
    (ss_one (s_ret (e_if (t_is (e_var 1) e_non) (e_call (ok_manners_error T) (hr.mono (by decide)) hg (takes_of rfl rfl rfl rfl) (by rfl) T.m_manners_error T.F_manners_error.kp (bd_manners_error T) (a_cons (e_var 3) a_nil) (cnt_cons cnt_nil)) (e_var 1))))))))
theorem sc_world_error : FnScope ["value"] ["value"] (defScope s_world_error) := ⟨rfl, rfl, rfl, by decide +kernel, rfl, by decide +kernel, by decide +kernel⟩
theorem bd_world_error (T : Txt w K mg cm) : Binds K T.fd_world_error ["value"] [] := T.F_world_error.binds fun _ _ _ _ _ _ us hl => match us, hl with | [_], _ => rfl
theorem kb_world_error_0_value (T : Txt w K mg cm) : KB T.fd_world_error ["value"] 0 ["value"] [0] := kb_of T.F_world_error fun _ _ _ _ _ _ us ws h1 h2 => match us, ws, h1, h2 with | [], [_], _, _ => rfl
theorem ok_world_error (T : Txt w K mg cm) : FnG P w K mg base 2 T.a_world_error T.fd_world_error ["value"] (spD K cm 1 F_world_error) := FnG.of T.F_world_error sc_world_error fun cdv A fr s H E hr hg =>
  (ss_cons (s_if (t_not (t_tr (e_call (ok_is_tuple_of T) (hr.mono (by decide)) hg (takes_of rfl rfl rfl rfl) (by rfl) T.m_is_tuple_of T.F_is_tuple_of.kp (bd_is_tuple_of T) (a_cons (e_var 0) (a_cons e_int a_nil)) (cnt_cons (cnt_cons cnt_nil))))) (ss_one (s_ret e_str)) ss_nil)
    (ss_cons (s_if (t_nin hr (e_ixR hr (e_var 0) e_int) (e_glob (v := (.ref T.a_ROADS)) (by rfl) T.m_ROADS rfl T.r_ROADS)) (ss_one (s_ret e_str)) ss_nil)
    (ss_one (s_ret (e_if (t_in hr (e_ixR hr (e_var 0) e_int) (e_glob (v := (.ref T.a_TOURS)) (by rfl) T.m_TOURS rfl T.r_TOURS)) e_non e_str)))))
theorem sc_alike_for : FnScope ["tests", "manner", "many"] ["tests", "manner", "many"] (defScope s_alike_for) := ⟨rfl, rfl, rfl, by decide +kernel, rfl, by decide +kernel, by decide +kernel⟩
theorem bd_alike_for (T : Txt w K mg cm) : Binds K T.fd_alike_for ["tests", "manner", "many"] [] := T.F_alike_for.binds fun _ _ _ _ _ _ us hl => match us, hl with | [_, _, _], _ => rfl
theorem kb_alike_for_0_many_tests_manner (T : Txt w K mg cm) : KB T.fd_alike_for ["tests", "manner", "many"] 0 ["many", "tests", "manner"] [1, 2, 0] := kb_of T.F_alike_for fun _ _ _ _ _ _ us ws h1 h2 => match us, ws, h1, h2 with | [], [_, _, _], _, _ => rfl
theorem ok_alike_for (T : Txt w K mg cm) : FnG P w K mg base 3 T.a_alike_for T.fd_alike_for ["tests", "manner", "many"] (spD K cm 3 F_alike_for) := FnG.of T.F_alike_for sc_alike_for fun cdv A fr s H E hr hg =>
  (ss_cons (s_if (t_not (t_tr (e_call (ok_is_many T) (hr.mono (by decide)) hg (takes_of rfl rfl rfl rfl) (by rfl) T.m_is_many T.F_is_many.kp (bd_is_many T) (a_cons (e_var 2) a_nil) (cnt_cons cnt_nil)))) (ss_one (s_raise0 rfl (takes_of rfl rfl rfl rfl) T.cm_Unfit (pmk_own0 PySem.F.excBase_ValueError T.ex_Unfit T.m_Unfit T.k_Unfit (raises_own T.sb_Unfit T.ty_Unfit) (by rfl)))) ss_nil)
    (ss_one (s_ret (e_tup (a_cons (e_var 0) (a_cons (b_mulC (e_tup (a_cons (e_var 1) a_nil)) (e_var 2)) a_nil))))))
theorem sc_tests_line : FnScope ["tests", "test"] ["tests"] (defScope s_tests_line) := ⟨rfl, rfl, rfl, by decide +kernel, rfl, by decide +kernel, by decide +kernel⟩
theorem bd_tests_line (T : Txt w K mg cm) : Binds K T.fd_tests_line ["tests"] [] := T.F_tests_line.binds fun _ _ _ _ _ _ us hl => match us, hl with | [_], _ => rfl
theorem ok_tests_line (T : Txt w K mg cm) : FnG P w K mg base 1 T.a_tests_line T.fd_tests_line ["tests"] (spD K cm 1 F_tests_line) := FnG.of T.F_tests_line sc_tests_line fun cdv A fr s H E hr hg =>
  (ss_cons (s_if (t_not (t_tr (e_var 0))) (ss_one (s_ret (e_glob (v := T.v_NO_TESTS) (by rfl) T.m_NO_TESTS T.rv_NO_TESTS T.r_NO_TESTS))) ss_nil)
    (ss_one (s_ret (b_add (e_glob (v := T.v_TESTS_HEAD) (by rfl) T.m_TESTS_HEAD T.rv_TESTS_HEAD T.r_TESTS_HEAD) (e_mtS PySem.F.slot_str_join PySem.F.type_str_join mt_join mo_join e_str (e_comp rfl sc_tests_line.nd (i_any (e_var 0)) (own := [("test", 1)]) (blkOk_by (by kernel_rfl)) (tg_one 1) (fun _ _ _ _ _ => (pg_name (i := 1) sc_tests_line.nd rfl (by first | exact Or.inl rfl | exact Or.inr rfl))) (fun _ _ _ _ _ => ts_nil) (fun _ _ _ _ _ => (e_mtS PySem.F.slot_str_join PySem.F.type_str_join mt_join mo_join e_str (e_var 1)))))))))
theorem sc_manner_line : FnScope ["manner", "head", "waits", "notes"] ["manner"] (defScope s_manner_line) := ⟨rfl, rfl, rfl, by decide +kernel, rfl, by decide +kernel, by decide +kernel⟩
theorem bd_manner_line (T : Txt w K mg cm) : Binds K T.fd_manner_line ["manner"] [] := T.F_manner_line.binds fun _ _ _ _ _ _ us hl => match us, hl with | [_], _ => rfl
theorem ok_manner_line (T : Txt w K mg cm) : FnG P w K mg base 1 T.a_manner_line T.fd_manner_line ["manner"] (spD K cm 1 F_manner_line) := FnG.of T.F_manner_line sc_manner_line fun cdv A fr s H E hr hg =>
  (ss_cons (s_asg (e_var 0) (g_tup rfl (gs_cons (g_name (i := 2) sc_manner_line.nd rfl (by first | exact Or.inl rfl | exact Or.inr rfl)) (gs_cons (g_name (i := 3) sc_manner_line.nd rfl (by first | exact Or.inl rfl | exact Or.inr rfl)) gs_nil))))
    (ss_cons (s_set (i := 1) sc_manner_line.nd rfl (by first | exact Or.inl rfl | exact Or.inr rfl) (e_if (t_tr (e_var 2)) (e_glob (v := T.v_WAITS) (by rfl) T.m_WAITS T.rv_WAITS T.r_WAITS) (e_glob (v := T.v_ANY_TIME) (by rfl) T.m_ANY_TIME T.rv_ANY_TIME T.r_ANY_TIME)))
    (ss_cons (s_if (t_not (t_tr (e_var 3))) (ss_one (s_ret (e_var 1))) ss_nil)
    (ss_one (s_ret (b_add (b_add (e_var 1) e_str) (e_mtS PySem.F.slot_str_join PySem.F.type_str_join mt_join mo_join e_str (e_var 3))))))))
theorem sc_book_text : FnScope ["book", "tests", "manners", "manner"] ["book"] (defScope s_book_text) := ⟨rfl, rfl, rfl, by decide +kernel, rfl, by decide +kernel, by decide +kernel⟩
theorem bd_book_text (T : Txt w K mg cm) : Binds K T.fd_book_text ["book"] [] := T.F_book_text.binds fun _ _ _ _ _ _ us hl => match us, hl with | [_], _ => rfl
theorem kb_book_text_0_book (T : Txt w K mg cm) : KB T.fd_book_text ["book"] 0 ["book"] [0] := kb_of T.F_book_text fun _ _ _ _ _ _ us ws h1 h2 => match us, ws, h1, h2 with | [], [_], _, _ => rfl
theorem ok_book_text (T : Txt w K mg cm) : FnG P w K mg base 2 T.a_book_text T.fd_book_text ["book"] (spD K cm 1 F_book_text) := FnG.of T.F_book_text sc_book_text fun cdv A fr s H E hr hg =>
  (ss_cons (s_asg (e_var 0) (g_tup rfl (gs_cons (g_name (i := 1) sc_book_text.nd rfl (by first | exact Or.inl rfl | exact Or.inr rfl)) (gs_cons (g_name (i := 2) sc_book_text.nd rfl (by first | exact Or.inl rfl | exact Or.inr rfl)) gs_nil))))
    (ss_one (s_ret (e_mtS PySem.F.slot_str_join PySem.F.type_str_join mt_join mo_join e_str (b_add (e_lst (a_cons (e_call (ok_tests_line T) (hr.mono (by decide)) hg (takes_of rfl rfl rfl rfl) (by rfl) T.m_tests_line T.F_tests_line.kp (bd_tests_line T) (a_cons (e_var 1) a_nil) (cnt_cons cnt_nil)) a_nil)) (e_comp rfl sc_book_text.nd (i_any (e_var 2)) (own := [("manner", 3)]) (blkOk_by (by kernel_rfl)) (tg_one 3) (fun _ _ _ _ _ => (pg_name (i := 3) sc_book_text.nd rfl (by first | exact Or.inl rfl | exact Or.inr rfl))) (fun _ _ _ _ _ => ts_nil) (fun _ _ _ _ _ => (e_call (ok_manner_line T) (hr.mono (by decide)) hg takes0 (by rfl) T.m_manner_line T.F_manner_line.kp (bd_manner_line T) (a_cons (e_var 3) a_nil) (cnt_cons cnt_nil)))))))))
theorem sc_world_text : FnScope ["world"] ["world"] (defScope s_world_text) := ⟨rfl, rfl, rfl, by decide +kernel, rfl, by decide +kernel, by decide +kernel⟩
theorem bd_world_text (T : Txt w K mg cm) : Binds K T.fd_world_text ["world"] [] := T.F_world_text.binds fun _ _ _ _ _ _ us hl => match us, hl with | [_], _ => rfl
theorem kb_world_text_0_world (T : Txt w K mg cm) : KB T.fd_world_text ["world"] 0 ["world"] [0] := kb_of T.F_world_text fun _ _ _ _ _ _ us ws h1 h2 => match us, ws, h1, h2 with | [], [_], _, _ => rfl
theorem ok_world_text (T : Txt w K mg cm) : FnG P w K mg base 1 T.a_world_text T.fd_world_text ["world"] (spD K cm 1 F_world_text) := FnG.of T.F_world_text sc_world_text fun cdv A fr s H E hr hg =>
  (ss_one (s_ret (e_mtS PySem.F.slot_str_join PySem.F.type_str_join mt_join mo_join e_str (e_var 0))))
theorem sc_tests_of : FnScope ["line", "tests", "told"] ["line"] (defScope s_tests_of) := ⟨rfl, rfl, rfl, by decide +kernel, rfl, by decide +kernel, by decide +kernel⟩
theorem bd_tests_of (T : Txt w K mg cm) : Binds K T.fd_tests_of ["line"] [] := T.F_tests_of.binds fun _ _ _ _ _ _ us hl => match us, hl with | [_], _ => rfl
theorem ok_tests_of (T : Txt w K mg cm) : FnG P w K mg base 3 T.a_tests_of T.fd_tests_of ["line"] (spD K cm 1 F_tests_of) := FnG.of T.F_tests_of sc_tests_of fun cdv A fr s H E hr hg =>
  (ss_cons (s_if (t_eq hr (e_var 0) (e_glob (v := T.v_NO_TESTS) (by rfl) T.m_NO_TESTS T.rv_NO_TESTS T.r_NO_TESTS)) (ss_one (s_ret (e_tup a_nil))) ss_nil)
    (ss_cons (s_if (t_not (t_tr (e_mtS PySem.F.slot_str_startswith PySem.F.type_str_startswith mt_startswith mo_starts (e_var 0) (e_glob (v := T.v_TESTS_HEAD) (by rfl) T.m_TESTS_HEAD T.rv_TESTS_HEAD T.r_TESTS_HEAD)))) (ss_one (s_ret e_non)) ss_nil)
    (ss_cons (s_set (i := 1) sc_tests_of.nd rfl (by first | exact Or.inl rfl | exact Or.inr rfl) (e_ct call_tuple_of co_tuple (by rfl) T.z_tuple rfl (a_cons (e_comp rfl sc_tests_of.nd (i_any (e_mtS PySem.F.slot_str_split PySem.F.type_str_split mt_split mo_split (e_slice (e_var 0) (p_some (e_cb call_len_any co_len (by rfl) T.z_len rfl (a_cons (e_glob (v := T.v_TESTS_HEAD) (by rfl) T.m_TESTS_HEAD T.rv_TESTS_HEAD T.r_TESTS_HEAD) a_nil))) p_none) e_str)) (own := [("told", 2)]) (blkOk_by (by kernel_rfl)) (tg_one 2) (fun _ _ _ _ _ => (pg_name (i := 2) sc_tests_of.nd rfl (by first | exact Or.inl rfl | exact Or.inr rfl))) (fun _ _ _ _ _ => ts_nil) (fun _ _ _ _ _ => (e_ct call_tuple_of co_tuple (by rfl) T.z_tuple rfl (a_cons (e_mtS PySem.F.slot_str_split PySem.F.type_str_split mt_split mo_split (e_var 2) e_str) a_nil)))) a_nil)))
    (ss_one (s_ret (e_if (t_is (e_call (ok_tests_error T) (hr.mono (by decide)) hg (takes_of rfl rfl rfl rfl) (by rfl) T.m_tests_error T.F_tests_error.kp (bd_tests_error T) (a_cons (e_var 1) a_nil) (cnt_cons cnt_nil)) e_non) (e_var 1) e_non))))))
theorem sc_manner_of : FnScope ["line", "notes", "head", "colon", "told"] ["line"] (defScope s_manner_of) := ⟨rfl, rfl, rfl, by decide +kernel, rfl, by decide +kernel, by decide +kernel⟩
theorem bd_manner_of (T : Txt w K mg cm) : Binds K T.fd_manner_of ["line"] [] := T.F_manner_of.binds fun _ _ _ _ _ _ us hl => match us, hl with | [_], _ => rfl
theorem ok_manner_of (T : Txt w K mg cm) : FnG P w K mg base 3 T.a_manner_of T.fd_manner_of ["line"] (spD K cm 1 F_manner_of) := FnG.of T.F_manner_of sc_manner_of fun cdv A fr s H E hr hg =>
  (ss_cons (s_asg (e_mtS PySem.F.slot_str_partition PySem.F.type_str_partition mt_partition mo_part (e_var 0) e_str) (g_tup rfl (gs_cons (g_name (i := 2) sc_manner_of.nd rfl (by first | exact Or.inl rfl | exact Or.inr rfl)) (gs_cons (g_name (i := 3) sc_manner_of.nd rfl (by first | exact Or.inl rfl | exact Or.inr rfl)) (gs_cons (g_name (i := 4) sc_manner_of.nd rfl (by first | exact Or.inl rfl | exact Or.inr rfl)) gs_nil)))))
    (ss_cons (s_set (i := 1) sc_manner_of.nd rfl (by first | exact Or.inl rfl | exact Or.inr rfl) (e_if (t_tr (e_var 3)) (e_ct call_tuple_of co_tuple (by rfl) T.z_tuple rfl (a_cons (e_mtS PySem.F.slot_str_split PySem.F.type_str_split mt_split mo_split (e_var 4) e_str) a_nil)) (e_tup a_nil)))
    (ss_cons (s_if ((w_or (t_nin hr (e_var 2) (e_tup (a_cons (e_glob (v := T.v_WAITS) (by rfl) T.m_WAITS T.rv_WAITS T.r_WAITS) (a_cons (e_glob (v := T.v_ANY_TIME) (by rfl) T.m_ANY_TIME T.rv_ANY_TIME T.r_ANY_TIME) a_nil)))) (w_or1 (t_not (t_tr (e_call (ok_is_notes T) (hr.mono (by decide)) hg (takes_of rfl rfl rfl rfl) (by rfl) T.m_is_notes T.F_is_notes.kp (bd_is_notes T) (a_cons (e_var 1) a_nil) (cnt_cons cnt_nil))))))).pt (ss_one (s_ret e_non)) ss_nil)
    (ss_one (s_ret (e_tup (a_cons (c_eq hr (e_var 2) (e_glob (v := T.v_WAITS) (by rfl) T.m_WAITS T.rv_WAITS T.r_WAITS)) (a_cons (e_var 1) a_nil))))))))
theorem sc_manners_of : FnScope ["lines", "manners", "number", "line", "manner"] ["lines"] (defScope s_manners_of) := ⟨rfl, rfl, rfl, by decide +kernel, rfl, by decide +kernel, by decide +kernel⟩
theorem bd_manners_of (T : Txt w K mg cm) : Binds K T.fd_manners_of ["lines"] [] := T.F_manners_of.binds fun _ _ _ _ _ _ us hl => match us, hl with | [_], _ => rfl
theorem ok_manners_of (T : Txt w K mg cm) : FnG P w K mg base 4 T.a_manners_of T.fd_manners_of ["lines"] (spD K cm 1 F_manners_of) := FnG.of T.F_manners_of sc_manners_of fun cdv A fr s H E hr hg =>
  (ss_cons (s_set (i := 1) sc_manners_of.nd rfl (by first | exact Or.inl rfl | exact Or.inr rfl) (e_lst a_nil))
    (ss_cons (s_for (passes_of rfl) rfl (i_enumS (by rfl) T.z_enumerate (a_cons (e_var 0) a_nil) (k_cons e_int k_nil)) (g_tup rfl (gs_cons (g_name (i := 2) sc_manners_of.nd rfl (by first | exact Or.inl rfl | exact Or.inr rfl)) (gs_cons (g_name (i := 3) sc_manners_of.nd rfl (by first | exact Or.inl rfl | exact Or.inr rfl)) gs_nil))) (ss_cons (s_set (i := 4) sc_manners_of.nd rfl (by first | exact Or.inl rfl | exact Or.inr rfl) (e_call (ok_manner_of T) (hr.mono (by decide)) hg (takes_of rfl rfl rfl rfl) (by rfl) T.m_manner_of T.F_manner_of.kp (bd_manner_of T) (a_cons (e_var 3) a_nil) (cnt_cons cnt_nil)))
    (ss_cons (s_if (t_is (e_var 4) e_non) (ss_one (s_raise1 rfl (takes_of rfl rfl rfl rfl) T.ox_BadText T.no_BadText T.cm_BadText T.in_BadText T.it_BadText (ok_init_BadText T) (hr.mono (by decide)) (bd_init_BadText T) (by rfl) T.m_BadText (a_cons (e_var 2) a_nil))) ss_nil)
    (ss_one (s_expr (e_mtL PySem.F.plainAttrs_list PySem.F.slot_list_append PySem.F.type_list_append mt_append mo_append (e_var 1) (a_cons (e_var 4) a_nil)))))))
    (ss_one (s_ret (e_ct call_tuple_of co_tuple (by rfl) T.z_tuple rfl (a_cons (e_var 1) a_nil))))))
theorem sc_read_book : FnScope ["value", "lines", "tests", "manners"] ["value"] (defScope s_read_book) := ⟨rfl, rfl, rfl, by decide +kernel, rfl, by decide +kernel, by decide +kernel⟩
theorem bd_read_book (T : Txt w K mg cm) : Binds K T.fd_read_book ["value"] [] := T.F_read_book.binds fun _ _ _ _ _ _ us hl => match us, hl with | [_], _ => rfl
theorem kb_read_book_0_value (T : Txt w K mg cm) : KB T.fd_read_book ["value"] 0 ["value"] [0] := kb_of T.F_read_book fun _ _ _ _ _ _ us ws h1 h2 => match us, ws, h1, h2 with | [], [_], _, _ => rfl
theorem ok_read_book (T : Txt w K mg cm) : FnG P w K mg base 5 T.a_read_book T.fd_read_book ["value"] (spD K cm 1 F_read_book) := FnG.of T.F_read_book sc_read_book fun cdv A fr s H E hr hg =>
  (ss_cons (s_if (t_not (t_tr (e_cb call_isi co_isi (by rfl) T.z_isinstance rfl (a_cons (e_var 0) (a_cons (e_ty (by rfl) T.z_str rfl) a_nil))))) (ss_one (s_raise1 rfl (takes_of rfl rfl rfl rfl) T.ox_BadText T.no_BadText T.cm_BadText T.in_BadText T.it_BadText (ok_init_BadText T) (hr.mono (by decide)) (bd_init_BadText T) (by rfl) T.m_BadText (a_cons e_int a_nil))) ss_nil)
    (ss_cons (s_set (i := 1) sc_read_book.nd rfl (by first | exact Or.inl rfl | exact Or.inr rfl) (e_mtS PySem.F.slot_str_split PySem.F.type_str_split mt_split mo_split (e_var 0) e_str))
    (ss_cons (s_set (i := 2) sc_read_book.nd rfl (by first | exact Or.inl rfl | exact Or.inr rfl) (e_call (ok_tests_of T) (hr.mono (by decide)) hg (takes_of rfl rfl rfl rfl) (by rfl) T.m_tests_of T.F_tests_of.kp (bd_tests_of T) (a_cons (e_ixR hr (e_var 1) e_int) a_nil) (cnt_cons cnt_nil)))
    (ss_cons (s_if (t_is (e_var 2) e_non) (ss_one (s_raise1 rfl (takes_of rfl rfl rfl rfl) T.ox_BadText T.no_BadText T.cm_BadText T.in_BadText T.it_BadText (ok_init_BadText T) (hr.mono (by decide)) (bd_init_BadText T) (by rfl) T.m_BadText (a_cons e_int a_nil))) ss_nil)
    (ss_cons (s_set (i := 3) sc_read_book.nd rfl (by first | exact Or.inl rfl | exact Or.inr rfl) (e_call (ok_manners_of T) (hr.mono (by decide)) hg (takes_of rfl rfl rfl rfl) (by rfl) T.m_manners_of T.F_manners_of.kp (bd_manners_of T) (a_cons (e_slice (e_var 1) (p_some e_int) p_none) a_nil) (cnt_cons cnt_nil)))
    (ss_cons (s_if (t_not (t_tr (e_call (ok_is_many T) (hr.mono (by decide)) hg (takes_of rfl rfl rfl rfl) (by rfl) T.m_is_many T.F_is_many.kp (bd_is_many T) (a_cons (e_cb call_len_any co_len (by rfl) T.z_len rfl (a_cons (e_var 3) a_nil)) a_nil) (cnt_cons cnt_nil)))) (ss_one (s_raise1 rfl (takes_of rfl rfl rfl rfl) T.ox_BadBook T.no_BadBook T.cm_BadBook T.in_BadBook T.it_BadBook (ok_init_BadBook T) (hr.mono (by decide)) (bd_init_BadBook T) (by rfl) T.m_BadBook (a_cons e_str a_nil))) ss_nil)
    (ss_one (s_ret (e_tup (a_cons (e_var 2) (a_cons (e_var 3) a_nil)))))))))))
theorem sc_read_world : FnScope ["value", "world"] ["value"] (defScope s_read_world) := ⟨rfl, rfl, rfl, by decide +kernel, rfl, by decide +kernel, by decide +kernel⟩
theorem bd_read_world (T : Txt w K mg cm) : Binds K T.fd_read_world ["value"] [] := T.F_read_world.binds fun _ _ _ _ _ _ us hl => match us, hl with | [_], _ => rfl
theorem kb_read_world_0_value (T : Txt w K mg cm) : KB T.fd_read_world ["value"] 0 ["value"] [0] := kb_of T.F_read_world fun _ _ _ _ _ _ us ws h1 h2 => match us, ws, h1, h2 with | [], [_], _, _ => rfl
theorem ok_read_world (T : Txt w K mg cm) : FnG P w K mg base 3 T.a_read_world T.fd_read_world ["value"] (spD K cm 1 F_read_world) := FnG.of T.F_read_world sc_read_world fun cdv A fr s H E hr hg =>
  (ss_cons (s_if (t_not (t_tr (e_cb call_isi co_isi (by rfl) T.z_isinstance rfl (a_cons (e_var 0) (a_cons (e_ty (by rfl) T.z_str rfl) a_nil))))) (ss_one (s_raise1 rfl (takes_of rfl rfl rfl rfl) T.ox_BadText T.no_BadText T.cm_BadText T.in_BadText T.it_BadText (ok_init_BadText T) (hr.mono (by decide)) (bd_init_BadText T) (by rfl) T.m_BadText (a_cons e_int a_nil))) ss_nil)
    (ss_cons (s_set (i := 1) sc_read_world.nd rfl (by first | exact Or.inl rfl | exact Or.inr rfl) (e_ct call_tuple_of co_tuple (by rfl) T.z_tuple rfl (a_cons (e_mtS PySem.F.slot_str_split PySem.F.type_str_split mt_split mo_split (e_var 0) e_str) a_nil)))
    (ss_cons (s_if (t_isn (e_call (ok_world_error T) (hr.mono (by decide)) hg (takes_of rfl rfl rfl rfl) (by rfl) T.m_world_error T.F_world_error.kp (bd_world_error T) (a_cons (e_var 1) a_nil) (cnt_cons cnt_nil)) e_non) (ss_one (s_raise1 rfl (takes_of rfl rfl rfl rfl) T.ox_BadText T.no_BadText T.cm_BadText T.in_BadText T.it_BadText (ok_init_BadText T) (hr.mono (by decide)) (bd_init_BadText T) (by rfl) T.m_BadText (a_cons e_int a_nil))) ss_nil)
    (ss_one (s_ret (e_var 1))))))
theorem sc_row_of : FnScope ["name", "row"] ["name"] (defScope s_row_of) := ⟨rfl, rfl, rfl, by decide +kernel, rfl, by decide +kernel, by decide +kernel⟩
theorem bd_row_of (T : Txt w K mg cm) : Binds K T.fd_row_of ["name"] [] := T.F_row_of.binds fun _ _ _ _ _ _ us hl => match us, hl with | [_], _ => rfl
theorem ok_row_of (T : Txt w K mg cm) : FnG P w K mg base 1 T.a_row_of T.fd_row_of ["name"] (spD K cm 1 F_row_of) := FnG.of T.F_row_of sc_row_of fun cdv A fr s H E hr hg =>
  (ss_cons (s_for (passes_of rfl) rfl (i_any (e_glob (v := (.ref T.a_KNOWN)) (by rfl) T.m_KNOWN rfl T.r_KNOWN)) (g_name (i := 1) sc_row_of.nd rfl (by first | exact Or.inl rfl | exact Or.inr rfl)) (ss_one (s_if (t_eq hr (e_ixR hr (e_var 1) e_int) (e_var 0)) (ss_one (s_ret (e_var 1))) ss_nil)))
    (ss_one (s_raise0 rfl (takes_of rfl rfl rfl rfl) T.cm_Unfit (pmk_own0 PySem.F.excBase_ValueError T.ex_Unfit T.m_Unfit T.k_Unfit (raises_own T.sb_Unfit T.ty_Unfit) (by rfl)))))
theorem sc_known_names : FnScope ["row"] [] (defScope s_known_names) := ⟨rfl, rfl, rfl, by decide +kernel, rfl, by decide +kernel, by decide +kernel⟩
theorem bd_known_names (T : Txt w K mg cm) : Binds K T.fd_known_names [] [] := T.F_known_names.binds fun _ _ _ _ _ _ us hl => match us, hl with | [], _ => rfl
theorem ok_known_names (T : Txt w K mg cm) : FnG P w K mg base 1 T.a_known_names T.fd_known_names [] (spD K cm 0 F_known_names) := FnG.of T.F_known_names sc_known_names fun cdv A fr s H E hr hg =>
  (ss_one (s_ret (e_ct call_tuple_of co_tuple (by rfl) T.z_tuple rfl (a_cons (e_comp rfl sc_known_names.nd (i_any (e_glob (v := (.ref T.a_KNOWN)) (by rfl) T.m_KNOWN rfl T.r_KNOWN)) (own := [("row", 0)]) (blkOk_by (by kernel_rfl)) (tg_one 0) (fun _ _ _ _ _ => (pg_name (i := 0) sc_known_names.nd rfl (by first | exact Or.inl rfl | exact Or.inr rfl))) (fun _ _ _ _ _ => ts_nil) (fun _ _ _ _ _ => (e_ixR hr (e_var 0) e_int))) a_nil))))
theorem sc_known_book : FnScope ["name", "many", "row"] ["name", "many"] (defScope s_known_book) := ⟨rfl, rfl, rfl, by decide +kernel, rfl, by decide +kernel, by decide +kernel⟩
theorem bd_known_book (T : Txt w K mg cm) : Binds K T.fd_known_book ["name", "many"] [] := T.F_known_book.binds fun _ _ _ _ _ _ us hl => match us, hl with | [_, _], _ => rfl
theorem kb_known_book_0_many_name (T : Txt w K mg cm) : KB T.fd_known_book ["name", "many"] 0 ["many", "name"] [1, 0] := kb_of T.F_known_book fun _ _ _ _ _ _ us ws h1 h2 => match us, ws, h1, h2 with | [], [_, _], _, _ => rfl
theorem ok_known_book (T : Txt w K mg cm) : FnG P w K mg base 4 T.a_known_book T.fd_known_book ["name", "many"] (spD K cm 2 F_known_book) := FnG.of T.F_known_book sc_known_book fun cdv A fr s H E hr hg =>
  (ss_cons (s_set (i := 2) sc_known_book.nd rfl (by first | exact Or.inl rfl | exact Or.inr rfl) (e_call (ok_row_of T) (hr.mono (by decide)) hg (takes_of rfl rfl rfl rfl) (by rfl) T.m_row_of T.F_row_of.kp (bd_row_of T) (a_cons (e_var 0) a_nil) (cnt_cons cnt_nil)))
    (ss_one (s_ret (e_call (ok_alike_for T) (hr.mono (by decide)) hg (takes_of rfl rfl rfl rfl) (by rfl) T.m_alike_for T.F_alike_for.kp (bd_alike_for T) (a_cons (e_ixR hr (e_var 2) e_int) (a_cons (e_tup (a_cons e_bl (a_cons (e_ixR hr (e_var 2) e_int) a_nil))) (a_cons (e_var 1) a_nil))) (cnt_cons (cnt_cons (cnt_cons cnt_nil)))))))
theorem sc_known_worlds : FnScope ["name"] ["name"] (defScope s_known_worlds) := ⟨rfl, rfl, rfl, by decide +kernel, rfl, by decide +kernel, by decide +kernel⟩
theorem bd_known_worlds (T : Txt w K mg cm) : Binds K T.fd_known_worlds ["name"] [] := T.F_known_worlds.binds fun _ _ _ _ _ _ us hl => match us, hl with | [_], _ => rfl
theorem kb_known_worlds_0_name (T : Txt w K mg cm) : KB T.fd_known_worlds ["name"] 0 ["name"] [0] := kb_of T.F_known_worlds fun _ _ _ _ _ _ us ws h1 h2 => match us, ws, h1, h2 with | [], [_], _, _ => rfl
theorem ok_known_worlds (T : Txt w K mg cm) : FnG P w K mg base 2 T.a_known_worlds T.fd_known_worlds ["name"] (spD K cm 1 F_known_worlds) := FnG.of T.F_known_worlds sc_known_worlds fun cdv A fr s H E hr hg =>
  (ss_one (s_ret (e_ixR hr (e_call (ok_row_of T) (hr.mono (by decide)) hg (takes_of rfl rfl rfl rfl) (by rfl) T.m_row_of T.F_row_of.kp (bd_row_of T) (a_cons (e_var 0) a_nil) (cnt_cons cnt_nil)) e_int)))
theorem sc_law_deck : FnScope ["script", "deck", "cell", "whole", "state"] ["script"] (defScope s_law_deck) := ⟨rfl, rfl, rfl, by decide +kernel, rfl, by decide +kernel, by decide +kernel⟩
theorem bd_law_deck (T : Txt w K mg cm) : Binds K T.fd_law_deck ["script"] [] := T.F_law_deck.binds fun _ _ _ _ _ _ us hl => match us, hl with | [_], _ => rfl
theorem ok_law_deck (T : Txt w K mg cm) : FnG P w K mg base 1 T.a_law_deck T.fd_law_deck ["script"] (spD K cm 1 F_law_deck) := FnG.of T.F_law_deck sc_law_deck fun cdv A fr s H E hr hg =>
  (ss_cons (s_set (i := 1) sc_law_deck.nd rfl (by first | exact Or.inl rfl | exact Or.inr rfl) (e_dict (pps_cons e_str (e_lst a_nil) (pps_cons e_str (b_add e_int (e_cb call_len_any co_len (by rfl) T.z_len rfl (a_cons (e_slice (e_var 0) p_none (p_some e_int)) a_nil))) pps_nil))))
    (ss_cons (s_for (passes_of rfl) rfl (i_any (e_slice (e_var 0) p_none (p_some e_int))) (g_name (i := 2) sc_law_deck.nd rfl (by first | exact Or.inl rfl | exact Or.inr rfl)) (ss_cons (s_set (i := 3) sc_law_deck.nd rfl (by first | exact Or.inl rfl | exact Or.inr rfl) (e_cb call_abs co_abs (by rfl) T.z_abs rfl (a_cons (e_var 2) a_nil)))
    (ss_cons (s_if (t_ge (e_var 3) (b_pow e_int e_int)) (ss_one (s_put (hu1 hr) (b_add (e_lst (a_cons (e_var 3) a_nil)) (e_ixR hr (e_var 1) e_str)) (e_var 1) e_str)) ss_nil)
    (ss_cons (s_set (i := 4) sc_law_deck.nd rfl (by first | exact Or.inl rfl | exact Or.inr rfl) (b_add (b_mul (b_add (b_add (b_add (e_ixR hr (e_var 1) e_str) (b_mul e_int (e_var 3))) (e_ct call_intA co_intA (by rfl) T.z_int rfl (a_cons (c_lt (e_var 2) e_int) a_nil))) e_int) e_int) e_int))
    (ss_one (s_put (hu1 hr) (b_mod (e_ct call_intA co_intA (by rfl) T.z_int rfl (a_cons (e_var 4) a_nil)) e_int) (e_var 1) e_str))))))
    (ss_one (s_ret (e_var 1)))))
theorem sc_law_draw : FnScope ["deck", "many", "one", "two", "whole"] ["deck", "many"] (defScope s_law_draw) := ⟨rfl, rfl, rfl, by decide +kernel, rfl, by decide +kernel, by decide +kernel⟩
theorem bd_law_draw (T : Txt w K mg cm) : Binds K T.fd_law_draw ["deck", "many"] [] := T.F_law_draw.binds fun _ _ _ _ _ _ us hl => match us, hl with | [_, _], _ => rfl
theorem ok_law_draw (T : Txt w K mg cm) : FnG P w K mg base 1 T.a_law_draw T.fd_law_draw ["deck", "many"] (spD K cm 2 F_law_draw) := FnG.of T.F_law_draw sc_law_draw fun cdv A fr s H E hr hg =>
  (ss_cons (s_if (t_lt (e_var 1) e_int) (ss_one (s_ret e_int)) ss_nil)
    (ss_cons (s_if (t_ne hr (e_ixR hr (e_var 0) e_str) (e_lst a_nil)) (ss_cons (s_set (i := 4) sc_law_draw.nd rfl (by first | exact Or.inl rfl | exact Or.inr rfl) (e_mtL0 PySem.F.plainAttrs_list PySem.F.slot_list_pop PySem.F.type_list_pop mt_pop mo_pop (e_ixR hr (e_var 0) e_str)))
    (ss_cons (s_if (t_ge (e_var 4) (e_var 1)) (ss_one (s_expr (e_mtL PySem.F.plainAttrs_list PySem.F.slot_list_append PySem.F.type_list_append mt_append mo_append (e_ixR hr (e_var 0) e_str) (a_cons (b_div (e_var 4) (e_var 1)) a_nil)))) ss_nil)
    (ss_one (s_ret (b_mod (e_ct call_intA co_intA (by rfl) T.z_int rfl (a_cons (e_var 4) a_nil)) (e_var 1)))))) ss_nil)
    (ss_cons (s_set (i := 2) sc_law_draw.nd rfl (by first | exact Or.inl rfl | exact Or.inr rfl) (b_mod (e_ct call_intA co_intA (by rfl) T.z_int rfl (a_cons (b_add (b_mul (e_ixR hr (e_var 0) e_str) e_int) e_int) a_nil)) e_int))
    (ss_cons (s_put (hu1 hr) (e_var 2) (e_var 0) e_str)
    (ss_cons (s_set (i := 3) sc_law_draw.nd rfl (by first | exact Or.inl rfl | exact Or.inr rfl) (b_mod (e_ct call_intA co_intA (by rfl) T.z_int rfl (a_cons (b_add (b_add (b_mul (e_var 2) (e_var 2)) (b_mul e_int (e_var 2))) e_int) a_nil)) e_int))
    (ss_one (s_ret (b_mod (e_ct call_intA co_intA (by rfl) T.z_int rfl (a_cons (b_div (e_var 3) e_int) a_nil)) (e_var 1)))))))))
theorem sc_law_pick : FnScope ["deck", "items"] ["deck", "items"] (defScope s_law_pick) := ⟨rfl, rfl, rfl, by decide +kernel, rfl, by decide +kernel, by decide +kernel⟩
theorem bd_law_pick (T : Txt w K mg cm) : Binds K T.fd_law_pick ["deck", "items"] [] := T.F_law_pick.binds fun _ _ _ _ _ _ us hl => match us, hl with | [_, _], _ => rfl
theorem ok_law_pick (T : Txt w K mg cm) : FnG P w K mg base 2 T.a_law_pick T.fd_law_pick ["deck", "items"] (spD K cm 2 F_law_pick) := FnG.of T.F_law_pick sc_law_pick fun cdv A fr s H E hr hg =>
  (ss_one (s_ret (e_ixR hr (e_var 1) (e_call (ok_law_draw T) (hr.mono (by decide)) hg (takes_of rfl rfl rfl rfl) (by rfl) T.m_law_draw T.F_law_draw.kp (bd_law_draw T) (a_cons (e_var 0) (a_cons (e_cb call_len_any co_len (by rfl) T.z_len rfl (a_cons (e_var 1) a_nil)) a_nil)) (cnt_cons (cnt_cons cnt_nil))))))
theorem sc_law_tests : FnScope [] [] (defScope s_law_tests) := ⟨rfl, rfl, rfl, by decide +kernel, rfl, by decide +kernel, by decide +kernel⟩
theorem bd_law_tests (T : Txt w K mg cm) : Binds K T.fd_law_tests [] [] := T.F_law_tests.binds fun _ _ _ _ _ _ us hl => match us, hl with | [], _ => rfl
theorem ok_law_tests (T : Txt w K mg cm) : FnG P w K mg base 1 T.a_law_tests T.fd_law_tests [] (spD K cm 0 F_law_tests) := FnG.of T.F_law_tests sc_law_tests fun cdv A fr s H E hr hg =>
  (ss_one (s_ret (e_lst (a_cons (e_tup (a_cons e_str (a_cons e_str a_nil))) (a_cons (e_tup (a_cons e_str (a_cons e_str a_nil))) (a_cons (e_tup (a_cons e_str (a_cons e_str a_nil))) (a_cons (e_tup (a_cons e_str (a_cons e_str a_nil))) (a_cons (e_tup (a_cons e_str (a_cons e_str a_nil))) (a_cons (e_tup (a_cons e_str (a_cons e_str a_nil))) a_nil)))))))))
theorem sc_law_words : FnScope [] [] (defScope s_law_words) := ⟨rfl, rfl, rfl, by decide +kernel, rfl, by decide +kernel, by decide +kernel⟩
theorem bd_law_words (T : Txt w K mg cm) : Binds K T.fd_law_words [] [] := T.F_law_words.binds fun _ _ _ _ _ _ us hl => match us, hl with | [], _ => rfl
theorem ok_law_words (T : Txt w K mg cm) : FnG P w K mg base 1 T.a_law_words T.fd_law_words [] (spD K cm 0 F_law_words) := FnG.of T.F_law_words sc_law_words fun cdv A fr s H E hr hg =>
  (ss_one (s_ret (e_lst (a_cons e_str (a_cons e_str (a_cons e_str (a_cons e_str a_nil)))))))
theorem sc_law_manner : FnScope ["deck", "notes", "word"] ["deck"] (defScope s_law_manner) := ⟨rfl, rfl, rfl, by decide +kernel, rfl, by decide +kernel, by decide +kernel⟩
theorem bd_law_manner (T : Txt w K mg cm) : Binds K T.fd_law_manner ["deck"] [] := T.F_law_manner.binds fun _ _ _ _ _ _ us hl => match us, hl with | [_], _ => rfl
theorem ok_law_manner (T : Txt w K mg cm) : FnG P w K mg base 2 T.a_law_manner T.fd_law_manner ["deck"] (spD K cm 1 F_law_manner) := FnG.of T.F_law_manner sc_law_manner fun cdv A fr s H E hr hg =>
  (ss_cons (s_set (i := 1) sc_law_manner.nd rfl (by first | exact Or.inl rfl | exact Or.inr rfl) (e_ct call_tuple_of co_tuple (by rfl) T.z_tuple rfl (a_cons (e_comp rfl sc_law_manner.nd (i_any (e_call0 (ok_law_words T) (hr.mono (by decide)) hg (takes_of rfl rfl rfl rfl) (by rfl) T.m_law_words T.F_law_words.kp (bd_law_words T))) (own := [("word", 2)]) (blkOk_by (by kernel_rfl)) (tg_one 2) (fun _ _ _ _ _ => (pg_name (i := 2) sc_law_manner.nd rfl (by first | exact Or.inl rfl | exact Or.inr rfl))) (fun _ _ _ _ _ => (ts_one (t_eq hr (e_call (ok_law_draw T) (hr.mono (by decide)) hg takes0 (by rfl) T.m_law_draw T.F_law_draw.kp (bd_law_draw T) (a_cons (e_var 0) (a_cons e_int a_nil)) (cnt_cons (cnt_cons cnt_nil))) e_int))) (fun _ _ _ _ _ => (e_var 2))) a_nil)))
    (ss_one (s_ret (e_tup (a_cons (c_eq hr (e_call (ok_law_draw T) (hr.mono (by decide)) hg (takes_of rfl rfl rfl rfl) (by rfl) T.m_law_draw T.F_law_draw.kp (bd_law_draw T) (a_cons (e_var 0) (a_cons e_int a_nil)) (cnt_cons (cnt_cons cnt_nil))) e_int) (a_cons (e_var 1) a_nil))))))
theorem sc_law_book : FnScope ["deck", "tests", "many", "one", "own", "machine"] ["deck"] (defScope s_law_book) := ⟨rfl, rfl, rfl, by decide +kernel, rfl, by decide +kernel, by decide +kernel⟩
theorem bd_law_book (T : Txt w K mg cm) : Binds K T.fd_law_book ["deck"] [] := T.F_law_book.binds fun _ _ _ _ _ _ us hl => match us, hl with | [_], _ => rfl
theorem ok_law_book (T : Txt w K mg cm) : FnG P w K mg base 3 T.a_law_book T.fd_law_book ["deck"] (spD K cm 1 F_law_book) := FnG.of T.F_law_book sc_law_book fun cdv A fr s H E hr hg =>
  (ss_cons (s_set (i := 1) sc_law_book.nd rfl (by first | exact Or.inl rfl | exact Or.inr rfl) (e_ct call_tuple_of co_tuple (by rfl) T.z_tuple rfl (a_cons (e_comp rfl sc_law_book.nd (i_any (e_call0 (ok_law_tests T) (hr.mono (by decide)) hg (takes_of rfl rfl rfl rfl) (by rfl) T.m_law_tests T.F_law_tests.kp (bd_law_tests T))) (own := [("own", 4)]) (blkOk_by (by kernel_rfl)) (tg_one 4) (fun _ _ _ _ _ => (pg_name (i := 4) sc_law_book.nd rfl (by first | exact Or.inl rfl | exact Or.inr rfl))) (fun _ _ _ _ _ => (ts_one (t_eq hr (e_call (ok_law_draw T) (hr.mono (by decide)) hg takes0 (by rfl) T.m_law_draw T.F_law_draw.kp (bd_law_draw T) (a_cons (e_var 0) (a_cons e_int a_nil)) (cnt_cons (cnt_cons cnt_nil))) e_int))) (fun _ _ _ _ _ => (e_var 4))) a_nil)))
    (ss_cons (s_par rfl sc_law_book.nd rfl rfl (by decide) rfl rfl (a_cons (b_add e_int (e_call (ok_law_draw T) (hr.mono (by decide)) hg (takes_of rfl rfl rfl rfl) (by rfl) T.m_law_draw T.F_law_draw.kp (bd_law_draw T) (a_cons (e_var 0) (a_cons e_int a_nil)) (cnt_cons (cnt_cons cnt_nil)))) (a_cons (e_call (ok_law_manner T) (hr.mono (by decide)) hg (takes_of rfl rfl rfl rfl) (by rfl) T.m_law_manner T.F_law_manner.kp (bd_law_manner T) (a_cons (e_var 0) a_nil) (cnt_cons cnt_nil)) a_nil)))
    (ss_cons (s_if (t_eq hr (e_call (ok_law_draw T) (hr.mono (by decide)) hg (takes_of rfl rfl rfl rfl) (by rfl) T.m_law_draw T.F_law_draw.kp (bd_law_draw T) (a_cons (e_var 0) (a_cons e_int a_nil)) (cnt_cons (cnt_cons cnt_nil))) e_int) (ss_one (s_ret (e_tup (a_cons (e_var 1) (a_cons (b_mulB (e_tup (a_cons (e_var 3) a_nil)) (e_var 2)) a_nil))))) ss_nil)
    (ss_one (s_ret (e_tup (a_cons (e_var 1) (a_cons (e_ct call_tuple_of co_tuple (by rfl) T.z_tuple rfl (a_cons (e_comp rfl sc_law_book.nd (i_rng1 (by rfl) T.z_range (a_cons (e_var 2) a_nil) (cnt_cons cnt_nil)) (own := [("machine", 5)]) (blkOk_by (by kernel_rfl)) (tg_one 5) (fun _ _ _ _ _ => (pg_name (i := 5) sc_law_book.nd rfl (by first | exact Or.inl rfl | exact Or.inr rfl))) (fun _ _ _ _ _ => ts_nil) (fun _ _ _ _ _ => (e_call (ok_law_manner T) (hr.mono (by decide)) hg takes0 (by rfl) T.m_law_manner T.F_law_manner.kp (bd_law_manner T) (a_cons (e_var 0) a_nil) (cnt_cons cnt_nil)))) a_nil)) a_nil))))))))
theorem sc_law_text : FnScope ["book", "found", "tests", "manners", "waits", "notes", "line", "one", "other"] ["book"] (defScope s_law_text) := ⟨rfl, rfl, rfl, by decide +kernel, rfl, by decide +kernel, by decide +kernel⟩
theorem bd_law_text (T : Txt w K mg cm) : Binds K T.fd_law_text ["book"] [] := T.F_law_text.binds fun _ _ _ _ _ _ us hl => match us, hl with | [_], _ => rfl
theorem ok_law_text (T : Txt w K mg cm) : FnG P w K mg base 1 T.a_law_text T.fd_law_text ["book"] (spD K cm 1 F_law_text) := FnG.of T.F_law_text sc_law_text fun cdv A fr s H E hr hg =>
  (ss_cons (s_asg (e_var 0) (g_tup rfl (gs_cons (g_name (i := 2) sc_law_text.nd rfl (by first | exact Or.inl rfl | exact Or.inr rfl)) (gs_cons (g_name (i := 3) sc_law_text.nd rfl (by first | exact Or.inl rfl | exact Or.inr rfl)) gs_nil))))
    (ss_cons (s_set (i := 1) sc_law_text.nd rfl (by first | exact Or.inl rfl | exact Or.inr rfl) (e_if (t_ne hr (e_var 2) (e_tup a_nil)) (e_lst (a_cons (b_add e_str (e_mtS PySem.F.slot_str_join PySem.F.type_str_join mt_join mo_join e_str (e_comp rfl sc_law_text.nd (i_any (e_var 2)) (own := [("one", 7), ("other", 8)]) (blkOk_by (by kernel_rfl)) (tg_two 7 8 (by decide)) (fun _ _ _ _ _ => (pg_tup rfl (pgs_cons (pg_name (i := 7) sc_law_text.nd rfl (by first | exact Or.inl rfl | exact Or.inr rfl)) (pgs_cons (pg_name (i := 8) sc_law_text.nd rfl (by first | exact Or.inl rfl | exact Or.inr rfl)) pgs_nil)) rfl rfl)) (fun _ _ _ _ _ => ts_nil) (fun _ _ _ _ _ => (b_add (b_add (e_var 7) e_str) (e_var 8)))))) a_nil)) (e_lst (a_cons e_str a_nil))))
    (ss_cons (s_for (passes_of rfl) rfl (i_any (e_var 3)) (g_tup rfl (gs_cons (g_name (i := 4) sc_law_text.nd rfl (by first | exact Or.inl rfl | exact Or.inr rfl)) (gs_cons (g_name (i := 5) sc_law_text.nd rfl (by first | exact Or.inl rfl | exact Or.inr rfl)) gs_nil))) (ss_cons (s_set (i := 6) sc_law_text.nd rfl (by first | exact Or.inl rfl | exact Or.inr rfl) (e_if (t_tr (e_var 4)) e_str e_str))
    (ss_one (s_expr (e_mtL PySem.F.plainAttrs_list PySem.F.slot_list_append PySem.F.type_list_append mt_append mo_append (e_var 1) (a_cons (e_if (t_ne hr (e_var 5) (e_tup a_nil)) (b_add (b_add (e_var 6) e_str) (e_mtS PySem.F.slot_str_join PySem.F.type_str_join mt_join mo_join e_str (e_var 5))) (e_var 6)) a_nil))))))
    (ss_one (s_ret (e_mtS PySem.F.slot_str_join PySem.F.type_str_join mt_join mo_join e_str (e_var 1)))))))
theorem sc_law_refusable : FnScope ["word", "own", "is_named", "book", "world", "many", "name", "text"] ["word", "own", "is_named"] (defScope s_law_refusable) := ⟨rfl, rfl, rfl, by decide +kernel, rfl, by decide +kernel, by decide +kernel⟩
theorem bd_law_refusable (T : Txt w K mg cm) : Binds K T.fd_law_refusable ["word", "own", "is_named"] [] := T.F_law_refusable.binds fun _ _ _ _ _ _ us hl => match us, hl with | [_, _, _], _ => rfl
theorem ok_law_refusable (T : Txt w K mg cm) : FnG P w K mg base 6 T.a_law_refusable T.fd_law_refusable ["word", "own", "is_named"] (spD K cm 3 F_law_refusable) := FnG.of T.F_law_refusable sc_law_refusable fun cdv A fr s H E hr hg =>
  (ss_cons (s_asg (e_var 1) (g_tup rfl (gs_cons (g_name (i := 3) sc_law_refusable.nd rfl (by first | exact Or.inl rfl | exact Or.inr rfl)) (gs_cons (g_name (i := 4) sc_law_refusable.nd rfl (by first | exact Or.inl rfl | exact Or.inr rfl)) (gs_cons (g_name (i := 5) sc_law_refusable.nd rfl (by first | exact Or.inl rfl | exact Or.inr rfl)) (gs_cons (g_name (i := 6) sc_law_refusable.nd rfl (by first | exact Or.inl rfl | exact Or.inr rfl)) gs_nil))))))
    (ss_cons (s_if (t_eq hr (e_var 0) e_str) (ss_cons (s_if (t_tr (e_var 2)) (ss_one (s_ret (e_callK0 (ok_alike_for T) (hr.mono (by decide)) hg (takes_of rfl rfl rfl rfl) (by rfl) T.m_alike_for T.F_alike_for.kp (kb_alike_for_0_many_tests_manner T) (k_cons (e_var 5) (k_cons (e_ixR hr (e_var 3) e_int) (k_cons (e_ixR hr (e_ixR hr (e_var 3) e_int) e_int) k_nil))) (cnt_cons (cnt_cons (cnt_cons cnt_nil))) (fun l h => pick_len_3_120 l h)))) ss_nil)
    (ss_one (s_ret (e_call (ok_alike_for T) (hr.mono (by decide)) hg (takes_of rfl rfl rfl rfl) (by rfl) T.m_alike_for T.F_alike_for.kp (bd_alike_for T) (a_cons (e_ixR hr (e_var 3) e_int) (a_cons (e_ixR hr (e_ixR hr (e_var 3) e_int) e_int) (a_cons (e_var 5) a_nil))) (cnt_cons (cnt_cons (cnt_cons cnt_nil))))))) ss_nil)
    (ss_cons (s_if (t_eq hr (e_var 0) e_str) (ss_cons (s_set (i := 7) sc_law_refusable.nd rfl (by first | exact Or.inl rfl | exact Or.inr rfl) (b_add (e_call (ok_law_text T) (hr.mono (by decide)) hg (takes_of rfl rfl rfl rfl) (by rfl) T.m_law_text T.F_law_text.kp (bd_law_text T) (a_cons (e_var 3) a_nil) (cnt_cons cnt_nil)) (b_mul e_str (e_ct call_intA co_intA (by rfl) T.z_int rfl (a_cons (c_gt (e_var 5) e_int) a_nil)))))
    (ss_one (s_ret (e_if (t_tr (e_var 2)) (e_callK0 (ok_read_book T) (hr.mono (by decide)) hg (takes_of rfl rfl rfl rfl) (by rfl) T.m_read_book T.F_read_book.kp (kb_read_book_0_value T) (k_cons (e_var 7) k_nil) (cnt_cons cnt_nil) (fun l h => pick_len_1_0 l h)) (e_call (ok_read_book T) (hr.mono (by decide)) hg (takes_of rfl rfl rfl rfl) (by rfl) T.m_read_book T.F_read_book.kp (bd_read_book T) (a_cons (e_var 7) a_nil) (cnt_cons cnt_nil)))))) ss_nil)
    (ss_cons (s_if (t_eq hr (e_var 0) e_str) (ss_cons (s_set (i := 7) sc_law_refusable.nd rfl (by first | exact Or.inl rfl | exact Or.inr rfl) (b_add (b_add (b_add (e_ixR hr (e_var 4) e_int) e_str) (b_mul e_str (e_ct call_intA co_intA (by rfl) T.z_int rfl (a_cons (c_lt (e_var 5) e_int) a_nil)))) (e_ixR hr (e_var 4) e_int)))
    (ss_one (s_ret (e_if (t_tr (e_var 2)) (e_callK0 (ok_read_world T) (hr.mono (by decide)) hg (takes_of rfl rfl rfl rfl) (by rfl) T.m_read_world T.F_read_world.kp (kb_read_world_0_value T) (k_cons (e_var 7) k_nil) (cnt_cons cnt_nil) (fun l h => pick_len_1_0 l h)) (e_call (ok_read_world T) (hr.mono (by decide)) hg (takes_of rfl rfl rfl rfl) (by rfl) T.m_read_world T.F_read_world.kp (bd_read_world T) (a_cons (e_var 7) a_nil) (cnt_cons cnt_nil)))))) ss_nil)
    (ss_cons (s_if (t_eq hr (e_var 0) e_str) (ss_one (s_ret (e_if (t_tr (e_var 2)) (e_callK0 (ok_known_book T) (hr.mono (by decide)) hg (takes_of rfl rfl rfl rfl) (by rfl) T.m_known_book T.F_known_book.kp (kb_known_book_0_many_name T) (k_cons (e_var 5) (k_cons (e_var 6) k_nil)) (cnt_cons (cnt_cons cnt_nil)) (fun l h => pick_len_2_10 l h)) (e_call (ok_known_book T) (hr.mono (by decide)) hg (takes_of rfl rfl rfl rfl) (by rfl) T.m_known_book T.F_known_book.kp (bd_known_book T) (a_cons (e_var 6) (a_cons (e_var 5) a_nil)) (cnt_cons (cnt_cons cnt_nil)))))) ss_nil)
    (ss_one (s_ret (e_if (t_tr (e_var 2)) (e_callK0 (ok_known_worlds T) (hr.mono (by decide)) hg (takes_of rfl rfl rfl rfl) (by rfl) T.m_known_worlds T.F_known_worlds.kp (kb_known_worlds_0_name T) (k_cons (e_var 6) k_nil) (cnt_cons cnt_nil) (fun l h => pick_len_1_0 l h)) (e_call (ok_known_worlds T) (hr.mono (by decide)) hg (takes_of rfl rfl rfl rfl) (by rfl) T.m_known_worlds T.F_known_worlds.kp (bd_known_worlds T) (a_cons (e_var 6) a_nil) (cnt_cons cnt_nil))))))))))
theorem sc_law_called : FnScope ["word", "own", "is_named", "slip", "book", "world", "many", "name"] ["word", "own", "is_named"] (defScope s_law_called) := ⟨rfl, rfl, rfl, by decide +kernel, rfl, by decide +kernel, by decide +kernel⟩
theorem bd_law_called (T : Txt w K mg cm) : Binds K T.fd_law_called ["word", "own", "is_named"] [] := T.F_law_called.binds fun _ _ _ _ _ _ us hl => match us, hl with | [_, _, _], _ => rfl
theorem ok_law_called (T : Txt w K mg cm) : FnG P w K mg base 7 T.a_law_called T.fd_law_called ["word", "own", "is_named"] (spD K cm 3 F_law_called) := FnG.of T.F_law_called sc_law_called fun cdv A fr s H E hr hg =>
  (ss_cons (s_asg (e_var 1) (g_tup rfl (gs_cons (g_name (i := 4) sc_law_called.nd rfl (by first | exact Or.inl rfl | exact Or.inr rfl)) (gs_cons (g_name (i := 5) sc_law_called.nd rfl (by first | exact Or.inl rfl | exact Or.inr rfl)) (gs_cons (g_name (i := 6) sc_law_called.nd rfl (by first | exact Or.inl rfl | exact Or.inr rfl)) (gs_cons (g_name (i := 7) sc_law_called.nd rfl (by first | exact Or.inl rfl | exact Or.inr rfl)) gs_nil))))))
    (ss_cons (s_if (t_eq hr (e_var 0) e_str) (ss_one (s_ret (e_if (t_tr (e_var 2)) (e_callK0 (ok_book_error T) (hr.mono (by decide)) hg (takes_of rfl rfl rfl rfl) (by rfl) T.m_book_error T.F_book_error.kp (kb_book_error_0_value T) (k_cons (e_var 4) k_nil) (cnt_cons cnt_nil) (fun l h => pick_len_1_0 l h)) (e_call (ok_book_error T) (hr.mono (by decide)) hg (takes_of rfl rfl rfl rfl) (by rfl) T.m_book_error T.F_book_error.kp (bd_book_error T) (a_cons (e_var 4) a_nil) (cnt_cons cnt_nil))))) ss_nil)
    (ss_cons (s_if (t_eq hr (e_var 0) e_str) (ss_one (s_ret (e_if (t_tr (e_var 2)) (e_callK0 (ok_world_error T) (hr.mono (by decide)) hg (takes_of rfl rfl rfl rfl) (by rfl) T.m_world_error T.F_world_error.kp (kb_world_error_0_value T) (k_cons (e_var 5) k_nil) (cnt_cons cnt_nil) (fun l h => pick_len_1_0 l h)) (e_call (ok_world_error T) (hr.mono (by decide)) hg (takes_of rfl rfl rfl rfl) (by rfl) T.m_world_error T.F_world_error.kp (bd_world_error T) (a_cons (e_var 5) a_nil) (cnt_cons cnt_nil))))) ss_nil)
    (ss_cons (s_if (t_eq hr (e_var 0) e_str) (ss_one (s_ret (e_if (t_tr (e_var 2)) (e_callK0 (ok_book_text T) (hr.mono (by decide)) hg (takes_of rfl rfl rfl rfl) (by rfl) T.m_book_text T.F_book_text.kp (kb_book_text_0_book T) (k_cons (e_var 4) k_nil) (cnt_cons cnt_nil) (fun l h => pick_len_1_0 l h)) (e_call (ok_book_text T) (hr.mono (by decide)) hg (takes_of rfl rfl rfl rfl) (by rfl) T.m_book_text T.F_book_text.kp (bd_book_text T) (a_cons (e_var 4) a_nil) (cnt_cons cnt_nil))))) ss_nil)
    (ss_cons (s_if (t_eq hr (e_var 0) e_str) (ss_one (s_ret (e_if (t_tr (e_var 2)) (e_callK0 (ok_world_text T) (hr.mono (by decide)) hg (takes_of rfl rfl rfl rfl) (by rfl) T.m_world_text T.F_world_text.kp (kb_world_text_0_world T) (k_cons (e_var 5) k_nil) (cnt_cons cnt_nil) (fun l h => pick_len_1_0 l h)) (e_call (ok_world_text T) (hr.mono (by decide)) hg (takes_of rfl rfl rfl rfl) (by rfl) T.m_world_text T.F_world_text.kp (bd_world_text T) (a_cons (e_var 5) a_nil) (cnt_cons cnt_nil))))) ss_nil)
    (ss_cons (s_if (t_eq hr (e_var 0) e_str) (ss_one (s_ret (e_call0 (ok_known_names T) (hr.mono (by decide)) hg (takes_of rfl rfl rfl rfl) (by rfl) T.m_known_names T.F_known_names.kp (bd_known_names T)))) ss_nil)
    (ss_one (s_triesO rfl rfl sc_law_called.nd (takes_of rfl rfl rfl rfl) (.bare ⟨by rfl, by decide, Or.inl T.m_Unfit⟩ T.su_Unfit (fun a2 oe2 cls2 d2 pn2 z2 f2 => (e_lst (a_cons e_str a_nil))) (.cons (i := 3) rfl rfl ⟨by rfl, by decide, Or.inl T.m_BadText⟩ T.su_BadText (fun a2 oe2 cls2 d2 pn2 z2 f2 => (x_lst (xa_cons (x_of e_str) (xa_cons (x_fld T.xf_BadText T.cm_BadText T.no_BadText z2 f2) xa_nil)))) (.cons (i := 3) rfl rfl ⟨by rfl, by decide, Or.inl T.m_BadBook⟩ T.su_BadBook (fun a2 oe2 cls2 d2 pn2 z2 f2 => (x_lst (xa_cons (x_of e_str) (xa_cons (x_fld T.xf_BadBook T.cm_BadBook T.no_BadBook z2 f2) xa_nil)))) .nil))) (fun W2 pn2 xe2 tk2 pp2 => (ss_one (s_ret (e_call (ok_law_refusable T) (hr.mono (by decide)) hg tk2 (by rfl) T.m_law_refusable T.F_law_refusable.kp (bd_law_refusable T) (a_cons (e_var 0) (a_cons (e_var 1) (a_cons (e_var 2) a_nil))) (cnt_cons (cnt_cons (cnt_cons cnt_nil)))))))))))))))
theorem sc_law_is_due : FnScope ["word", "own", "found", "book", "world", "many", "name"] ["word", "own", "found"] (defScope s_law_is_due) := ⟨rfl, rfl, rfl, by decide +kernel, rfl, by decide +kernel, by decide +kernel⟩
theorem bd_law_is_due (T : Txt w K mg cm) : Binds K T.fd_law_is_due ["word", "own", "found"] [] := T.F_law_is_due.binds fun _ _ _ _ _ _ us hl => match us, hl with | [_, _, _], _ => rfl
theorem ok_law_is_due (T : Txt w K mg cm) : FnG P w K mg base 2 T.a_law_is_due T.fd_law_is_due ["word", "own", "found"] (spD K cm 3 F_law_is_due) := FnG.of T.F_law_is_due sc_law_is_due fun cdv A fr s H E hr hg =>
  (ss_cons (s_asg (e_var 1) (g_tup rfl (gs_cons (g_name (i := 3) sc_law_is_due.nd rfl (by first | exact Or.inl rfl | exact Or.inr rfl)) (gs_cons (g_name (i := 4) sc_law_is_due.nd rfl (by first | exact Or.inl rfl | exact Or.inr rfl)) (gs_cons (g_name (i := 5) sc_law_is_due.nd rfl (by first | exact Or.inl rfl | exact Or.inr rfl)) (gs_cons (g_name (i := 6) sc_law_is_due.nd rfl (by first | exact Or.inl rfl | exact Or.inr rfl)) gs_nil))))))
    (ss_cons (s_if (t_in hr (e_var 0) (e_tup (a_cons e_str (a_cons e_str a_nil)))) (ss_one (s_ret (c_is (e_var 2) e_non))) ss_nil)
    (ss_cons (s_if (t_eq hr (e_var 0) e_str) (ss_one (s_ret (c_eq hr (e_cb (call_reprQ (hu64 hr) hg) co_reprQ (by rfl) T.z_repr rfl (a_cons (e_var 2) a_nil)) (e_cb (call_reprQ (hu64 hr) hg) co_reprQ (by rfl) T.z_repr rfl (a_cons (e_call (ok_law_text T) (hr.mono (by decide)) hg (takes_of rfl rfl rfl rfl) (by rfl) T.m_law_text T.F_law_text.kp (bd_law_text T) (a_cons (e_var 3) a_nil) (cnt_cons cnt_nil)) a_nil))))) ss_nil)
    (ss_cons (s_if (t_eq hr (e_var 0) e_str) (ss_one (s_ret (c_eq hr (e_cb (call_reprQ (hu64 hr) hg) co_reprQ (by rfl) T.z_repr rfl (a_cons (e_var 2) a_nil)) (e_cb (call_reprQ (hu64 hr) hg) co_reprQ (by rfl) T.z_repr rfl (a_cons (e_mtS PySem.F.slot_str_join PySem.F.type_str_join mt_join mo_join e_str (e_var 4)) a_nil))))) ss_nil)
    (ss_cons (s_if (t_eq hr (e_var 0) e_str) (ss_one (s_ret (e_and (e_cb call_isi co_isi (by rfl) T.z_isinstance rfl (a_cons (e_var 2) (a_cons (e_ty (by rfl) T.z_tuple rfl) a_nil))) (e_and1 (c_eq hr (e_cb call_len_any co_len (by rfl) T.z_len rfl (a_cons (e_var 2) a_nil)) e_int))))) ss_nil)
    (ss_cons (s_if (t_eq hr (e_var 0) e_str) (ss_one (s_ret (c_eq hr (e_cb (call_reprQ (hu64 hr) hg) co_reprQ (by rfl) T.z_repr rfl (a_cons (e_var 2) a_nil)) (e_cb (call_reprQ (hu64 hr) hg) co_reprQ (by rfl) T.z_repr rfl (a_cons (e_if (t_chain op_le op_le ro_le ro_le e_int (e_var 5) e_int) (e_tup (a_cons (e_ixR hr (e_var 3) e_int) (a_cons (b_mulC (e_tup (a_cons (e_ixR hr (e_ixR hr (e_var 3) e_int) e_int) a_nil)) (e_var 5)) a_nil))) (e_lst (a_cons e_str a_nil))) a_nil))))) ss_nil)
    (ss_cons (s_if (t_eq hr (e_var 0) e_str) (ss_one (s_ret (c_eq hr (e_cb (call_reprQ (hu64 hr) hg) co_reprQ (by rfl) T.z_repr rfl (a_cons (e_var 2) a_nil)) (e_cb (call_reprQ (hu64 hr) hg) co_reprQ (by rfl) T.z_repr rfl (a_cons (e_if (t_lt (e_var 5) e_int) (e_var 3) (e_lst (a_cons e_str (a_cons (b_add (e_cb call_len_any co_len (by rfl) T.z_len rfl (a_cons (e_ixR hr (e_var 3) e_int) a_nil)) e_int) a_nil)))) a_nil))))) ss_nil)
    (ss_cons (s_if (t_eq hr (e_var 0) e_str) (ss_one (s_ret (c_eq hr (e_cb (call_reprQ (hu64 hr) hg) co_reprQ (by rfl) T.z_repr rfl (a_cons (e_var 2) a_nil)) (e_cb (call_reprQ (hu64 hr) hg) co_reprQ (by rfl) T.z_repr rfl (a_cons (e_if (t_lt (e_var 5) e_int) (e_var 4) (e_lst (a_cons e_str (a_cons e_int a_nil)))) a_nil))))) ss_nil)
    (ss_cons (s_if (t_eq hr (e_var 6) e_str) (ss_one (s_ret (c_eq hr (e_cb (call_reprQ (hu64 hr) hg) co_reprQ (by rfl) T.z_repr rfl (a_cons (e_var 2) a_nil)) (e_cb (call_reprQ (hu64 hr) hg) co_reprQ (by rfl) T.z_repr rfl (a_cons (e_lst (a_cons e_str a_nil)) a_nil))))) ss_nil)
    (ss_cons (s_if (t_eq hr (e_var 0) e_str) (ss_cons (s_if (t_not (t_chain op_le op_le ro_le ro_le e_int (e_var 5) e_int)) (ss_one (s_ret (c_eq hr (e_cb (call_reprQ (hu64 hr) hg) co_reprQ (by rfl) T.z_repr rfl (a_cons (e_var 2) a_nil)) (e_cb (call_reprQ (hu64 hr) hg) co_reprQ (by rfl) T.z_repr rfl (a_cons (e_lst (a_cons e_str a_nil)) a_nil))))) ss_nil)
    (ss_one (s_ret (e_and (e_cb call_isi co_isi (by rfl) T.z_isinstance rfl (a_cons (e_var 2) (a_cons (e_ty (by rfl) T.z_tuple rfl) a_nil))) (e_and1 (c_eq hr (e_cb call_len_any co_len (by rfl) T.z_len rfl (a_cons (e_ixR hr (e_var 2) e_int) a_nil)) (e_var 5))))))) ss_nil)
    (ss_one (s_ret (e_and (e_cb call_isi co_isi (by rfl) T.z_isinstance rfl (a_cons (e_var 2) (a_cons (e_ty (by rfl) T.z_tuple rfl) a_nil))) (e_and1 (c_in hr (e_tup (a_cons e_str (a_cons e_str a_nil))) (e_var 2))))))))))))))))
theorem sc_law : FnScope ["script", "deck", "turn", "known", "some", "tasks", "world", "name", "rest", "which", "found", "word", "own", "place"] ["script"] (defScope s_law) := ⟨rfl, rfl, rfl, by decide +kernel, rfl, by decide +kernel, by decide +kernel⟩
theorem bd_law (T : Txt w K mg cm) : Binds K T.fd_law ["script"] [] := T.F_law.binds fun _ _ _ _ _ _ us hl => match us, hl with | [_], _ => rfl
theorem ok_law (T : Txt w K mg cm) : FnG P w K mg base 8 T.a_law T.fd_law ["script"] (spD K cm 1 F_law) := FnG.of T.F_law sc_law fun cdv A fr s H E hr hg =>
  (ss_cons (s_set (i := 1) sc_law.nd rfl (by first | exact Or.inl rfl | exact Or.inr rfl) (e_call (ok_law_deck T) (hr.mono (by decide)) hg (takes_of rfl rfl rfl rfl) (by rfl) T.m_law_deck T.F_law_deck.kp (bd_law_deck T) (a_cons (e_var 0) a_nil) (cnt_cons cnt_nil)))
    (ss_cons (s_par rfl sc_law.nd rfl rfl (by decide) rfl rfl (a_cons (e_lst a_nil) (a_cons (e_lst a_nil) a_nil)))
    (ss_cons (s_for (passes_of rfl) rfl (i_rng1 (by rfl) T.z_range (a_cons e_int a_nil) (cnt_cons cnt_nil)) (g_name (i := 2) sc_law.nd rfl (by first | exact Or.inl rfl | exact Or.inr rfl)) (ss_cons (s_set (i := 6) sc_law.nd rfl (by first | exact Or.inl rfl | exact Or.inr rfl) (e_tup (a_cons (e_call (ok_law_pick T) (hr.mono (by decide)) hg (takes_of rfl rfl rfl rfl) (by rfl) T.m_law_pick T.F_law_pick.kp (bd_law_pick T) (a_cons (e_var 1) (a_cons (e_lst (a_cons e_str (a_cons e_str a_nil))) a_nil)) (cnt_cons (cnt_cons cnt_nil))) (a_cons (e_call (ok_law_pick T) (hr.mono (by decide)) hg (takes_of rfl rfl rfl rfl) (by rfl) T.m_law_pick T.F_law_pick.kp (bd_law_pick T) (a_cons (e_var 1) (a_cons (e_lst (a_cons e_str (a_cons e_str a_nil))) a_nil)) (cnt_cons (cnt_cons cnt_nil))) a_nil))))
    (ss_cons (s_set (i := 7) sc_law.nd rfl (by first | exact Or.inl rfl | exact Or.inr rfl) (e_call (ok_law_pick T) (hr.mono (by decide)) hg (takes_of rfl rfl rfl rfl) (by rfl) T.m_law_pick T.F_law_pick.kp (bd_law_pick T) (a_cons (e_var 1) (a_cons (e_lst (a_cons e_str (a_cons e_str (a_cons e_str (a_cons e_str (a_cons e_str a_nil)))))) a_nil)) (cnt_cons (cnt_cons cnt_nil))))
    (ss_cons (s_expr (e_mtL PySem.F.plainAttrs_list PySem.F.slot_list_append PySem.F.type_list_append mt_append mo_append (e_var 4) (a_cons (e_tup (a_cons (e_call (ok_law_book T) (hr.mono (by decide)) hg (takes_of rfl rfl rfl rfl) (by rfl) T.m_law_book T.F_law_book.kp (bd_law_book T) (a_cons (e_var 1) a_nil) (cnt_cons cnt_nil)) (a_cons (e_var 6) (a_cons (b_add e_int (e_call (ok_law_draw T) (hr.mono (by decide)) hg (takes_of rfl rfl rfl rfl) (by rfl) T.m_law_draw T.F_law_draw.kp (bd_law_draw T) (a_cons (e_var 1) (a_cons e_int a_nil)) (cnt_cons (cnt_cons cnt_nil)))) (a_cons (e_var 7) a_nil))))) a_nil)))
    (ss_cons (s_set (i := 8) sc_law.nd rfl (by first | exact Or.inl rfl | exact Or.inr rfl) (e_lst (a_cons e_str (a_cons e_str (a_cons e_str (a_cons e_str (a_cons e_str (a_cons e_str (a_cons e_str (a_cons e_str (a_cons e_str a_nil)))))))))))
    (ss_cons (s_expr (e_mtL PySem.F.plainAttrs_list PySem.F.slot_list_append PySem.F.type_list_append mt_append mo_append (e_var 8) (a_cons e_str a_nil)))
    (ss_one (s_expr (e_mtL PySem.F.plainAttrs_list PySem.F.slot_list_append PySem.F.type_list_append mt_append mo_append (e_var 5) (a_cons (e_comp rfl sc_law.nd (i_rng1 (by rfl) T.z_range (a_cons (e_cb call_len_any co_len (by rfl) T.z_len rfl (a_cons (e_var 8) a_nil)) a_nil) (cnt_cons cnt_nil)) (own := [("place", 13)]) (blkOk_by (by kernel_rfl)) (tg_one 13) (fun _ _ _ _ _ => (pg_name (i := 13) sc_law.nd rfl (by first | exact Or.inl rfl | exact Or.inr rfl))) (fun _ _ _ _ _ => ts_nil) (fun _ _ _ _ _ => (e_mtL PySem.F.plainAttrs_list PySem.F.slot_list_pop PySem.F.type_list_pop mt_popAt mo_popAt (e_var 8) (a_cons (e_call (ok_law_draw T) (hr.mono (by decide)) hg takes0 (by rfl) T.m_law_draw T.F_law_draw.kp (bd_law_draw T) (a_cons (e_var 1) (a_cons (e_cb call_len_any co_len (by rfl) T.z_len rfl (a_cons (e_var 8) a_nil)) a_nil)) (cnt_cons (cnt_cons cnt_nil))) a_nil)))) a_nil))))))))))
    (ss_cons (s_set (i := 3) sc_law.nd rfl (by first | exact Or.inl rfl | exact Or.inr rfl) (e_cb (call_reprQ (hu64 hr) hg) co_reprQ (by rfl) T.z_repr rfl (a_cons (e_var 4) a_nil)))
    (ss_cons (s_for (passes_of rfl) rfl (i_rng1 (by rfl) T.z_range (a_cons e_int a_nil) (cnt_cons cnt_nil)) (g_name (i := 2) sc_law.nd rfl (by first | exact Or.inl rfl | exact Or.inr rfl)) (ss_cons (s_set (i := 9) sc_law.nd rfl (by first | exact Or.inl rfl | exact Or.inr rfl) (e_call (ok_law_draw T) (hr.mono (by decide)) hg (takes_of rfl rfl rfl rfl) (by rfl) T.m_law_draw T.F_law_draw.kp (bd_law_draw T) (a_cons (e_var 1) (a_cons e_int a_nil)) (cnt_cons (cnt_cons cnt_nil))))
    (ss_cons (s_set (i := 9) sc_law.nd rfl (by first | exact Or.inl rfl | exact Or.inr rfl) (e_if (t_ne hr (e_ixR hr (e_var 5) (e_var 9)) (e_lst a_nil)) (e_var 9) (b_sub e_int (e_var 9))))
    (ss_cons (s_par rfl sc_law.nd rfl rfl (by decide) rfl rfl (a_cons (e_mtL0 PySem.F.plainAttrs_list PySem.F.slot_list_pop PySem.F.type_list_pop mt_pop mo_pop (e_ixR hr (e_var 5) (e_var 9))) (a_cons (e_ixR hr (e_var 4) (e_var 9)) a_nil)))
    (ss_cons (s_set (i := 10) sc_law.nd rfl (by first | exact Or.inl rfl | exact Or.inr rfl) (e_call (ok_law_called T) (hr.mono (by decide)) hg (takes_of rfl rfl rfl rfl) (by rfl) T.m_law_called T.F_law_called.kp (bd_law_called T) (a_cons (e_var 11) (a_cons (e_var 12) (a_cons e_bl a_nil))) (cnt_cons (cnt_cons (cnt_cons cnt_nil)))))
    (ss_one (s_if ((w_or (t_ne hr (e_cb (call_reprQ (hu64 hr) hg) co_reprQ (by rfl) T.z_repr rfl (a_cons (e_call (ok_law_called T) (hr.mono (by decide)) hg (takes_of rfl rfl rfl rfl) (by rfl) T.m_law_called T.F_law_called.kp (bd_law_called T) (a_cons (e_var 11) (a_cons (e_var 12) (a_cons e_bl a_nil))) (cnt_cons (cnt_cons (cnt_cons cnt_nil)))) a_nil)) (e_cb (call_reprQ (hu64 hr) hg) co_reprQ (by rfl) T.z_repr rfl (a_cons (e_var 10) a_nil))) (w_or1 (t_not (t_tr (e_call (ok_law_is_due T) (hr.mono (by decide)) hg (takes_of rfl rfl rfl rfl) (by rfl) T.m_law_is_due T.F_law_is_due.kp (bd_law_is_due T) (a_cons (e_var 11) (a_cons (e_var 12) (a_cons (e_var 10) a_nil))) (cnt_cons (cnt_cons (cnt_cons cnt_nil))))))))).pt (ss_one (s_ret e_bl)) ss_nil)))))))
    (ss_one (s_ret (c_eq hr (e_cb (call_reprQ (hu64 hr) hg) co_reprQ (by rfl) T.z_repr rfl (a_cons (e_var 4) a_nil)) (e_var 3)))))))))
end
/-! ### E. what the top has written, the head -/
theorem all_mk {P : Program} {w : World} {K : PySem.W.Frag} {h : Heap} {mg : Str → Option Value} {fa : Addr} (X : K.In h) (G : h.Ns mainGlobals mg) (hfa : mg "law" = some (.ref fa))
    {f_is_integer : Addr} {od_is_integer an_is_integer : Option Addr} {sl_is_integer : Array (Option Value)} {oc_is_integer kV_is_integer dc_is_integer pm_is_integer cd_is_integer ct_is_integer : Value}
    {f_is_many : Addr} {od_is_many an_is_many : Option Addr} {sl_is_many : Array (Option Value)} {oc_is_many kV_is_many dc_is_many pm_is_many cd_is_many ct_is_many : Value}
    {f_is_tuple_of : Addr} {od_is_tuple_of an_is_tuple_of : Option Addr} {sl_is_tuple_of : Array (Option Value)} {oc_is_tuple_of kV_is_tuple_of dc_is_tuple_of pm_is_tuple_of cd_is_tuple_of ct_is_tuple_of : Value}
    {f_is_ascending : Addr} {od_is_ascending an_is_ascending : Option Addr} {sl_is_ascending : Array (Option Value)} {oc_is_ascending kV_is_ascending dc_is_ascending pm_is_ascending cd_is_ascending ct_is_ascending : Value}
    {f_is_notes : Addr} {od_is_notes an_is_notes : Option Addr} {sl_is_notes : Array (Option Value)} {oc_is_notes kV_is_notes dc_is_notes pm_is_notes cd_is_notes ct_is_notes : Value}
    {f_is_manner : Addr} {od_is_manner an_is_manner : Option Addr} {sl_is_manner : Array (Option Value)} {oc_is_manner kV_is_manner dc_is_manner pm_is_manner cd_is_manner ct_is_manner : Value}
    {f_tests_error : Addr} {od_tests_error an_tests_error : Option Addr} {sl_tests_error : Array (Option Value)} {oc_tests_error kV_tests_error dc_tests_error pm_tests_error cd_tests_error ct_tests_error : Value}
    {f_manners_error : Addr} {od_manners_error an_manners_error : Option Addr} {sl_manners_error : Array (Option Value)} {oc_manners_error kV_manners_error dc_manners_error pm_manners_error cd_manners_error ct_manners_error : Value}
    {f_book_error : Addr} {od_book_error an_book_error : Option Addr} {sl_book_error : Array (Option Value)} {oc_book_error kV_book_error dc_book_error pm_book_error cd_book_error ct_book_error : Value}
    {f_world_error : Addr} {od_world_error an_world_error : Option Addr} {sl_world_error : Array (Option Value)} {oc_world_error kV_world_error dc_world_error pm_world_error cd_world_error ct_world_error : Value}
    {f_alike_for : Addr} {od_alike_for an_alike_for : Option Addr} {sl_alike_for : Array (Option Value)} {oc_alike_for kV_alike_for dc_alike_for pm_alike_for cd_alike_for ct_alike_for : Value}
    {f_tests_line : Addr} {od_tests_line an_tests_line : Option Addr} {sl_tests_line : Array (Option Value)} {oc_tests_line kV_tests_line dc_tests_line pm_tests_line cd_tests_line ct_tests_line : Value}
    {f_manner_line : Addr} {od_manner_line an_manner_line : Option Addr} {sl_manner_line : Array (Option Value)} {oc_manner_line kV_manner_line dc_manner_line pm_manner_line cd_manner_line ct_manner_line : Value}
    {f_book_text : Addr} {od_book_text an_book_text : Option Addr} {sl_book_text : Array (Option Value)} {oc_book_text kV_book_text dc_book_text pm_book_text cd_book_text ct_book_text : Value}
    {f_world_text : Addr} {od_world_text an_world_text : Option Addr} {sl_world_text : Array (Option Value)} {oc_world_text kV_world_text dc_world_text pm_world_text cd_world_text ct_world_text : Value}
    {f_tests_of : Addr} {od_tests_of an_tests_of : Option Addr} {sl_tests_of : Array (Option Value)} {oc_tests_of kV_tests_of dc_tests_of pm_tests_of cd_tests_of ct_tests_of : Value}
    {f_manner_of : Addr} {od_manner_of an_manner_of : Option Addr} {sl_manner_of : Array (Option Value)} {oc_manner_of kV_manner_of dc_manner_of pm_manner_of cd_manner_of ct_manner_of : Value}
    {f_manners_of : Addr} {od_manners_of an_manners_of : Option Addr} {sl_manners_of : Array (Option Value)} {oc_manners_of kV_manners_of dc_manners_of pm_manners_of cd_manners_of ct_manners_of : Value}
    {f_read_book : Addr} {od_read_book an_read_book : Option Addr} {sl_read_book : Array (Option Value)} {oc_read_book kV_read_book dc_read_book pm_read_book cd_read_book ct_read_book : Value}
    {f_read_world : Addr} {od_read_world an_read_world : Option Addr} {sl_read_world : Array (Option Value)} {oc_read_world kV_read_world dc_read_world pm_read_world cd_read_world ct_read_world : Value}
    {f_row_of : Addr} {od_row_of an_row_of : Option Addr} {sl_row_of : Array (Option Value)} {oc_row_of kV_row_of dc_row_of pm_row_of cd_row_of ct_row_of : Value}
    {f_known_names : Addr} {od_known_names an_known_names : Option Addr} {sl_known_names : Array (Option Value)} {oc_known_names kV_known_names dc_known_names pm_known_names cd_known_names ct_known_names : Value}
    {f_known_book : Addr} {od_known_book an_known_book : Option Addr} {sl_known_book : Array (Option Value)} {oc_known_book kV_known_book dc_known_book pm_known_book cd_known_book ct_known_book : Value}
    {f_known_worlds : Addr} {od_known_worlds an_known_worlds : Option Addr} {sl_known_worlds : Array (Option Value)} {oc_known_worlds kV_known_worlds dc_known_worlds pm_known_worlds cd_known_worlds ct_known_worlds : Value}
    {f_law_deck : Addr} {od_law_deck an_law_deck : Option Addr} {sl_law_deck : Array (Option Value)} {oc_law_deck kV_law_deck dc_law_deck pm_law_deck cd_law_deck ct_law_deck : Value}
    {f_law_draw : Addr} {od_law_draw an_law_draw : Option Addr} {sl_law_draw : Array (Option Value)} {oc_law_draw kV_law_draw dc_law_draw pm_law_draw cd_law_draw ct_law_draw : Value}
    {f_law_pick : Addr} {od_law_pick an_law_pick : Option Addr} {sl_law_pick : Array (Option Value)} {oc_law_pick kV_law_pick dc_law_pick pm_law_pick cd_law_pick ct_law_pick : Value}
    {f_law_tests : Addr} {od_law_tests an_law_tests : Option Addr} {sl_law_tests : Array (Option Value)} {oc_law_tests kV_law_tests dc_law_tests pm_law_tests cd_law_tests ct_law_tests : Value}
    {f_law_words : Addr} {od_law_words an_law_words : Option Addr} {sl_law_words : Array (Option Value)} {oc_law_words kV_law_words dc_law_words pm_law_words cd_law_words ct_law_words : Value}
    {f_law_manner : Addr} {od_law_manner an_law_manner : Option Addr} {sl_law_manner : Array (Option Value)} {oc_law_manner kV_law_manner dc_law_manner pm_law_manner cd_law_manner ct_law_manner : Value}
    {f_law_book : Addr} {od_law_book an_law_book : Option Addr} {sl_law_book : Array (Option Value)} {oc_law_book kV_law_book dc_law_book pm_law_book cd_law_book ct_law_book : Value}
    {f_law_text : Addr} {od_law_text an_law_text : Option Addr} {sl_law_text : Array (Option Value)} {oc_law_text kV_law_text dc_law_text pm_law_text cd_law_text ct_law_text : Value}
    {f_law_refusable : Addr} {od_law_refusable an_law_refusable : Option Addr} {sl_law_refusable : Array (Option Value)} {oc_law_refusable kV_law_refusable dc_law_refusable pm_law_refusable cd_law_refusable ct_law_refusable : Value}
    {f_law_called : Addr} {od_law_called an_law_called : Option Addr} {sl_law_called : Array (Option Value)} {oc_law_called kV_law_called dc_law_called pm_law_called cd_law_called ct_law_called : Value}
    {f_law_is_due : Addr} {od_law_is_due an_law_is_due : Option Addr} {sl_law_is_due : Array (Option Value)} {oc_law_is_due kV_law_is_due dc_law_is_due pm_law_is_due cd_law_is_due ct_law_is_due : Value}
    {f_law : Addr} {od_law an_law : Option Addr} {sl_law : Array (Option Value)} {oc_law kV_law dc_law pm_law cd_law ct_law : Value}
    {t_ANY_TIME : Tok}
    {r_KNOWN_0_1 : Addr} {n_KNOWN_0_1 : Nat} {sl_KNOWN_0_1 : Array (Option Value)}
    {r_KNOWN_0_2 : Addr} {n_KNOWN_0_2 : Nat} {sl_KNOWN_0_2 : Array (Option Value)} {t_KNOWN_0_2_0 : Tok}
    {r_KNOWN_0_3_0 : Addr} {n_KNOWN_0_3_0 : Nat} {sl_KNOWN_0_3_0 : Array (Option Value)} {t_KNOWN_0_3_0_0 t_KNOWN_0_3_0_1 : Tok}
    {r_KNOWN_0_3 : Addr} {n_KNOWN_0_3 : Nat} {sl_KNOWN_0_3 : Array (Option Value)}
    {r_KNOWN_0 : Addr} {n_KNOWN_0 : Nat} {sl_KNOWN_0 : Array (Option Value)} {t_KNOWN_0_0 : Tok}
    {r_KNOWN_1_1 : Addr} {n_KNOWN_1_1 : Nat} {sl_KNOWN_1_1 : Array (Option Value)}
    {r_KNOWN_1_2 : Addr} {n_KNOWN_1_2 : Nat} {sl_KNOWN_1_2 : Array (Option Value)} {t_KNOWN_1_2_0 t_KNOWN_1_2_1 : Tok}
    {r_KNOWN_1_3_0 : Addr} {n_KNOWN_1_3_0 : Nat} {sl_KNOWN_1_3_0 : Array (Option Value)} {t_KNOWN_1_3_0_0 t_KNOWN_1_3_0_1 : Tok}
    {r_KNOWN_1_3_1 : Addr} {n_KNOWN_1_3_1 : Nat} {sl_KNOWN_1_3_1 : Array (Option Value)} {t_KNOWN_1_3_1_0 t_KNOWN_1_3_1_1 : Tok}
    {r_KNOWN_1_3 : Addr} {n_KNOWN_1_3 : Nat} {sl_KNOWN_1_3 : Array (Option Value)}
    {r_KNOWN_1 : Addr} {n_KNOWN_1 : Nat} {sl_KNOWN_1 : Array (Option Value)} {t_KNOWN_1_0 : Tok}
    {r_KNOWN_2_1_0 : Addr} {n_KNOWN_2_1_0 : Nat} {sl_KNOWN_2_1_0 : Array (Option Value)} {t_KNOWN_2_1_0_0 t_KNOWN_2_1_0_1 : Tok}
    {r_KNOWN_2_1 : Addr} {n_KNOWN_2_1 : Nat} {sl_KNOWN_2_1 : Array (Option Value)}
    {r_KNOWN_2_2 : Addr} {n_KNOWN_2_2 : Nat} {sl_KNOWN_2_2 : Array (Option Value)} {t_KNOWN_2_2_0 : Tok}
    {r_KNOWN_2_3_0 : Addr} {n_KNOWN_2_3_0 : Nat} {sl_KNOWN_2_3_0 : Array (Option Value)} {t_KNOWN_2_3_0_0 t_KNOWN_2_3_0_1 : Tok}
    {r_KNOWN_2_3_1 : Addr} {n_KNOWN_2_3_1 : Nat} {sl_KNOWN_2_3_1 : Array (Option Value)} {t_KNOWN_2_3_1_0 t_KNOWN_2_3_1_1 : Tok}
    {r_KNOWN_2_3 : Addr} {n_KNOWN_2_3 : Nat} {sl_KNOWN_2_3 : Array (Option Value)}
    {r_KNOWN_2 : Addr} {n_KNOWN_2 : Nat} {sl_KNOWN_2 : Array (Option Value)} {t_KNOWN_2_0 : Tok}
    {r_KNOWN_3_1_0 : Addr} {n_KNOWN_3_1_0 : Nat} {sl_KNOWN_3_1_0 : Array (Option Value)} {t_KNOWN_3_1_0_0 t_KNOWN_3_1_0_1 : Tok}
    {r_KNOWN_3_1 : Addr} {n_KNOWN_3_1 : Nat} {sl_KNOWN_3_1 : Array (Option Value)}
    {r_KNOWN_3_2 : Addr} {n_KNOWN_3_2 : Nat} {sl_KNOWN_3_2 : Array (Option Value)}
    {r_KNOWN_3_3_0 : Addr} {n_KNOWN_3_3_0 : Nat} {sl_KNOWN_3_3_0 : Array (Option Value)} {t_KNOWN_3_3_0_0 t_KNOWN_3_3_0_1 : Tok}
    {r_KNOWN_3_3_1 : Addr} {n_KNOWN_3_3_1 : Nat} {sl_KNOWN_3_3_1 : Array (Option Value)} {t_KNOWN_3_3_1_0 t_KNOWN_3_3_1_1 : Tok}
    {r_KNOWN_3_3_2 : Addr} {n_KNOWN_3_3_2 : Nat} {sl_KNOWN_3_3_2 : Array (Option Value)} {t_KNOWN_3_3_2_0 t_KNOWN_3_3_2_1 : Tok}
    {r_KNOWN_3_3_3 : Addr} {n_KNOWN_3_3_3 : Nat} {sl_KNOWN_3_3_3 : Array (Option Value)} {t_KNOWN_3_3_3_0 t_KNOWN_3_3_3_1 : Tok}
    {r_KNOWN_3_3 : Addr} {n_KNOWN_3_3 : Nat} {sl_KNOWN_3_3 : Array (Option Value)}
    {r_KNOWN_3 : Addr} {n_KNOWN_3 : Nat} {sl_KNOWN_3 : Array (Option Value)} {t_KNOWN_3_0 : Tok}
    {r_KNOWN_4_1_0 : Addr} {n_KNOWN_4_1_0 : Nat} {sl_KNOWN_4_1_0 : Array (Option Value)} {t_KNOWN_4_1_0_0 t_KNOWN_4_1_0_1 : Tok}
    {r_KNOWN_4_1 : Addr} {n_KNOWN_4_1 : Nat} {sl_KNOWN_4_1 : Array (Option Value)}
    {r_KNOWN_4_2 : Addr} {n_KNOWN_4_2 : Nat} {sl_KNOWN_4_2 : Array (Option Value)} {t_KNOWN_4_2_0 : Tok}
    {r_KNOWN_4_3_0 : Addr} {n_KNOWN_4_3_0 : Nat} {sl_KNOWN_4_3_0 : Array (Option Value)} {t_KNOWN_4_3_0_0 t_KNOWN_4_3_0_1 : Tok}
    {r_KNOWN_4_3_1 : Addr} {n_KNOWN_4_3_1 : Nat} {sl_KNOWN_4_3_1 : Array (Option Value)} {t_KNOWN_4_3_1_0 t_KNOWN_4_3_1_1 : Tok}
    {r_KNOWN_4_3 : Addr} {n_KNOWN_4_3 : Nat} {sl_KNOWN_4_3 : Array (Option Value)}
    {r_KNOWN_4 : Addr} {n_KNOWN_4 : Nat} {sl_KNOWN_4 : Array (Option Value)} {t_KNOWN_4_0 : Tok}
    {r_KNOWN_5_1_0 : Addr} {n_KNOWN_5_1_0 : Nat} {sl_KNOWN_5_1_0 : Array (Option Value)} {t_KNOWN_5_1_0_0 t_KNOWN_5_1_0_1 : Tok}
    {r_KNOWN_5_1 : Addr} {n_KNOWN_5_1 : Nat} {sl_KNOWN_5_1 : Array (Option Value)}
    {r_KNOWN_5_2 : Addr} {n_KNOWN_5_2 : Nat} {sl_KNOWN_5_2 : Array (Option Value)}
    {r_KNOWN_5_3_0 : Addr} {n_KNOWN_5_3_0 : Nat} {sl_KNOWN_5_3_0 : Array (Option Value)} {t_KNOWN_5_3_0_0 t_KNOWN_5_3_0_1 : Tok}
    {r_KNOWN_5_3_1 : Addr} {n_KNOWN_5_3_1 : Nat} {sl_KNOWN_5_3_1 : Array (Option Value)} {t_KNOWN_5_3_1_0 t_KNOWN_5_3_1_1 : Tok}
    {r_KNOWN_5_3 : Addr} {n_KNOWN_5_3 : Nat} {sl_KNOWN_5_3 : Array (Option Value)}
    {r_KNOWN_5 : Addr} {n_KNOWN_5 : Nat} {sl_KNOWN_5 : Array (Option Value)} {t_KNOWN_5_0 : Tok}
    {r_KNOWN_6_1_0 : Addr} {n_KNOWN_6_1_0 : Nat} {sl_KNOWN_6_1_0 : Array (Option Value)} {t_KNOWN_6_1_0_0 t_KNOWN_6_1_0_1 : Tok}
    {r_KNOWN_6_1 : Addr} {n_KNOWN_6_1 : Nat} {sl_KNOWN_6_1 : Array (Option Value)}
    {r_KNOWN_6_2 : Addr} {n_KNOWN_6_2 : Nat} {sl_KNOWN_6_2 : Array (Option Value)} {t_KNOWN_6_2_0 t_KNOWN_6_2_1 : Tok}
    {r_KNOWN_6_3_0 : Addr} {n_KNOWN_6_3_0 : Nat} {sl_KNOWN_6_3_0 : Array (Option Value)} {t_KNOWN_6_3_0_0 t_KNOWN_6_3_0_1 : Tok}
    {r_KNOWN_6_3_1 : Addr} {n_KNOWN_6_3_1 : Nat} {sl_KNOWN_6_3_1 : Array (Option Value)} {t_KNOWN_6_3_1_0 t_KNOWN_6_3_1_1 : Tok}
    {r_KNOWN_6_3_2 : Addr} {n_KNOWN_6_3_2 : Nat} {sl_KNOWN_6_3_2 : Array (Option Value)} {t_KNOWN_6_3_2_0 t_KNOWN_6_3_2_1 : Tok}
    {r_KNOWN_6_3_3 : Addr} {n_KNOWN_6_3_3 : Nat} {sl_KNOWN_6_3_3 : Array (Option Value)} {t_KNOWN_6_3_3_0 t_KNOWN_6_3_3_1 : Tok}
    {r_KNOWN_6_3 : Addr} {n_KNOWN_6_3 : Nat} {sl_KNOWN_6_3 : Array (Option Value)}
    {r_KNOWN_6 : Addr} {n_KNOWN_6 : Nat} {sl_KNOWN_6 : Array (Option Value)} {t_KNOWN_6_0 : Tok}
    {r_KNOWN : Addr} {n_KNOWN : Nat} {sl_KNOWN : Array (Option Value)}
    {t_MAX_MACHINES : Tok}
    {r_NOTES : Addr} {n_NOTES : Nat} {sl_NOTES : Array (Option Value)} {t_NOTES_0 t_NOTES_1 t_NOTES_2 t_NOTES_3 : Tok}
    {t_NO_TESTS : Tok}
    {r_ROADS : Addr} {n_ROADS : Nat} {sl_ROADS : Array (Option Value)} {t_ROADS_0 t_ROADS_1 : Tok}
    {r_TESTS_0 : Addr} {n_TESTS_0 : Nat} {sl_TESTS_0 : Array (Option Value)} {t_TESTS_0_0 t_TESTS_0_1 : Tok}
    {r_TESTS_1 : Addr} {n_TESTS_1 : Nat} {sl_TESTS_1 : Array (Option Value)} {t_TESTS_1_0 t_TESTS_1_1 : Tok}
    {r_TESTS_2 : Addr} {n_TESTS_2 : Nat} {sl_TESTS_2 : Array (Option Value)} {t_TESTS_2_0 t_TESTS_2_1 : Tok}
    {r_TESTS_3 : Addr} {n_TESTS_3 : Nat} {sl_TESTS_3 : Array (Option Value)} {t_TESTS_3_0 t_TESTS_3_1 : Tok}
    {r_TESTS_4 : Addr} {n_TESTS_4 : Nat} {sl_TESTS_4 : Array (Option Value)} {t_TESTS_4_0 t_TESTS_4_1 : Tok}
    {r_TESTS_5 : Addr} {n_TESTS_5 : Nat} {sl_TESTS_5 : Array (Option Value)} {t_TESTS_5_0 t_TESTS_5_1 : Tok}
    {r_TESTS : Addr} {n_TESTS : Nat} {sl_TESTS : Array (Option Value)}
    {t_TESTS_HEAD : Tok}
    {r_TOURS : Addr} {n_TOURS : Nat} {sl_TOURS : Array (Option Value)} {t_TOURS_0 t_TOURS_1 : Tok}
    {t_WAITS : Tok}
    {C_BadBook : Addr}
    {C_BadText : Addr}
    {C_Unfit : Addr}
    {fI_BadBook : Addr} {odI_BadBook anI_BadBook : Option Addr} {slI_BadBook : Array (Option Value)} {ocI_BadBook kVI_BadBook dcI_BadBook pmI_BadBook cdI_BadBook ctI_BadBook : Value} {nm_BadBook q_BadBook : Str} {N_BadBook B_BadBook_StillError : Addr} {bs_BadBook sub_c_BadBook : List Value} {sn_BadBook : List Str} {ab_BadBook : Bool} {col_BadBook : Option Bool} {dd_BadBook : Option Addr} {k0_BadBook k1_BadBook k2_BadBook k3_BadBook k5_BadBook : Option Value}
    {fI_BadText : Addr} {odI_BadText anI_BadText : Option Addr} {slI_BadText : Array (Option Value)} {ocI_BadText kVI_BadText dcI_BadText pmI_BadText cdI_BadText ctI_BadText : Value} {nm_BadText q_BadText : Str} {N_BadText B_BadText_StillError : Addr} {bs_BadText sub_c_BadText : List Value} {sn_BadText : List Str} {ab_BadText : Bool} {col_BadText : Option Bool} {dd_BadText : Option Addr} {k0_BadText k1_BadText k2_BadText k3_BadText k5_BadText : Option Value}
    (a_is_integer : PySem.W.nsIn K mainGlobals "is_integer" = some (some (.ref f_is_integer)))
    (l_is_integer : K.lookup f_is_integer = some ⟨oc_is_integer, od_is_integer, .func (PySem.W.fnOf "is_integer" "is_integer" (defArgs s_is_integer) (defBody s_is_integer) (defScope s_is_integer) .none kV_is_integer dc_is_integer pm_is_integer an_is_integer cd_is_integer ct_is_integer), sl_is_integer⟩)
    (c_is_integer : PySem.W.codeIn K cd_is_integer "is_integer" = true)
    (k_is_integer : PySem.W.keepIn K (.ref f_is_integer) = true)
    (a_is_many : PySem.W.nsIn K mainGlobals "is_many" = some (some (.ref f_is_many)))
    (l_is_many : K.lookup f_is_many = some ⟨oc_is_many, od_is_many, .func (PySem.W.fnOf "is_many" "is_many" (defArgs s_is_many) (defBody s_is_many) (defScope s_is_many) .none kV_is_many dc_is_many pm_is_many an_is_many cd_is_many ct_is_many), sl_is_many⟩)
    (c_is_many : PySem.W.codeIn K cd_is_many "is_many" = true)
    (k_is_many : PySem.W.keepIn K (.ref f_is_many) = true)
    (a_is_tuple_of : PySem.W.nsIn K mainGlobals "is_tuple_of" = some (some (.ref f_is_tuple_of)))
    (l_is_tuple_of : K.lookup f_is_tuple_of = some ⟨oc_is_tuple_of, od_is_tuple_of, .func (PySem.W.fnOf "is_tuple_of" "is_tuple_of" (defArgs s_is_tuple_of) (defBody s_is_tuple_of) (defScope s_is_tuple_of) .none kV_is_tuple_of dc_is_tuple_of pm_is_tuple_of an_is_tuple_of cd_is_tuple_of ct_is_tuple_of), sl_is_tuple_of⟩)
    (c_is_tuple_of : PySem.W.codeIn K cd_is_tuple_of "is_tuple_of" = true)
    (k_is_tuple_of : PySem.W.keepIn K (.ref f_is_tuple_of) = true)
    (a_is_ascending : PySem.W.nsIn K mainGlobals "is_ascending" = some (some (.ref f_is_ascending)))
    (l_is_ascending : K.lookup f_is_ascending = some ⟨oc_is_ascending, od_is_ascending, .func (PySem.W.fnOf "is_ascending" "is_ascending" (defArgs s_is_ascending) (defBody s_is_ascending) (defScope s_is_ascending) .none kV_is_ascending dc_is_ascending pm_is_ascending an_is_ascending cd_is_ascending ct_is_ascending), sl_is_ascending⟩)
    (c_is_ascending : PySem.W.codeIn K cd_is_ascending "is_ascending" = true)
    (k_is_ascending : PySem.W.keepIn K (.ref f_is_ascending) = true)
    (a_is_notes : PySem.W.nsIn K mainGlobals "is_notes" = some (some (.ref f_is_notes)))
    (l_is_notes : K.lookup f_is_notes = some ⟨oc_is_notes, od_is_notes, .func (PySem.W.fnOf "is_notes" "is_notes" (defArgs s_is_notes) (defBody s_is_notes) (defScope s_is_notes) .none kV_is_notes dc_is_notes pm_is_notes an_is_notes cd_is_notes ct_is_notes), sl_is_notes⟩)
    (c_is_notes : PySem.W.codeIn K cd_is_notes "is_notes" = true)
    (k_is_notes : PySem.W.keepIn K (.ref f_is_notes) = true)
    (a_is_manner : PySem.W.nsIn K mainGlobals "is_manner" = some (some (.ref f_is_manner)))
    (l_is_manner : K.lookup f_is_manner = some ⟨oc_is_manner, od_is_manner, .func (PySem.W.fnOf "is_manner" "is_manner" (defArgs s_is_manner) (defBody s_is_manner) (defScope s_is_manner) .none kV_is_manner dc_is_manner pm_is_manner an_is_manner cd_is_manner ct_is_manner), sl_is_manner⟩)
    (c_is_manner : PySem.W.codeIn K cd_is_manner "is_manner" = true)
    (k_is_manner : PySem.W.keepIn K (.ref f_is_manner) = true)
    (a_tests_error : PySem.W.nsIn K mainGlobals "tests_error" = some (some (.ref f_tests_error)))
    (l_tests_error : K.lookup f_tests_error = some ⟨oc_tests_error, od_tests_error, .func (PySem.W.fnOf "tests_error" "tests_error" (defArgs s_tests_error) (defBody s_tests_error) (defScope s_tests_error) .none kV_tests_error dc_tests_error pm_tests_error an_tests_error cd_tests_error ct_tests_error), sl_tests_error⟩)
    (c_tests_error : PySem.W.codeIn K cd_tests_error "tests_error" = true)
    (k_tests_error : PySem.W.keepIn K (.ref f_tests_error) = true)
    (a_manners_error : PySem.W.nsIn K mainGlobals "manners_error" = some (some (.ref f_manners_error)))
    (l_manners_error : K.lookup f_manners_error = some ⟨oc_manners_error, od_manners_error, .func (PySem.W.fnOf "manners_error" "manners_error" (defArgs s_manners_error) (defBody s_manners_error) (defScope s_manners_error) .none kV_manners_error dc_manners_error pm_manners_error an_manners_error cd_manners_error ct_manners_error), sl_manners_error⟩)
    (c_manners_error : PySem.W.codeIn K cd_manners_error "manners_error" = true)
    (k_manners_error : PySem.W.keepIn K (.ref f_manners_error) = true)
    (a_book_error : PySem.W.nsIn K mainGlobals "book_error" = some (some (.ref f_book_error)))
    (l_book_error : K.lookup f_book_error = some ⟨oc_book_error, od_book_error, .func (PySem.W.fnOf "book_error" "book_error" (defArgs s_book_error) (defBody s_book_error) (defScope s_book_error) .none kV_book_error dc_book_error pm_book_error an_book_error cd_book_error ct_book_error), sl_book_error⟩)
    (c_book_error : PySem.W.codeIn K cd_book_error "book_error" = true)
    (k_book_error : PySem.W.keepIn K (.ref f_book_error) = true)
    (a_world_error : PySem.W.nsIn K mainGlobals "world_error" = some (some (.ref f_world_error)))
    (l_world_error : K.lookup f_world_error = some ⟨oc_world_error, od_world_error, .func (PySem.W.fnOf "world_error" "world_error" (defArgs s_world_error) (defBody s_world_error) (defScope s_world_error) .none kV_world_error dc_world_error pm_world_error an_world_error cd_world_error ct_world_error), sl_world_error⟩)
    (c_world_error : PySem.W.codeIn K cd_world_error "world_error" = true)
    (k_world_error : PySem.W.keepIn K (.ref f_world_error) = true)
    (a_alike_for : PySem.W.nsIn K mainGlobals "alike_for" = some (some (.ref f_alike_for)))
    (l_alike_for : K.lookup f_alike_for = some ⟨oc_alike_for, od_alike_for, .func (PySem.W.fnOf "alike_for" "alike_for" (defArgs s_alike_for) (defBody s_alike_for) (defScope s_alike_for) .none kV_alike_for dc_alike_for pm_alike_for an_alike_for cd_alike_for ct_alike_for), sl_alike_for⟩)
    (c_alike_for : PySem.W.codeIn K cd_alike_for "alike_for" = true)
    (k_alike_for : PySem.W.keepIn K (.ref f_alike_for) = true)
    (a_tests_line : PySem.W.nsIn K mainGlobals "tests_line" = some (some (.ref f_tests_line)))
    (l_tests_line : K.lookup f_tests_line = some ⟨oc_tests_line, od_tests_line, .func (PySem.W.fnOf "tests_line" "tests_line" (defArgs s_tests_line) (defBody s_tests_line) (defScope s_tests_line) .none kV_tests_line dc_tests_line pm_tests_line an_tests_line cd_tests_line ct_tests_line), sl_tests_line⟩)
    (c_tests_line : PySem.W.codeIn K cd_tests_line "tests_line" = true)
    (k_tests_line : PySem.W.keepIn K (.ref f_tests_line) = true)
    (a_manner_line : PySem.W.nsIn K mainGlobals "manner_line" = some (some (.ref f_manner_line)))
    (l_manner_line : K.lookup f_manner_line = some ⟨oc_manner_line, od_manner_line, .func (PySem.W.fnOf "manner_line" "manner_line" (defArgs s_manner_line) (defBody s_manner_line) (defScope s_manner_line) .none kV_manner_line dc_manner_line pm_manner_line an_manner_line cd_manner_line ct_manner_line), sl_manner_line⟩)
    (c_manner_line : PySem.W.codeIn K cd_manner_line "manner_line" = true)
    (k_manner_line : PySem.W.keepIn K (.ref f_manner_line) = true)
    (a_book_text : PySem.W.nsIn K mainGlobals "book_text" = some (some (.ref f_book_text)))
    (l_book_text : K.lookup f_book_text = some ⟨oc_book_text, od_book_text, .func (PySem.W.fnOf "book_text" "book_text" (defArgs s_book_text) (defBody s_book_text) (defScope s_book_text) .none kV_book_text dc_book_text pm_book_text an_book_text cd_book_text ct_book_text), sl_book_text⟩)
    (c_book_text : PySem.W.codeIn K cd_book_text "book_text" = true)
    (k_book_text : PySem.W.keepIn K (.ref f_book_text) = true)
    (a_world_text : PySem.W.nsIn K mainGlobals "world_text" = some (some (.ref f_world_text)))
    (l_world_text : K.lookup f_world_text = some ⟨oc_world_text, od_world_text, .func (PySem.W.fnOf "world_text" "world_text" (defArgs s_world_text) (defBody s_world_text) (defScope s_world_text) .none kV_world_text dc_world_text pm_world_text an_world_text cd_world_text ct_world_text), sl_world_text⟩)
    (c_world_text : PySem.W.codeIn K cd_world_text "world_text" = true)
    (k_world_text : PySem.W.keepIn K (.ref f_world_text) = true)
    (a_tests_of : PySem.W.nsIn K mainGlobals "tests_of" = some (some (.ref f_tests_of)))
    (l_tests_of : K.lookup f_tests_of = some ⟨oc_tests_of, od_tests_of, .func (PySem.W.fnOf "tests_of" "tests_of" (defArgs s_tests_of) (defBody s_tests_of) (defScope s_tests_of) .none kV_tests_of dc_tests_of pm_tests_of an_tests_of cd_tests_of ct_tests_of), sl_tests_of⟩)
    (c_tests_of : PySem.W.codeIn K cd_tests_of "tests_of" = true)
    (k_tests_of : PySem.W.keepIn K (.ref f_tests_of) = true)
    (a_manner_of : PySem.W.nsIn K mainGlobals "manner_of" = some (some (.ref f_manner_of)))
    (l_manner_of : K.lookup f_manner_of = some ⟨oc_manner_of, od_manner_of, .func (PySem.W.fnOf "manner_of" "manner_of" (defArgs s_manner_of) (defBody s_manner_of) (defScope s_manner_of) .none kV_manner_of dc_manner_of pm_manner_of an_manner_of cd_manner_of ct_manner_of), sl_manner_of⟩)
    (c_manner_of : PySem.W.codeIn K cd_manner_of "manner_of" = true)
    (k_manner_of : PySem.W.keepIn K (.ref f_manner_of) = true)
    (a_manners_of : PySem.W.nsIn K mainGlobals "manners_of" = some (some (.ref f_manners_of)))
    (l_manners_of : K.lookup f_manners_of = some ⟨oc_manners_of, od_manners_of, .func (PySem.W.fnOf "manners_of" "manners_of" (defArgs s_manners_of) (defBody s_manners_of) (defScope s_manners_of) .none kV_manners_of dc_manners_of pm_manners_of an_manners_of cd_manners_of ct_manners_of), sl_manners_of⟩)
    (c_manners_of : PySem.W.codeIn K cd_manners_of "manners_of" = true)
    (k_manners_of : PySem.W.keepIn K (.ref f_manners_of) = true)
    (a_read_book : PySem.W.nsIn K mainGlobals "read_book" = some (some (.ref f_read_book)))
    (l_read_book : K.lookup f_read_book = some ⟨oc_read_book, od_read_book, .func (PySem.W.fnOf "read_book" "read_book" (defArgs s_read_book) (defBody s_read_book) (defScope s_read_book) .none kV_read_book dc_read_book pm_read_book an_read_book cd_read_book ct_read_book), sl_read_book⟩)
    (c_read_book : PySem.W.codeIn K cd_read_book "read_book" = true)
    (k_read_book : PySem.W.keepIn K (.ref f_read_book) = true)
    (a_read_world : PySem.W.nsIn K mainGlobals "read_world" = some (some (.ref f_read_world)))
    (l_read_world : K.lookup f_read_world = some ⟨oc_read_world, od_read_world, .func (PySem.W.fnOf "read_world" "read_world" (defArgs s_read_world) (defBody s_read_world) (defScope s_read_world) .none kV_read_world dc_read_world pm_read_world an_read_world cd_read_world ct_read_world), sl_read_world⟩)
    (c_read_world : PySem.W.codeIn K cd_read_world "read_world" = true)
    (k_read_world : PySem.W.keepIn K (.ref f_read_world) = true)
    (a_row_of : PySem.W.nsIn K mainGlobals "row_of" = some (some (.ref f_row_of)))
    (l_row_of : K.lookup f_row_of = some ⟨oc_row_of, od_row_of, .func (PySem.W.fnOf "row_of" "row_of" (defArgs s_row_of) (defBody s_row_of) (defScope s_row_of) .none kV_row_of dc_row_of pm_row_of an_row_of cd_row_of ct_row_of), sl_row_of⟩)
    (c_row_of : PySem.W.codeIn K cd_row_of "row_of" = true)
    (k_row_of : PySem.W.keepIn K (.ref f_row_of) = true)
    (a_known_names : PySem.W.nsIn K mainGlobals "known_names" = some (some (.ref f_known_names)))
    (l_known_names : K.lookup f_known_names = some ⟨oc_known_names, od_known_names, .func (PySem.W.fnOf "known_names" "known_names" (defArgs s_known_names) (defBody s_known_names) (defScope s_known_names) .none kV_known_names dc_known_names pm_known_names an_known_names cd_known_names ct_known_names), sl_known_names⟩)
    (c_known_names : PySem.W.codeIn K cd_known_names "known_names" = true)
    (k_known_names : PySem.W.keepIn K (.ref f_known_names) = true)
    (a_known_book : PySem.W.nsIn K mainGlobals "known_book" = some (some (.ref f_known_book)))
    (l_known_book : K.lookup f_known_book = some ⟨oc_known_book, od_known_book, .func (PySem.W.fnOf "known_book" "known_book" (defArgs s_known_book) (defBody s_known_book) (defScope s_known_book) .none kV_known_book dc_known_book pm_known_book an_known_book cd_known_book ct_known_book), sl_known_book⟩)
    (c_known_book : PySem.W.codeIn K cd_known_book "known_book" = true)
    (k_known_book : PySem.W.keepIn K (.ref f_known_book) = true)
    (a_known_worlds : PySem.W.nsIn K mainGlobals "known_worlds" = some (some (.ref f_known_worlds)))
    (l_known_worlds : K.lookup f_known_worlds = some ⟨oc_known_worlds, od_known_worlds, .func (PySem.W.fnOf "known_worlds" "known_worlds" (defArgs s_known_worlds) (defBody s_known_worlds) (defScope s_known_worlds) .none kV_known_worlds dc_known_worlds pm_known_worlds an_known_worlds cd_known_worlds ct_known_worlds), sl_known_worlds⟩)
    (c_known_worlds : PySem.W.codeIn K cd_known_worlds "known_worlds" = true)
    (k_known_worlds : PySem.W.keepIn K (.ref f_known_worlds) = true)
    (a_law_deck : PySem.W.nsIn K mainGlobals "_law_deck" = some (some (.ref f_law_deck)))
    (l_law_deck : K.lookup f_law_deck = some ⟨oc_law_deck, od_law_deck, .func (PySem.W.fnOf "_law_deck" "_law_deck" (defArgs s_law_deck) (defBody s_law_deck) (defScope s_law_deck) .none kV_law_deck dc_law_deck pm_law_deck an_law_deck cd_law_deck ct_law_deck), sl_law_deck⟩)
    (c_law_deck : PySem.W.codeIn K cd_law_deck "_law_deck" = true)
    (k_law_deck : PySem.W.keepIn K (.ref f_law_deck) = true)
    (a_law_draw : PySem.W.nsIn K mainGlobals "_law_draw" = some (some (.ref f_law_draw)))
    (l_law_draw : K.lookup f_law_draw = some ⟨oc_law_draw, od_law_draw, .func (PySem.W.fnOf "_law_draw" "_law_draw" (defArgs s_law_draw) (defBody s_law_draw) (defScope s_law_draw) .none kV_law_draw dc_law_draw pm_law_draw an_law_draw cd_law_draw ct_law_draw), sl_law_draw⟩)
    (c_law_draw : PySem.W.codeIn K cd_law_draw "_law_draw" = true)
    (k_law_draw : PySem.W.keepIn K (.ref f_law_draw) = true)
    (a_law_pick : PySem.W.nsIn K mainGlobals "_law_pick" = some (some (.ref f_law_pick)))
    (l_law_pick : K.lookup f_law_pick = some ⟨oc_law_pick, od_law_pick, .func (PySem.W.fnOf "_law_pick" "_law_pick" (defArgs s_law_pick) (defBody s_law_pick) (defScope s_law_pick) .none kV_law_pick dc_law_pick pm_law_pick an_law_pick cd_law_pick ct_law_pick), sl_law_pick⟩)
    (c_law_pick : PySem.W.codeIn K cd_law_pick "_law_pick" = true)
    (k_law_pick : PySem.W.keepIn K (.ref f_law_pick) = true)
    (a_law_tests : PySem.W.nsIn K mainGlobals "_law_tests" = some (some (.ref f_law_tests)))
    (l_law_tests : K.lookup f_law_tests = some ⟨oc_law_tests, od_law_tests, .func (PySem.W.fnOf "_law_tests" "_law_tests" (defArgs s_law_tests) (defBody s_law_tests) (defScope s_law_tests) .none kV_law_tests dc_law_tests pm_law_tests an_law_tests cd_law_tests ct_law_tests), sl_law_tests⟩)
    (c_law_tests : PySem.W.codeIn K cd_law_tests "_law_tests" = true)
    (k_law_tests : PySem.W.keepIn K (.ref f_law_tests) = true)
    (a_law_words : PySem.W.nsIn K mainGlobals "_law_words" = some (some (.ref f_law_words)))
    (l_law_words : K.lookup f_law_words = some ⟨oc_law_words, od_law_words, .func (PySem.W.fnOf "_law_words" "_law_words" (defArgs s_law_words) (defBody s_law_words) (defScope s_law_words) .none kV_law_words dc_law_words pm_law_words an_law_words cd_law_words ct_law_words), sl_law_words⟩)
    (c_law_words : PySem.W.codeIn K cd_law_words "_law_words" = true)
    (k_law_words : PySem.W.keepIn K (.ref f_law_words) = true)
    (a_law_manner : PySem.W.nsIn K mainGlobals "_law_manner" = some (some (.ref f_law_manner)))
    (l_law_manner : K.lookup f_law_manner = some ⟨oc_law_manner, od_law_manner, .func (PySem.W.fnOf "_law_manner" "_law_manner" (defArgs s_law_manner) (defBody s_law_manner) (defScope s_law_manner) .none kV_law_manner dc_law_manner pm_law_manner an_law_manner cd_law_manner ct_law_manner), sl_law_manner⟩)
    (c_law_manner : PySem.W.codeIn K cd_law_manner "_law_manner" = true)
    (k_law_manner : PySem.W.keepIn K (.ref f_law_manner) = true)
    (a_law_book : PySem.W.nsIn K mainGlobals "_law_book" = some (some (.ref f_law_book)))
    (l_law_book : K.lookup f_law_book = some ⟨oc_law_book, od_law_book, .func (PySem.W.fnOf "_law_book" "_law_book" (defArgs s_law_book) (defBody s_law_book) (defScope s_law_book) .none kV_law_book dc_law_book pm_law_book an_law_book cd_law_book ct_law_book), sl_law_book⟩)
    (c_law_book : PySem.W.codeIn K cd_law_book "_law_book" = true)
    (k_law_book : PySem.W.keepIn K (.ref f_law_book) = true)
    (a_law_text : PySem.W.nsIn K mainGlobals "_law_text" = some (some (.ref f_law_text)))
    (l_law_text : K.lookup f_law_text = some ⟨oc_law_text, od_law_text, .func (PySem.W.fnOf "_law_text" "_law_text" (defArgs s_law_text) (defBody s_law_text) (defScope s_law_text) .none kV_law_text dc_law_text pm_law_text an_law_text cd_law_text ct_law_text), sl_law_text⟩)
    (c_law_text : PySem.W.codeIn K cd_law_text "_law_text" = true)
    (k_law_text : PySem.W.keepIn K (.ref f_law_text) = true)
    (a_law_refusable : PySem.W.nsIn K mainGlobals "_law_refusable" = some (some (.ref f_law_refusable)))
    (l_law_refusable : K.lookup f_law_refusable = some ⟨oc_law_refusable, od_law_refusable, .func (PySem.W.fnOf "_law_refusable" "_law_refusable" (defArgs s_law_refusable) (defBody s_law_refusable) (defScope s_law_refusable) .none kV_law_refusable dc_law_refusable pm_law_refusable an_law_refusable cd_law_refusable ct_law_refusable), sl_law_refusable⟩)
    (c_law_refusable : PySem.W.codeIn K cd_law_refusable "_law_refusable" = true)
    (k_law_refusable : PySem.W.keepIn K (.ref f_law_refusable) = true)
    (a_law_called : PySem.W.nsIn K mainGlobals "_law_called" = some (some (.ref f_law_called)))
    (l_law_called : K.lookup f_law_called = some ⟨oc_law_called, od_law_called, .func (PySem.W.fnOf "_law_called" "_law_called" (defArgs s_law_called) (defBody s_law_called) (defScope s_law_called) .none kV_law_called dc_law_called pm_law_called an_law_called cd_law_called ct_law_called), sl_law_called⟩)
    (c_law_called : PySem.W.codeIn K cd_law_called "_law_called" = true)
    (k_law_called : PySem.W.keepIn K (.ref f_law_called) = true)
    (a_law_is_due : PySem.W.nsIn K mainGlobals "_law_is_due" = some (some (.ref f_law_is_due)))
    (l_law_is_due : K.lookup f_law_is_due = some ⟨oc_law_is_due, od_law_is_due, .func (PySem.W.fnOf "_law_is_due" "_law_is_due" (defArgs s_law_is_due) (defBody s_law_is_due) (defScope s_law_is_due) .none kV_law_is_due dc_law_is_due pm_law_is_due an_law_is_due cd_law_is_due ct_law_is_due), sl_law_is_due⟩)
    (c_law_is_due : PySem.W.codeIn K cd_law_is_due "_law_is_due" = true)
    (k_law_is_due : PySem.W.keepIn K (.ref f_law_is_due) = true)
    (a_law : PySem.W.nsIn K mainGlobals "law" = some (some (.ref f_law)))
    (l_law : K.lookup f_law = some ⟨oc_law, od_law, .func (PySem.W.fnOf "law" "law" (defArgs s_law) (defBody s_law) (defScope s_law) .none kV_law dc_law pm_law an_law cd_law ct_law), sl_law⟩)
    (c_law : PySem.W.codeIn K cd_law "law" = true)
    (k_law : PySem.W.keepIn K (.ref f_law) = true)
    (z_abs : PySem.W.nsIn K mainGlobals "abs" = some none)
    (z_all : PySem.W.nsIn K mainGlobals "all" = some none)
    (z_bool : PySem.W.nsIn K mainGlobals "bool" = some none)
    (z_enumerate : PySem.W.nsIn K mainGlobals "enumerate" = some none)
    (z_int : PySem.W.nsIn K mainGlobals "int" = some none)
    (z_isinstance : PySem.W.nsIn K mainGlobals "isinstance" = some none)
    (z_len : PySem.W.nsIn K mainGlobals "len" = some none)
    (z_range : PySem.W.nsIn K mainGlobals "range" = some none)
    (z_repr : PySem.W.nsIn K mainGlobals "repr" = some none)
    (z_str : PySem.W.nsIn K mainGlobals "str" = some none)
    (z_tuple : PySem.W.nsIn K mainGlobals "tuple" = some none)
    (z_zip : PySem.W.nsIn K mainGlobals "zip" = some none)
    (a_ANY_TIME : PySem.W.nsIn K mainGlobals "ANY_TIME" = some (some (Value.str "any time" t_ANY_TIME)))
    (a_KNOWN : PySem.W.nsIn K mainGlobals "KNOWN" = some (some (.ref r_KNOWN)))
    (l_KNOWN : K.lookup r_KNOWN = some ⟨.type "tuple", none, .seq (List.toArray [Value.ref r_KNOWN_0, Value.ref r_KNOWN_1, Value.ref r_KNOWN_2, Value.ref r_KNOWN_3, Value.ref r_KNOWN_4, Value.ref r_KNOWN_5, Value.ref r_KNOWN_6]) n_KNOWN, sl_KNOWN⟩)
    (l_KNOWN_6 : K.lookup r_KNOWN_6 = some ⟨.type "tuple", none, .seq (List.toArray [(Value.str "sum and colours" t_KNOWN_6_0), Value.ref r_KNOWN_6_1, Value.ref r_KNOWN_6_2, Value.ref r_KNOWN_6_3]) n_KNOWN_6, sl_KNOWN_6⟩)
    (l_KNOWN_6_3 : K.lookup r_KNOWN_6_3 = some ⟨.type "tuple", none, .seq (List.toArray [Value.ref r_KNOWN_6_3_0, Value.ref r_KNOWN_6_3_1, Value.ref r_KNOWN_6_3_2, Value.ref r_KNOWN_6_3_3]) n_KNOWN_6_3, sl_KNOWN_6_3⟩)
    (l_KNOWN_6_3_3 : K.lookup r_KNOWN_6_3_3 = some ⟨.type "tuple", none, .seq (List.toArray [(Value.str "slow" t_KNOWN_6_3_3_0), (Value.str "anew" t_KNOWN_6_3_3_1)]) n_KNOWN_6_3_3, sl_KNOWN_6_3_3⟩)
    (l_KNOWN_6_3_2 : K.lookup r_KNOWN_6_3_2 = some ⟨.type "tuple", none, .seq (List.toArray [(Value.str "slow" t_KNOWN_6_3_2_0), (Value.str "alike" t_KNOWN_6_3_2_1)]) n_KNOWN_6_3_2, sl_KNOWN_6_3_2⟩)
    (l_KNOWN_6_3_1 : K.lookup r_KNOWN_6_3_1 = some ⟨.type "tuple", none, .seq (List.toArray [(Value.str "at once" t_KNOWN_6_3_1_0), (Value.str "anew" t_KNOWN_6_3_1_1)]) n_KNOWN_6_3_1, sl_KNOWN_6_3_1⟩)
    (l_KNOWN_6_3_0 : K.lookup r_KNOWN_6_3_0 = some ⟨.type "tuple", none, .seq (List.toArray [(Value.str "at once" t_KNOWN_6_3_0_0), (Value.str "alike" t_KNOWN_6_3_0_1)]) n_KNOWN_6_3_0, sl_KNOWN_6_3_0⟩)
    (l_KNOWN_6_2 : K.lookup r_KNOWN_6_2 = some ⟨.type "tuple", none, .seq (List.toArray [(Value.str "got higher" t_KNOWN_6_2_0), (Value.str "got lower" t_KNOWN_6_2_1)]) n_KNOWN_6_2, sl_KNOWN_6_2⟩)
    (l_KNOWN_6_1 : K.lookup r_KNOWN_6_1 = some ⟨.type "tuple", none, .seq (List.toArray [Value.ref r_KNOWN_6_1_0]) n_KNOWN_6_1, sl_KNOWN_6_1⟩)
    (l_KNOWN_6_1_0 : K.lookup r_KNOWN_6_1_0 = some ⟨.type "tuple", none, .seq (List.toArray [(Value.str "G2" t_KNOWN_6_1_0_0), (Value.str "S2" t_KNOWN_6_1_0_1)]) n_KNOWN_6_1_0, sl_KNOWN_6_1_0⟩)
    (l_KNOWN_5 : K.lookup r_KNOWN_5 = some ⟨.type "tuple", none, .seq (List.toArray [(Value.str "sent twice" t_KNOWN_5_0), Value.ref r_KNOWN_5_1, Value.ref r_KNOWN_5_2, Value.ref r_KNOWN_5_3]) n_KNOWN_5, sl_KNOWN_5⟩)
    (l_KNOWN_5_3 : K.lookup r_KNOWN_5_3 = some ⟨.type "tuple", none, .seq (List.toArray [Value.ref r_KNOWN_5_3_0, Value.ref r_KNOWN_5_3_1]) n_KNOWN_5_3, sl_KNOWN_5_3⟩)
    (l_KNOWN_5_3_1 : K.lookup r_KNOWN_5_3_1 = some ⟨.type "tuple", none, .seq (List.toArray [(Value.str "at once" t_KNOWN_5_3_1_0), (Value.str "anew" t_KNOWN_5_3_1_1)]) n_KNOWN_5_3_1, sl_KNOWN_5_3_1⟩)
    (l_KNOWN_5_3_0 : K.lookup r_KNOWN_5_3_0 = some ⟨.type "tuple", none, .seq (List.toArray [(Value.str "at once" t_KNOWN_5_3_0_0), (Value.str "alike" t_KNOWN_5_3_0_1)]) n_KNOWN_5_3_0, sl_KNOWN_5_3_0⟩)
    (l_KNOWN_5_2 : K.lookup r_KNOWN_5_2 = some ⟨.type "tuple", none, .seq (List.toArray []) n_KNOWN_5_2, sl_KNOWN_5_2⟩)
    (l_KNOWN_5_1 : K.lookup r_KNOWN_5_1 = some ⟨.type "tuple", none, .seq (List.toArray [Value.ref r_KNOWN_5_1_0]) n_KNOWN_5_1, sl_KNOWN_5_1⟩)
    (l_KNOWN_5_1_0 : K.lookup r_KNOWN_5_1_0 = some ⟨.type "tuple", none, .seq (List.toArray [(Value.str "S1" t_KNOWN_5_1_0_0), (Value.str "S2" t_KNOWN_5_1_0_1)]) n_KNOWN_5_1_0, sl_KNOWN_5_1_0⟩)
    (l_KNOWN_4 : K.lookup r_KNOWN_4 = some ⟨.type "tuple", none, .seq (List.toArray [(Value.str "half sum" t_KNOWN_4_0), Value.ref r_KNOWN_4_1, Value.ref r_KNOWN_4_2, Value.ref r_KNOWN_4_3]) n_KNOWN_4, sl_KNOWN_4⟩)
    (l_KNOWN_4_3 : K.lookup r_KNOWN_4_3 = some ⟨.type "tuple", none, .seq (List.toArray [Value.ref r_KNOWN_4_3_0, Value.ref r_KNOWN_4_3_1]) n_KNOWN_4_3, sl_KNOWN_4_3⟩)
    (l_KNOWN_4_3_1 : K.lookup r_KNOWN_4_3_1 = some ⟨.type "tuple", none, .seq (List.toArray [(Value.str "slow" t_KNOWN_4_3_1_0), (Value.str "alike" t_KNOWN_4_3_1_1)]) n_KNOWN_4_3_1, sl_KNOWN_4_3_1⟩)
    (l_KNOWN_4_3_0 : K.lookup r_KNOWN_4_3_0 = some ⟨.type "tuple", none, .seq (List.toArray [(Value.str "at once" t_KNOWN_4_3_0_0), (Value.str "alike" t_KNOWN_4_3_0_1)]) n_KNOWN_4_3_0, sl_KNOWN_4_3_0⟩)
    (l_KNOWN_4_2 : K.lookup r_KNOWN_4_2 = some ⟨.type "tuple", none, .seq (List.toArray [(Value.str "got lower" t_KNOWN_4_2_0)]) n_KNOWN_4_2, sl_KNOWN_4_2⟩)
    (l_KNOWN_4_1 : K.lookup r_KNOWN_4_1 = some ⟨.type "tuple", none, .seq (List.toArray [Value.ref r_KNOWN_4_1_0]) n_KNOWN_4_1, sl_KNOWN_4_1⟩)
    (l_KNOWN_4_1_0 : K.lookup r_KNOWN_4_1_0 = some ⟨.type "tuple", none, .seq (List.toArray [(Value.str "G2" t_KNOWN_4_1_0_0), (Value.str "S2" t_KNOWN_4_1_0_1)]) n_KNOWN_4_1_0, sl_KNOWN_4_1_0⟩)
    (l_KNOWN_3 : K.lookup r_KNOWN_3 = some ⟨.type "tuple", none, .seq (List.toArray [(Value.str "four counts" t_KNOWN_3_0), Value.ref r_KNOWN_3_1, Value.ref r_KNOWN_3_2, Value.ref r_KNOWN_3_3]) n_KNOWN_3, sl_KNOWN_3⟩)
    (l_KNOWN_3_3 : K.lookup r_KNOWN_3_3 = some ⟨.type "tuple", none, .seq (List.toArray [Value.ref r_KNOWN_3_3_0, Value.ref r_KNOWN_3_3_1, Value.ref r_KNOWN_3_3_2, Value.ref r_KNOWN_3_3_3]) n_KNOWN_3_3, sl_KNOWN_3_3⟩)
    (l_KNOWN_3_3_3 : K.lookup r_KNOWN_3_3_3 = some ⟨.type "tuple", none, .seq (List.toArray [(Value.str "slow" t_KNOWN_3_3_3_0), (Value.str "anew" t_KNOWN_3_3_3_1)]) n_KNOWN_3_3_3, sl_KNOWN_3_3_3⟩)
    (l_KNOWN_3_3_2 : K.lookup r_KNOWN_3_3_2 = some ⟨.type "tuple", none, .seq (List.toArray [(Value.str "slow" t_KNOWN_3_3_2_0), (Value.str "alike" t_KNOWN_3_3_2_1)]) n_KNOWN_3_3_2, sl_KNOWN_3_3_2⟩)
    (l_KNOWN_3_3_1 : K.lookup r_KNOWN_3_3_1 = some ⟨.type "tuple", none, .seq (List.toArray [(Value.str "at once" t_KNOWN_3_3_1_0), (Value.str "anew" t_KNOWN_3_3_1_1)]) n_KNOWN_3_3_1, sl_KNOWN_3_3_1⟩)
    (l_KNOWN_3_3_0 : K.lookup r_KNOWN_3_3_0 = some ⟨.type "tuple", none, .seq (List.toArray [(Value.str "at once" t_KNOWN_3_3_0_0), (Value.str "alike" t_KNOWN_3_3_0_1)]) n_KNOWN_3_3_0, sl_KNOWN_3_3_0⟩)
    (l_KNOWN_3_2 : K.lookup r_KNOWN_3_2 = some ⟨.type "tuple", none, .seq (List.toArray []) n_KNOWN_3_2, sl_KNOWN_3_2⟩)
    (l_KNOWN_3_1 : K.lookup r_KNOWN_3_1 = some ⟨.type "tuple", none, .seq (List.toArray [Value.ref r_KNOWN_3_1_0]) n_KNOWN_3_1, sl_KNOWN_3_1⟩)
    (l_KNOWN_3_1_0 : K.lookup r_KNOWN_3_1_0 = some ⟨.type "tuple", none, .seq (List.toArray [(Value.str "G1" t_KNOWN_3_1_0_0), (Value.str "S2" t_KNOWN_3_1_0_1)]) n_KNOWN_3_1_0, sl_KNOWN_3_1_0⟩)
    (l_KNOWN_2 : K.lookup r_KNOWN_2 = some ⟨.type "tuple", none, .seq (List.toArray [(Value.str "early sum" t_KNOWN_2_0), Value.ref r_KNOWN_2_1, Value.ref r_KNOWN_2_2, Value.ref r_KNOWN_2_3]) n_KNOWN_2, sl_KNOWN_2⟩)
    (l_KNOWN_2_3 : K.lookup r_KNOWN_2_3 = some ⟨.type "tuple", none, .seq (List.toArray [Value.ref r_KNOWN_2_3_0, Value.ref r_KNOWN_2_3_1]) n_KNOWN_2_3, sl_KNOWN_2_3⟩)
    (l_KNOWN_2_3_1 : K.lookup r_KNOWN_2_3_1 = some ⟨.type "tuple", none, .seq (List.toArray [(Value.str "slow" t_KNOWN_2_3_1_0), (Value.str "alike" t_KNOWN_2_3_1_1)]) n_KNOWN_2_3_1, sl_KNOWN_2_3_1⟩)
    (l_KNOWN_2_3_0 : K.lookup r_KNOWN_2_3_0 = some ⟨.type "tuple", none, .seq (List.toArray [(Value.str "at once" t_KNOWN_2_3_0_0), (Value.str "alike" t_KNOWN_2_3_0_1)]) n_KNOWN_2_3_0, sl_KNOWN_2_3_0⟩)
    (l_KNOWN_2_2 : K.lookup r_KNOWN_2_2 = some ⟨.type "tuple", none, .seq (List.toArray [(Value.str "sent higher" t_KNOWN_2_2_0)]) n_KNOWN_2_2, sl_KNOWN_2_2⟩)
    (l_KNOWN_2_1 : K.lookup r_KNOWN_2_1 = some ⟨.type "tuple", none, .seq (List.toArray [Value.ref r_KNOWN_2_1_0]) n_KNOWN_2_1, sl_KNOWN_2_1⟩)
    (l_KNOWN_2_1_0 : K.lookup r_KNOWN_2_1_0 = some ⟨.type "tuple", none, .seq (List.toArray [(Value.str "G1" t_KNOWN_2_1_0_0), (Value.str "S1" t_KNOWN_2_1_0_1)]) n_KNOWN_2_1_0, sl_KNOWN_2_1_0⟩)
    (l_KNOWN_1 : K.lookup r_KNOWN_1 = some ⟨.type "tuple", none, .seq (List.toArray [(Value.str "colours both ways" t_KNOWN_1_0), Value.ref r_KNOWN_1_1, Value.ref r_KNOWN_1_2, Value.ref r_KNOWN_1_3]) n_KNOWN_1, sl_KNOWN_1⟩)
    (l_KNOWN_1_3 : K.lookup r_KNOWN_1_3 = some ⟨.type "tuple", none, .seq (List.toArray [Value.ref r_KNOWN_1_3_0, Value.ref r_KNOWN_1_3_1]) n_KNOWN_1_3, sl_KNOWN_1_3⟩)
    (l_KNOWN_1_3_1 : K.lookup r_KNOWN_1_3_1 = some ⟨.type "tuple", none, .seq (List.toArray [(Value.str "at once" t_KNOWN_1_3_1_0), (Value.str "anew" t_KNOWN_1_3_1_1)]) n_KNOWN_1_3_1, sl_KNOWN_1_3_1⟩)
    (l_KNOWN_1_3_0 : K.lookup r_KNOWN_1_3_0 = some ⟨.type "tuple", none, .seq (List.toArray [(Value.str "at once" t_KNOWN_1_3_0_0), (Value.str "alike" t_KNOWN_1_3_0_1)]) n_KNOWN_1_3_0, sl_KNOWN_1_3_0⟩)
    (l_KNOWN_1_2 : K.lookup r_KNOWN_1_2 = some ⟨.type "tuple", none, .seq (List.toArray [(Value.str "sent higher" t_KNOWN_1_2_0), (Value.str "sent lower" t_KNOWN_1_2_1)]) n_KNOWN_1_2, sl_KNOWN_1_2⟩)
    (l_KNOWN_1_1 : K.lookup r_KNOWN_1_1 = some ⟨.type "tuple", none, .seq (List.toArray []) n_KNOWN_1_1, sl_KNOWN_1_1⟩)
    (l_KNOWN_0 : K.lookup r_KNOWN_0 = some ⟨.type "tuple", none, .seq (List.toArray [(Value.str "colours" t_KNOWN_0_0), Value.ref r_KNOWN_0_1, Value.ref r_KNOWN_0_2, Value.ref r_KNOWN_0_3]) n_KNOWN_0, sl_KNOWN_0⟩)
    (l_KNOWN_0_3 : K.lookup r_KNOWN_0_3 = some ⟨.type "tuple", none, .seq (List.toArray [Value.ref r_KNOWN_0_3_0]) n_KNOWN_0_3, sl_KNOWN_0_3⟩)
    (l_KNOWN_0_3_0 : K.lookup r_KNOWN_0_3_0 = some ⟨.type "tuple", none, .seq (List.toArray [(Value.str "at once" t_KNOWN_0_3_0_0), (Value.str "alike" t_KNOWN_0_3_0_1)]) n_KNOWN_0_3_0, sl_KNOWN_0_3_0⟩)
    (l_KNOWN_0_2 : K.lookup r_KNOWN_0_2 = some ⟨.type "tuple", none, .seq (List.toArray [(Value.str "sent lower" t_KNOWN_0_2_0)]) n_KNOWN_0_2, sl_KNOWN_0_2⟩)
    (l_KNOWN_0_1 : K.lookup r_KNOWN_0_1 = some ⟨.type "tuple", none, .seq (List.toArray []) n_KNOWN_0_1, sl_KNOWN_0_1⟩)
    (a_MAX_MACHINES : PySem.W.nsIn K mainGlobals "MAX_MACHINES" = some (some (Value.int 6 t_MAX_MACHINES)))
    (a_NOTES : PySem.W.nsIn K mainGlobals "NOTES" = some (some (.ref r_NOTES)))
    (l_NOTES : K.lookup r_NOTES = some ⟨.type "tuple", none, .seq (List.toArray [(Value.str "got higher" t_NOTES_0), (Value.str "got lower" t_NOTES_1), (Value.str "sent higher" t_NOTES_2), (Value.str "sent lower" t_NOTES_3)]) n_NOTES, sl_NOTES⟩)
    (a_NO_TESTS : PySem.W.nsIn K mainGlobals "NO_TESTS" = some (some (Value.str "tests none" t_NO_TESTS)))
    (a_ROADS : PySem.W.nsIn K mainGlobals "ROADS" = some (some (.ref r_ROADS)))
    (l_ROADS : K.lookup r_ROADS = some ⟨.type "tuple", none, .seq (List.toArray [(Value.str "slow" t_ROADS_0), (Value.str "at once" t_ROADS_1)]) n_ROADS, sl_ROADS⟩)
    (a_TESTS : PySem.W.nsIn K mainGlobals "TESTS" = some (some (.ref r_TESTS)))
    (l_TESTS : K.lookup r_TESTS = some ⟨.type "tuple", none, .seq (List.toArray [Value.ref r_TESTS_0, Value.ref r_TESTS_1, Value.ref r_TESTS_2, Value.ref r_TESTS_3, Value.ref r_TESTS_4, Value.ref r_TESTS_5]) n_TESTS, sl_TESTS⟩)
    (l_TESTS_5 : K.lookup r_TESTS_5 = some ⟨.type "tuple", none, .seq (List.toArray [(Value.str "S1" t_TESTS_5_0), (Value.str "S2" t_TESTS_5_1)]) n_TESTS_5, sl_TESTS_5⟩)
    (l_TESTS_4 : K.lookup r_TESTS_4 = some ⟨.type "tuple", none, .seq (List.toArray [(Value.str "G2" t_TESTS_4_0), (Value.str "S2" t_TESTS_4_1)]) n_TESTS_4, sl_TESTS_4⟩)
    (l_TESTS_3 : K.lookup r_TESTS_3 = some ⟨.type "tuple", none, .seq (List.toArray [(Value.str "G2" t_TESTS_3_0), (Value.str "S1" t_TESTS_3_1)]) n_TESTS_3, sl_TESTS_3⟩)
    (l_TESTS_2 : K.lookup r_TESTS_2 = some ⟨.type "tuple", none, .seq (List.toArray [(Value.str "G1" t_TESTS_2_0), (Value.str "S2" t_TESTS_2_1)]) n_TESTS_2, sl_TESTS_2⟩)
    (l_TESTS_1 : K.lookup r_TESTS_1 = some ⟨.type "tuple", none, .seq (List.toArray [(Value.str "G1" t_TESTS_1_0), (Value.str "S1" t_TESTS_1_1)]) n_TESTS_1, sl_TESTS_1⟩)
    (l_TESTS_0 : K.lookup r_TESTS_0 = some ⟨.type "tuple", none, .seq (List.toArray [(Value.str "G1" t_TESTS_0_0), (Value.str "G2" t_TESTS_0_1)]) n_TESTS_0, sl_TESTS_0⟩)
    (a_TESTS_HEAD : PySem.W.nsIn K mainGlobals "TESTS_HEAD" = some (some (Value.str "tests " t_TESTS_HEAD)))
    (a_TOURS : PySem.W.nsIn K mainGlobals "TOURS" = some (some (.ref r_TOURS)))
    (l_TOURS : K.lookup r_TOURS = some ⟨.type "tuple", none, .seq (List.toArray [(Value.str "alike" t_TOURS_0), (Value.str "anew" t_TOURS_1)]) n_TOURS, sl_TOURS⟩)
    (a_WAITS : PySem.W.nsIn K mainGlobals "WAITS" = some (some (Value.str "waits" t_WAITS)))
    (a_BadBook : PySem.W.nsIn K mainGlobals "BadBook" = some (some (.ref C_BadBook)))
    (a_BadText : PySem.W.nsIn K mainGlobals "BadText" = some (some (.ref C_BadText)))
    (a_Unfit : PySem.W.nsIn K mainGlobals "Unfit" = some (some (.ref C_Unfit)))
    (hd_BadBook : PySem.W.hasDictIn K C_BadBook = true)
    (sb_BadBook : PySem.W.subIn K (.ref C_BadBook) (.type "BaseException") = some true)
    (ty_BadBook : PySem.W.typeIn K (.ref C_BadBook) = some (.type "type"))
    (ga_BadBook : PySem.W.findIn K (.ref C_BadBook) "__getattribute__" = some (some (.builtin "BaseException.__getattribute__")))
    (gt_BadBook : PySem.W.findIn K (.ref C_BadBook) "__getattr__" = some none)
    (cc_BadBook : PySem.W.findIn K (.ref C_BadBook) "__class__" = some (some (.builtin "object.__class__")))
    (mo_BadBook : PySem.W.mroIn K C_BadBook (.type "object") = some true)
    (cl_BadBook : PySem.W.isClsIn K C_BadBook = true)
    (nn_ : PySem.W.specialIn K (.builtin "object.__class__") "__get__" = some (some (.builtin "getset_descriptor.__get__")))
    (tk_ : PySem.W.takesIn K (.builtin "object.__class__") = some true)
    (s_BadBook_BadBook : PySem.W.subIn K (.ref C_BadBook) (.ref C_BadBook) = some true)
    (s_BadText_BadBook : PySem.W.subIn K (.ref C_BadText) (.ref C_BadBook) = some false)
    (s_Unfit_BadBook : PySem.W.subIn K (.ref C_Unfit) (.ref C_BadBook) = some false)
    (kp_BadBook : PySem.W.keepIn K (.ref C_BadBook) = true)
    (x_BadBook : K.lookup C_BadBook = some (excClassObj nm_BadBook q_BadBook C_BadBook N_BadBook bs_BadBook [.ref B_BadBook_StillError, .type "ValueError", .type "Exception", .type "BaseException", .type "object"] true sn_BadBook sub_c_BadBook ab_BadBook col_BadBook dd_BadBook k0_BadBook k1_BadBook k2_BadBook k3_BadBook k5_BadBook "ValueError.__new__"))
    (sa_BadBook : PySem.W.findIn K (.ref C_BadBook) "__setattr__" = some (some (.builtin "object.__setattr__")))
    (no_BadBook : PySem.W.findIn K (.ref C_BadBook) "error" = some none)
    (in_BadBook : PySem.W.findIn K (.ref C_BadBook) "__init__" = some (some (.ref fI_BadBook)))
    (it_BadBook : PySem.W.typeIn K (.ref fI_BadBook) = some (.type "function"))
    (lI_BadBook : K.lookup fI_BadBook = some ⟨ocI_BadBook, odI_BadBook, .func (PySem.W.fnOf "__init__" "BadBook.__init__" (defArgs s_init_BadBook) (defBody s_init_BadBook) (defScope s_init_BadBook) .none kVI_BadBook dcI_BadBook pmI_BadBook anI_BadBook cdI_BadBook ctI_BadBook), slI_BadBook⟩)
    (cI_BadBook : PySem.W.codeIn K cdI_BadBook "BadBook.__init__" = true)
    (kI_BadBook : PySem.W.keepIn K (.ref fI_BadBook) = true)
    (hd_BadText : PySem.W.hasDictIn K C_BadText = true)
    (sb_BadText : PySem.W.subIn K (.ref C_BadText) (.type "BaseException") = some true)
    (ty_BadText : PySem.W.typeIn K (.ref C_BadText) = some (.type "type"))
    (ga_BadText : PySem.W.findIn K (.ref C_BadText) "__getattribute__" = some (some (.builtin "BaseException.__getattribute__")))
    (gt_BadText : PySem.W.findIn K (.ref C_BadText) "__getattr__" = some none)
    (cc_BadText : PySem.W.findIn K (.ref C_BadText) "__class__" = some (some (.builtin "object.__class__")))
    (mo_BadText : PySem.W.mroIn K C_BadText (.type "object") = some true)
    (cl_BadText : PySem.W.isClsIn K C_BadText = true)
    (s_BadBook_BadText : PySem.W.subIn K (.ref C_BadBook) (.ref C_BadText) = some false)
    (s_BadText_BadText : PySem.W.subIn K (.ref C_BadText) (.ref C_BadText) = some true)
    (s_Unfit_BadText : PySem.W.subIn K (.ref C_Unfit) (.ref C_BadText) = some false)
    (kp_BadText : PySem.W.keepIn K (.ref C_BadText) = true)
    (x_BadText : K.lookup C_BadText = some (excClassObj nm_BadText q_BadText C_BadText N_BadText bs_BadText [.ref B_BadText_StillError, .type "ValueError", .type "Exception", .type "BaseException", .type "object"] true sn_BadText sub_c_BadText ab_BadText col_BadText dd_BadText k0_BadText k1_BadText k2_BadText k3_BadText k5_BadText "ValueError.__new__"))
    (sa_BadText : PySem.W.findIn K (.ref C_BadText) "__setattr__" = some (some (.builtin "object.__setattr__")))
    (no_BadText : PySem.W.findIn K (.ref C_BadText) "line" = some none)
    (in_BadText : PySem.W.findIn K (.ref C_BadText) "__init__" = some (some (.ref fI_BadText)))
    (it_BadText : PySem.W.typeIn K (.ref fI_BadText) = some (.type "function"))
    (lI_BadText : K.lookup fI_BadText = some ⟨ocI_BadText, odI_BadText, .func (PySem.W.fnOf "__init__" "BadText.__init__" (defArgs s_init_BadText) (defBody s_init_BadText) (defScope s_init_BadText) .none kVI_BadText dcI_BadText pmI_BadText anI_BadText cdI_BadText ctI_BadText), slI_BadText⟩)
    (cI_BadText : PySem.W.codeIn K cdI_BadText "BadText.__init__" = true)
    (kI_BadText : PySem.W.keepIn K (.ref fI_BadText) = true)
    (hd_Unfit : PySem.W.hasDictIn K C_Unfit = true)
    (sb_Unfit : PySem.W.subIn K (.ref C_Unfit) (.type "BaseException") = some true)
    (ty_Unfit : PySem.W.typeIn K (.ref C_Unfit) = some (.type "type"))
    (ga_Unfit : PySem.W.findIn K (.ref C_Unfit) "__getattribute__" = some (some (.builtin "BaseException.__getattribute__")))
    (gt_Unfit : PySem.W.findIn K (.ref C_Unfit) "__getattr__" = some none)
    (cc_Unfit : PySem.W.findIn K (.ref C_Unfit) "__class__" = some (some (.builtin "object.__class__")))
    (mo_Unfit : PySem.W.mroIn K C_Unfit (.type "object") = some true)
    (cl_Unfit : PySem.W.isClsIn K C_Unfit = true)
    (s_BadBook_Unfit : PySem.W.subIn K (.ref C_BadBook) (.ref C_Unfit) = some false)
    (s_BadText_Unfit : PySem.W.subIn K (.ref C_BadText) (.ref C_Unfit) = some false)
    (s_Unfit_Unfit : PySem.W.subIn K (.ref C_Unfit) (.ref C_Unfit) = some true)
    (kp_Unfit : PySem.W.keepIn K (.ref C_Unfit) = true)
    (ex_Unfit : PySem.W.excIn K C_Unfit PySem.HandSPX.veTail "ValueError.__new__" = true)
    : ∃ (fd : FuncData) (cm : Str → Value), (∀ (s : Shared) (u : Value), BindsTo s fd ⟨[u], []⟩ [("script", u)]) ∧ ∀ base : Heap, K.In base → FnG P w K mg base 8 fa fd ["script"] (spD K cm 1 F_law) := by
  have e := hfa.symm.trans (PySem.W.mg_of X G a_law)
  cases e
  let cmf : Str → Value := fun n => if n = "BadBook" then .ref C_BadBook else if n = "BadText" then .ref C_BadText else if n = "Unfit" then .ref C_Unfit else .none
  have su_BadBook : ∀ m r, sub_BadBook m = some r → PySem.W.exmOne K (cmf m) (.ref C_BadBook) = some r := by
    intro m r h
    unfold sub_BadBook at h
    by_cases e0 : m = "BadBook"
    · rw [if_pos e0] at h
      cases h
      subst e0
      exact (congrArg (fun c => PySem.W.exmOne K c (.ref C_BadBook)) (show cmf "BadBook" = .ref C_BadBook from if_pos rfl)).trans (PySem.W.exm_ref sb_BadBook hd_BadBook ty_BadBook s_BadBook_BadBook)
    · rw [if_neg e0] at h
      by_cases e1 : m = "BadText"
      · rw [if_pos e1] at h
        cases h
        subst e1
        exact (congrArg (fun c => PySem.W.exmOne K c (.ref C_BadBook)) (show cmf "BadText" = .ref C_BadText from (if_neg (by decide +kernel)).trans (if_pos rfl))).trans (PySem.W.exm_ref sb_BadBook hd_BadBook ty_BadBook s_BadText_BadBook)
      · rw [if_neg e1] at h
        by_cases e2 : m = "Unfit"
        · rw [if_pos e2] at h
          cases h
          subst e2
          exact (congrArg (fun c => PySem.W.exmOne K c (.ref C_BadBook)) (show cmf "Unfit" = .ref C_Unfit from (if_neg (by decide +kernel)).trans ((if_neg (by decide +kernel)).trans (if_pos rfl)))).trans (PySem.W.exm_ref sb_BadBook hd_BadBook ty_BadBook s_Unfit_BadBook)
        · rw [if_neg e2] at h
          cases h
  have su_BadText : ∀ m r, sub_BadText m = some r → PySem.W.exmOne K (cmf m) (.ref C_BadText) = some r := by
    intro m r h
    unfold sub_BadText at h
    by_cases e0 : m = "BadBook"
    · rw [if_pos e0] at h
      cases h
      subst e0
      exact (congrArg (fun c => PySem.W.exmOne K c (.ref C_BadText)) (show cmf "BadBook" = .ref C_BadBook from if_pos rfl)).trans (PySem.W.exm_ref sb_BadText hd_BadText ty_BadText s_BadBook_BadText)
    · rw [if_neg e0] at h
      by_cases e1 : m = "BadText"
      · rw [if_pos e1] at h
        cases h
        subst e1
        exact (congrArg (fun c => PySem.W.exmOne K c (.ref C_BadText)) (show cmf "BadText" = .ref C_BadText from (if_neg (by decide +kernel)).trans (if_pos rfl))).trans (PySem.W.exm_ref sb_BadText hd_BadText ty_BadText s_BadText_BadText)
      · rw [if_neg e1] at h
        by_cases e2 : m = "Unfit"
        · rw [if_pos e2] at h
          cases h
          subst e2
          exact (congrArg (fun c => PySem.W.exmOne K c (.ref C_BadText)) (show cmf "Unfit" = .ref C_Unfit from (if_neg (by decide +kernel)).trans ((if_neg (by decide +kernel)).trans (if_pos rfl)))).trans (PySem.W.exm_ref sb_BadText hd_BadText ty_BadText s_Unfit_BadText)
        · rw [if_neg e2] at h
          cases h
  have su_Unfit : ∀ m r, sub_Unfit m = some r → PySem.W.exmOne K (cmf m) (.ref C_Unfit) = some r := by
    intro m r h
    unfold sub_Unfit at h
    by_cases e0 : m = "BadBook"
    · rw [if_pos e0] at h
      cases h
      subst e0
      exact (congrArg (fun c => PySem.W.exmOne K c (.ref C_Unfit)) (show cmf "BadBook" = .ref C_BadBook from if_pos rfl)).trans (PySem.W.exm_ref sb_Unfit hd_Unfit ty_Unfit s_BadBook_Unfit)
    · rw [if_neg e0] at h
      by_cases e1 : m = "BadText"
      · rw [if_pos e1] at h
        cases h
        subst e1
        exact (congrArg (fun c => PySem.W.exmOne K c (.ref C_Unfit)) (show cmf "BadText" = .ref C_BadText from (if_neg (by decide +kernel)).trans (if_pos rfl))).trans (PySem.W.exm_ref sb_Unfit hd_Unfit ty_Unfit s_BadText_Unfit)
      · rw [if_neg e1] at h
        by_cases e2 : m = "Unfit"
        · rw [if_pos e2] at h
          cases h
          subst e2
          exact (congrArg (fun c => PySem.W.exmOne K c (.ref C_Unfit)) (show cmf "Unfit" = .ref C_Unfit from (if_neg (by decide +kernel)).trans ((if_neg (by decide +kernel)).trans (if_pos rfl)))).trans (PySem.W.exm_ref sb_Unfit hd_Unfit ty_Unfit s_Unfit_Unfit)
        · rw [if_neg e2] at h
          cases h
  let T : Txt w K mg cmf := {
    a_is_integer := f_is_integer, fd_is_integer := _, F_is_integer := fun_mk (st := s_is_integer) l_is_integer c_is_integer k_is_integer, m_is_integer := PySem.W.mg_of X G a_is_integer,
    a_is_many := f_is_many, fd_is_many := _, F_is_many := fun_mk (st := s_is_many) l_is_many c_is_many k_is_many, m_is_many := PySem.W.mg_of X G a_is_many,
    a_is_tuple_of := f_is_tuple_of, fd_is_tuple_of := _, F_is_tuple_of := fun_mk (st := s_is_tuple_of) l_is_tuple_of c_is_tuple_of k_is_tuple_of, m_is_tuple_of := PySem.W.mg_of X G a_is_tuple_of,
    a_is_ascending := f_is_ascending, fd_is_ascending := _, F_is_ascending := fun_mk (st := s_is_ascending) l_is_ascending c_is_ascending k_is_ascending, m_is_ascending := PySem.W.mg_of X G a_is_ascending,
    a_is_notes := f_is_notes, fd_is_notes := _, F_is_notes := fun_mk (st := s_is_notes) l_is_notes c_is_notes k_is_notes, m_is_notes := PySem.W.mg_of X G a_is_notes,
    a_is_manner := f_is_manner, fd_is_manner := _, F_is_manner := fun_mk (st := s_is_manner) l_is_manner c_is_manner k_is_manner, m_is_manner := PySem.W.mg_of X G a_is_manner,
    a_tests_error := f_tests_error, fd_tests_error := _, F_tests_error := fun_mk (st := s_tests_error) l_tests_error c_tests_error k_tests_error, m_tests_error := PySem.W.mg_of X G a_tests_error,
    a_manners_error := f_manners_error, fd_manners_error := _, F_manners_error := fun_mk (st := s_manners_error) l_manners_error c_manners_error k_manners_error, m_manners_error := PySem.W.mg_of X G a_manners_error,
    a_book_error := f_book_error, fd_book_error := _, F_book_error := fun_mk (st := s_book_error) l_book_error c_book_error k_book_error, m_book_error := PySem.W.mg_of X G a_book_error,
    a_world_error := f_world_error, fd_world_error := _, F_world_error := fun_mk (st := s_world_error) l_world_error c_world_error k_world_error, m_world_error := PySem.W.mg_of X G a_world_error,
    a_alike_for := f_alike_for, fd_alike_for := _, F_alike_for := fun_mk (st := s_alike_for) l_alike_for c_alike_for k_alike_for, m_alike_for := PySem.W.mg_of X G a_alike_for,
    a_tests_line := f_tests_line, fd_tests_line := _, F_tests_line := fun_mk (st := s_tests_line) l_tests_line c_tests_line k_tests_line, m_tests_line := PySem.W.mg_of X G a_tests_line,
    a_manner_line := f_manner_line, fd_manner_line := _, F_manner_line := fun_mk (st := s_manner_line) l_manner_line c_manner_line k_manner_line, m_manner_line := PySem.W.mg_of X G a_manner_line,
    a_book_text := f_book_text, fd_book_text := _, F_book_text := fun_mk (st := s_book_text) l_book_text c_book_text k_book_text, m_book_text := PySem.W.mg_of X G a_book_text,
    a_world_text := f_world_text, fd_world_text := _, F_world_text := fun_mk (st := s_world_text) l_world_text c_world_text k_world_text, m_world_text := PySem.W.mg_of X G a_world_text,
    a_tests_of := f_tests_of, fd_tests_of := _, F_tests_of := fun_mk (st := s_tests_of) l_tests_of c_tests_of k_tests_of, m_tests_of := PySem.W.mg_of X G a_tests_of,
    a_manner_of := f_manner_of, fd_manner_of := _, F_manner_of := fun_mk (st := s_manner_of) l_manner_of c_manner_of k_manner_of, m_manner_of := PySem.W.mg_of X G a_manner_of,
    a_manners_of := f_manners_of, fd_manners_of := _, F_manners_of := fun_mk (st := s_manners_of) l_manners_of c_manners_of k_manners_of, m_manners_of := PySem.W.mg_of X G a_manners_of,
    a_read_book := f_read_book, fd_read_book := _, F_read_book := fun_mk (st := s_read_book) l_read_book c_read_book k_read_book, m_read_book := PySem.W.mg_of X G a_read_book,
    a_read_world := f_read_world, fd_read_world := _, F_read_world := fun_mk (st := s_read_world) l_read_world c_read_world k_read_world, m_read_world := PySem.W.mg_of X G a_read_world,
    a_row_of := f_row_of, fd_row_of := _, F_row_of := fun_mk (st := s_row_of) l_row_of c_row_of k_row_of, m_row_of := PySem.W.mg_of X G a_row_of,
    a_known_names := f_known_names, fd_known_names := _, F_known_names := fun_mk (st := s_known_names) l_known_names c_known_names k_known_names, m_known_names := PySem.W.mg_of X G a_known_names,
    a_known_book := f_known_book, fd_known_book := _, F_known_book := fun_mk (st := s_known_book) l_known_book c_known_book k_known_book, m_known_book := PySem.W.mg_of X G a_known_book,
    a_known_worlds := f_known_worlds, fd_known_worlds := _, F_known_worlds := fun_mk (st := s_known_worlds) l_known_worlds c_known_worlds k_known_worlds, m_known_worlds := PySem.W.mg_of X G a_known_worlds,
    a_law_deck := f_law_deck, fd_law_deck := _, F_law_deck := fun_mk (st := s_law_deck) l_law_deck c_law_deck k_law_deck, m_law_deck := PySem.W.mg_of X G a_law_deck,
    a_law_draw := f_law_draw, fd_law_draw := _, F_law_draw := fun_mk (st := s_law_draw) l_law_draw c_law_draw k_law_draw, m_law_draw := PySem.W.mg_of X G a_law_draw,
    a_law_pick := f_law_pick, fd_law_pick := _, F_law_pick := fun_mk (st := s_law_pick) l_law_pick c_law_pick k_law_pick, m_law_pick := PySem.W.mg_of X G a_law_pick,
    a_law_tests := f_law_tests, fd_law_tests := _, F_law_tests := fun_mk (st := s_law_tests) l_law_tests c_law_tests k_law_tests, m_law_tests := PySem.W.mg_of X G a_law_tests,
    a_law_words := f_law_words, fd_law_words := _, F_law_words := fun_mk (st := s_law_words) l_law_words c_law_words k_law_words, m_law_words := PySem.W.mg_of X G a_law_words,
    a_law_manner := f_law_manner, fd_law_manner := _, F_law_manner := fun_mk (st := s_law_manner) l_law_manner c_law_manner k_law_manner, m_law_manner := PySem.W.mg_of X G a_law_manner,
    a_law_book := f_law_book, fd_law_book := _, F_law_book := fun_mk (st := s_law_book) l_law_book c_law_book k_law_book, m_law_book := PySem.W.mg_of X G a_law_book,
    a_law_text := f_law_text, fd_law_text := _, F_law_text := fun_mk (st := s_law_text) l_law_text c_law_text k_law_text, m_law_text := PySem.W.mg_of X G a_law_text,
    a_law_refusable := f_law_refusable, fd_law_refusable := _, F_law_refusable := fun_mk (st := s_law_refusable) l_law_refusable c_law_refusable k_law_refusable, m_law_refusable := PySem.W.mg_of X G a_law_refusable,
    a_law_called := f_law_called, fd_law_called := _, F_law_called := fun_mk (st := s_law_called) l_law_called c_law_called k_law_called, m_law_called := PySem.W.mg_of X G a_law_called,
    a_law_is_due := f_law_is_due, fd_law_is_due := _, F_law_is_due := fun_mk (st := s_law_is_due) l_law_is_due c_law_is_due k_law_is_due, m_law_is_due := PySem.W.mg_of X G a_law_is_due,
    a_law := fa, fd_law := _, F_law := fun_mk (st := s_law) l_law c_law k_law, m_law := PySem.W.mg_of X G a_law,
    z_abs := PySem.W.mg_none_of X G z_abs,
    z_all := PySem.W.mg_none_of X G z_all,
    z_bool := PySem.W.mg_none_of X G z_bool,
    z_enumerate := PySem.W.mg_none_of X G z_enumerate,
    z_int := PySem.W.mg_none_of X G z_int,
    z_isinstance := PySem.W.mg_none_of X G z_isinstance,
    z_len := PySem.W.mg_none_of X G z_len,
    z_range := PySem.W.mg_none_of X G z_range,
    z_repr := PySem.W.mg_none_of X G z_repr,
    z_str := PySem.W.mg_none_of X G z_str,
    z_tuple := PySem.W.mg_none_of X G z_tuple,
    z_zip := PySem.W.mg_none_of X G z_zip,
    u_ANY_TIME := _, v_ANY_TIME := (.str "any time"), rv_ANY_TIME := ⟨_, rfl⟩, m_ANY_TIME := PySem.W.mg_of X G a_ANY_TIME, r_ANY_TIME := fun _ _ => .str _,
    a_KNOWN := r_KNOWN, m_KNOWN := PySem.W.mg_of X G a_KNOWN, r_KNOWN := ro_line (vs := [.ref r_KNOWN_0, .ref r_KNOWN_1, .ref r_KNOWN_2, .ref r_KNOWN_3, .ref r_KNOWN_4, .ref r_KNOWN_5, .ref r_KNOWN_6]) l_KNOWN (.cons rfl (.cons rfl (.cons rfl (.cons rfl (.cons rfl (.cons rfl (.cons rfl .nil))))))) (by show 7 ≤ sizeLine; rw [sizeLine_eq]; omega) fun L H => (.cons ((ro_line (vs := [(.str "colours"), .ref r_KNOWN_0_1, .ref r_KNOWN_0_2, .ref r_KNOWN_0_3]) l_KNOWN_0 (.cons ⟨_, rfl⟩ (.cons rfl (.cons rfl (.cons rfl .nil)))) (by show 4 ≤ sizeLine; rw [sizeLine_eq]; omega) fun L H => (.cons (.str _) (.cons ((ro_line (vs := []) l_KNOWN_0_1 .nil (by show 0 ≤ sizeLine; rw [sizeLine_eq]; omega) fun L H => .nil) L H) (.cons ((ro_line (vs := [(.str "sent lower")]) l_KNOWN_0_2 (.cons ⟨_, rfl⟩ .nil) (by show 1 ≤ sizeLine; rw [sizeLine_eq]; omega) fun L H => (.cons (.str _) .nil)) L H) (.cons ((ro_line (vs := [.ref r_KNOWN_0_3_0]) l_KNOWN_0_3 (.cons rfl .nil) (by show 1 ≤ sizeLine; rw [sizeLine_eq]; omega) fun L H => (.cons ((ro_line (vs := [(.str "at once"), (.str "alike")]) l_KNOWN_0_3_0 (.cons ⟨_, rfl⟩ (.cons ⟨_, rfl⟩ .nil)) (by show 2 ≤ sizeLine; rw [sizeLine_eq]; omega) fun L H => (.cons (.str _) (.cons (.str _) .nil))) L H) .nil)) L H) .nil))))) L H) (.cons ((ro_line (vs := [(.str "colours both ways"), .ref r_KNOWN_1_1, .ref r_KNOWN_1_2, .ref r_KNOWN_1_3]) l_KNOWN_1 (.cons ⟨_, rfl⟩ (.cons rfl (.cons rfl (.cons rfl .nil)))) (by show 4 ≤ sizeLine; rw [sizeLine_eq]; omega) fun L H => (.cons (.str _) (.cons ((ro_line (vs := []) l_KNOWN_1_1 .nil (by show 0 ≤ sizeLine; rw [sizeLine_eq]; omega) fun L H => .nil) L H) (.cons ((ro_line (vs := [(.str "sent higher"), (.str "sent lower")]) l_KNOWN_1_2 (.cons ⟨_, rfl⟩ (.cons ⟨_, rfl⟩ .nil)) (by show 2 ≤ sizeLine; rw [sizeLine_eq]; omega) fun L H => (.cons (.str _) (.cons (.str _) .nil))) L H) (.cons ((ro_line (vs := [.ref r_KNOWN_1_3_0, .ref r_KNOWN_1_3_1]) l_KNOWN_1_3 (.cons rfl (.cons rfl .nil)) (by show 2 ≤ sizeLine; rw [sizeLine_eq]; omega) fun L H => (.cons ((ro_line (vs := [(.str "at once"), (.str "alike")]) l_KNOWN_1_3_0 (.cons ⟨_, rfl⟩ (.cons ⟨_, rfl⟩ .nil)) (by show 2 ≤ sizeLine; rw [sizeLine_eq]; omega) fun L H => (.cons (.str _) (.cons (.str _) .nil))) L H) (.cons ((ro_line (vs := [(.str "at once"), (.str "anew")]) l_KNOWN_1_3_1 (.cons ⟨_, rfl⟩ (.cons ⟨_, rfl⟩ .nil)) (by show 2 ≤ sizeLine; rw [sizeLine_eq]; omega) fun L H => (.cons (.str _) (.cons (.str _) .nil))) L H) .nil))) L H) .nil))))) L H) (.cons ((ro_line (vs := [(.str "early sum"), .ref r_KNOWN_2_1, .ref r_KNOWN_2_2, .ref r_KNOWN_2_3]) l_KNOWN_2 (.cons ⟨_, rfl⟩ (.cons rfl (.cons rfl (.cons rfl .nil)))) (by show 4 ≤ sizeLine; rw [sizeLine_eq]; omega) fun L H => (.cons (.str _) (.cons ((ro_line (vs := [.ref r_KNOWN_2_1_0]) l_KNOWN_2_1 (.cons rfl .nil) (by show 1 ≤ sizeLine; rw [sizeLine_eq]; omega) fun L H => (.cons ((ro_line (vs := [(.str "G1"), (.str "S1")]) l_KNOWN_2_1_0 (.cons ⟨_, rfl⟩ (.cons ⟨_, rfl⟩ .nil)) (by show 2 ≤ sizeLine; rw [sizeLine_eq]; omega) fun L H => (.cons (.str _) (.cons (.str _) .nil))) L H) .nil)) L H) (.cons ((ro_line (vs := [(.str "sent higher")]) l_KNOWN_2_2 (.cons ⟨_, rfl⟩ .nil) (by show 1 ≤ sizeLine; rw [sizeLine_eq]; omega) fun L H => (.cons (.str _) .nil)) L H) (.cons ((ro_line (vs := [.ref r_KNOWN_2_3_0, .ref r_KNOWN_2_3_1]) l_KNOWN_2_3 (.cons rfl (.cons rfl .nil)) (by show 2 ≤ sizeLine; rw [sizeLine_eq]; omega) fun L H => (.cons ((ro_line (vs := [(.str "at once"), (.str "alike")]) l_KNOWN_2_3_0 (.cons ⟨_, rfl⟩ (.cons ⟨_, rfl⟩ .nil)) (by show 2 ≤ sizeLine; rw [sizeLine_eq]; omega) fun L H => (.cons (.str _) (.cons (.str _) .nil))) L H) (.cons ((ro_line (vs := [(.str "slow"), (.str "alike")]) l_KNOWN_2_3_1 (.cons ⟨_, rfl⟩ (.cons ⟨_, rfl⟩ .nil)) (by show 2 ≤ sizeLine; rw [sizeLine_eq]; omega) fun L H => (.cons (.str _) (.cons (.str _) .nil))) L H) .nil))) L H) .nil))))) L H) (.cons ((ro_line (vs := [(.str "four counts"), .ref r_KNOWN_3_1, .ref r_KNOWN_3_2, .ref r_KNOWN_3_3]) l_KNOWN_3 (.cons ⟨_, rfl⟩ (.cons rfl (.cons rfl (.cons rfl .nil)))) (by show 4 ≤ sizeLine; rw [sizeLine_eq]; omega) fun L H => (.cons (.str _) (.cons ((ro_line (vs := [.ref r_KNOWN_3_1_0]) l_KNOWN_3_1 (.cons rfl .nil) (by show 1 ≤ sizeLine; rw [sizeLine_eq]; omega) fun L H => (.cons ((ro_line (vs := [(.str "G1"), (.str "S2")]) l_KNOWN_3_1_0 (.cons ⟨_, rfl⟩ (.cons ⟨_, rfl⟩ .nil)) (by show 2 ≤ sizeLine; rw [sizeLine_eq]; omega) fun L H => (.cons (.str _) (.cons (.str _) .nil))) L H) .nil)) L H) (.cons ((ro_line (vs := []) l_KNOWN_3_2 .nil (by show 0 ≤ sizeLine; rw [sizeLine_eq]; omega) fun L H => .nil) L H) (.cons ((ro_line (vs := [.ref r_KNOWN_3_3_0, .ref r_KNOWN_3_3_1, .ref r_KNOWN_3_3_2, .ref r_KNOWN_3_3_3]) l_KNOWN_3_3 (.cons rfl (.cons rfl (.cons rfl (.cons rfl .nil)))) (by show 4 ≤ sizeLine; rw [sizeLine_eq]; omega) fun L H => (.cons ((ro_line (vs := [(.str "at once"), (.str "alike")]) l_KNOWN_3_3_0 (.cons ⟨_, rfl⟩ (.cons ⟨_, rfl⟩ .nil)) (by show 2 ≤ sizeLine; rw [sizeLine_eq]; omega) fun L H => (.cons (.str _) (.cons (.str _) .nil))) L H) (.cons ((ro_line (vs := [(.str "at once"), (.str "anew")]) l_KNOWN_3_3_1 (.cons ⟨_, rfl⟩ (.cons ⟨_, rfl⟩ .nil)) (by show 2 ≤ sizeLine; rw [sizeLine_eq]; omega) fun L H => (.cons (.str _) (.cons (.str _) .nil))) L H) (.cons ((ro_line (vs := [(.str "slow"), (.str "alike")]) l_KNOWN_3_3_2 (.cons ⟨_, rfl⟩ (.cons ⟨_, rfl⟩ .nil)) (by show 2 ≤ sizeLine; rw [sizeLine_eq]; omega) fun L H => (.cons (.str _) (.cons (.str _) .nil))) L H) (.cons ((ro_line (vs := [(.str "slow"), (.str "anew")]) l_KNOWN_3_3_3 (.cons ⟨_, rfl⟩ (.cons ⟨_, rfl⟩ .nil)) (by show 2 ≤ sizeLine; rw [sizeLine_eq]; omega) fun L H => (.cons (.str _) (.cons (.str _) .nil))) L H) .nil))))) L H) .nil))))) L H) (.cons ((ro_line (vs := [(.str "half sum"), .ref r_KNOWN_4_1, .ref r_KNOWN_4_2, .ref r_KNOWN_4_3]) l_KNOWN_4 (.cons ⟨_, rfl⟩ (.cons rfl (.cons rfl (.cons rfl .nil)))) (by show 4 ≤ sizeLine; rw [sizeLine_eq]; omega) fun L H => (.cons (.str _) (.cons ((ro_line (vs := [.ref r_KNOWN_4_1_0]) l_KNOWN_4_1 (.cons rfl .nil) (by show 1 ≤ sizeLine; rw [sizeLine_eq]; omega) fun L H => (.cons ((ro_line (vs := [(.str "G2"), (.str "S2")]) l_KNOWN_4_1_0 (.cons ⟨_, rfl⟩ (.cons ⟨_, rfl⟩ .nil)) (by show 2 ≤ sizeLine; rw [sizeLine_eq]; omega) fun L H => (.cons (.str _) (.cons (.str _) .nil))) L H) .nil)) L H) (.cons ((ro_line (vs := [(.str "got lower")]) l_KNOWN_4_2 (.cons ⟨_, rfl⟩ .nil) (by show 1 ≤ sizeLine; rw [sizeLine_eq]; omega) fun L H => (.cons (.str _) .nil)) L H) (.cons ((ro_line (vs := [.ref r_KNOWN_4_3_0, .ref r_KNOWN_4_3_1]) l_KNOWN_4_3 (.cons rfl (.cons rfl .nil)) (by show 2 ≤ sizeLine; rw [sizeLine_eq]; omega) fun L H => (.cons ((ro_line (vs := [(.str "at once"), (.str "alike")]) l_KNOWN_4_3_0 (.cons ⟨_, rfl⟩ (.cons ⟨_, rfl⟩ .nil)) (by show 2 ≤ sizeLine; rw [sizeLine_eq]; omega) fun L H => (.cons (.str _) (.cons (.str _) .nil))) L H) (.cons ((ro_line (vs := [(.str "slow"), (.str "alike")]) l_KNOWN_4_3_1 (.cons ⟨_, rfl⟩ (.cons ⟨_, rfl⟩ .nil)) (by show 2 ≤ sizeLine; rw [sizeLine_eq]; omega) fun L H => (.cons (.str _) (.cons (.str _) .nil))) L H) .nil))) L H) .nil))))) L H) (.cons ((ro_line (vs := [(.str "sent twice"), .ref r_KNOWN_5_1, .ref r_KNOWN_5_2, .ref r_KNOWN_5_3]) l_KNOWN_5 (.cons ⟨_, rfl⟩ (.cons rfl (.cons rfl (.cons rfl .nil)))) (by show 4 ≤ sizeLine; rw [sizeLine_eq]; omega) fun L H => (.cons (.str _) (.cons ((ro_line (vs := [.ref r_KNOWN_5_1_0]) l_KNOWN_5_1 (.cons rfl .nil) (by show 1 ≤ sizeLine; rw [sizeLine_eq]; omega) fun L H => (.cons ((ro_line (vs := [(.str "S1"), (.str "S2")]) l_KNOWN_5_1_0 (.cons ⟨_, rfl⟩ (.cons ⟨_, rfl⟩ .nil)) (by show 2 ≤ sizeLine; rw [sizeLine_eq]; omega) fun L H => (.cons (.str _) (.cons (.str _) .nil))) L H) .nil)) L H) (.cons ((ro_line (vs := []) l_KNOWN_5_2 .nil (by show 0 ≤ sizeLine; rw [sizeLine_eq]; omega) fun L H => .nil) L H) (.cons ((ro_line (vs := [.ref r_KNOWN_5_3_0, .ref r_KNOWN_5_3_1]) l_KNOWN_5_3 (.cons rfl (.cons rfl .nil)) (by show 2 ≤ sizeLine; rw [sizeLine_eq]; omega) fun L H => (.cons ((ro_line (vs := [(.str "at once"), (.str "alike")]) l_KNOWN_5_3_0 (.cons ⟨_, rfl⟩ (.cons ⟨_, rfl⟩ .nil)) (by show 2 ≤ sizeLine; rw [sizeLine_eq]; omega) fun L H => (.cons (.str _) (.cons (.str _) .nil))) L H) (.cons ((ro_line (vs := [(.str "at once"), (.str "anew")]) l_KNOWN_5_3_1 (.cons ⟨_, rfl⟩ (.cons ⟨_, rfl⟩ .nil)) (by show 2 ≤ sizeLine; rw [sizeLine_eq]; omega) fun L H => (.cons (.str _) (.cons (.str _) .nil))) L H) .nil))) L H) .nil))))) L H) (.cons ((ro_line (vs := [(.str "sum and colours"), .ref r_KNOWN_6_1, .ref r_KNOWN_6_2, .ref r_KNOWN_6_3]) l_KNOWN_6 (.cons ⟨_, rfl⟩ (.cons rfl (.cons rfl (.cons rfl .nil)))) (by show 4 ≤ sizeLine; rw [sizeLine_eq]; omega) fun L H => (.cons (.str _) (.cons ((ro_line (vs := [.ref r_KNOWN_6_1_0]) l_KNOWN_6_1 (.cons rfl .nil) (by show 1 ≤ sizeLine; rw [sizeLine_eq]; omega) fun L H => (.cons ((ro_line (vs := [(.str "G2"), (.str "S2")]) l_KNOWN_6_1_0 (.cons ⟨_, rfl⟩ (.cons ⟨_, rfl⟩ .nil)) (by show 2 ≤ sizeLine; rw [sizeLine_eq]; omega) fun L H => (.cons (.str _) (.cons (.str _) .nil))) L H) .nil)) L H) (.cons ((ro_line (vs := [(.str "got higher"), (.str "got lower")]) l_KNOWN_6_2 (.cons ⟨_, rfl⟩ (.cons ⟨_, rfl⟩ .nil)) (by show 2 ≤ sizeLine; rw [sizeLine_eq]; omega) fun L H => (.cons (.str _) (.cons (.str _) .nil))) L H) (.cons ((ro_line (vs := [.ref r_KNOWN_6_3_0, .ref r_KNOWN_6_3_1, .ref r_KNOWN_6_3_2, .ref r_KNOWN_6_3_3]) l_KNOWN_6_3 (.cons rfl (.cons rfl (.cons rfl (.cons rfl .nil)))) (by show 4 ≤ sizeLine; rw [sizeLine_eq]; omega) fun L H => (.cons ((ro_line (vs := [(.str "at once"), (.str "alike")]) l_KNOWN_6_3_0 (.cons ⟨_, rfl⟩ (.cons ⟨_, rfl⟩ .nil)) (by show 2 ≤ sizeLine; rw [sizeLine_eq]; omega) fun L H => (.cons (.str _) (.cons (.str _) .nil))) L H) (.cons ((ro_line (vs := [(.str "at once"), (.str "anew")]) l_KNOWN_6_3_1 (.cons ⟨_, rfl⟩ (.cons ⟨_, rfl⟩ .nil)) (by show 2 ≤ sizeLine; rw [sizeLine_eq]; omega) fun L H => (.cons (.str _) (.cons (.str _) .nil))) L H) (.cons ((ro_line (vs := [(.str "slow"), (.str "alike")]) l_KNOWN_6_3_2 (.cons ⟨_, rfl⟩ (.cons ⟨_, rfl⟩ .nil)) (by show 2 ≤ sizeLine; rw [sizeLine_eq]; omega) fun L H => (.cons (.str _) (.cons (.str _) .nil))) L H) (.cons ((ro_line (vs := [(.str "slow"), (.str "anew")]) l_KNOWN_6_3_3 (.cons ⟨_, rfl⟩ (.cons ⟨_, rfl⟩ .nil)) (by show 2 ≤ sizeLine; rw [sizeLine_eq]; omega) fun L H => (.cons (.str _) (.cons (.str _) .nil))) L H) .nil))))) L H) .nil))))) L H) .nil))))))),
    u_MAX_MACHINES := _, v_MAX_MACHINES := (.int 6), rv_MAX_MACHINES := ⟨_, rfl⟩, m_MAX_MACHINES := PySem.W.mg_of X G a_MAX_MACHINES, r_MAX_MACHINES := fun _ _ => .int _,
    a_NOTES := r_NOTES, m_NOTES := PySem.W.mg_of X G a_NOTES, r_NOTES := ro_line (vs := [(.str "got higher"), (.str "got lower"), (.str "sent higher"), (.str "sent lower")]) l_NOTES (.cons ⟨_, rfl⟩ (.cons ⟨_, rfl⟩ (.cons ⟨_, rfl⟩ (.cons ⟨_, rfl⟩ .nil)))) (by show 4 ≤ sizeLine; rw [sizeLine_eq]; omega) fun L H => (.cons (.str _) (.cons (.str _) (.cons (.str _) (.cons (.str _) .nil)))),
    u_NO_TESTS := _, v_NO_TESTS := (.str "tests none"), rv_NO_TESTS := ⟨_, rfl⟩, m_NO_TESTS := PySem.W.mg_of X G a_NO_TESTS, r_NO_TESTS := fun _ _ => .str _,
    a_ROADS := r_ROADS, m_ROADS := PySem.W.mg_of X G a_ROADS, r_ROADS := ro_line (vs := [(.str "slow"), (.str "at once")]) l_ROADS (.cons ⟨_, rfl⟩ (.cons ⟨_, rfl⟩ .nil)) (by show 2 ≤ sizeLine; rw [sizeLine_eq]; omega) fun L H => (.cons (.str _) (.cons (.str _) .nil)),
    a_TESTS := r_TESTS, m_TESTS := PySem.W.mg_of X G a_TESTS, r_TESTS := ro_line (vs := [.ref r_TESTS_0, .ref r_TESTS_1, .ref r_TESTS_2, .ref r_TESTS_3, .ref r_TESTS_4, .ref r_TESTS_5]) l_TESTS (.cons rfl (.cons rfl (.cons rfl (.cons rfl (.cons rfl (.cons rfl .nil)))))) (by show 6 ≤ sizeLine; rw [sizeLine_eq]; omega) fun L H => (.cons ((ro_line (vs := [(.str "G1"), (.str "G2")]) l_TESTS_0 (.cons ⟨_, rfl⟩ (.cons ⟨_, rfl⟩ .nil)) (by show 2 ≤ sizeLine; rw [sizeLine_eq]; omega) fun L H => (.cons (.str _) (.cons (.str _) .nil))) L H) (.cons ((ro_line (vs := [(.str "G1"), (.str "S1")]) l_TESTS_1 (.cons ⟨_, rfl⟩ (.cons ⟨_, rfl⟩ .nil)) (by show 2 ≤ sizeLine; rw [sizeLine_eq]; omega) fun L H => (.cons (.str _) (.cons (.str _) .nil))) L H) (.cons ((ro_line (vs := [(.str "G1"), (.str "S2")]) l_TESTS_2 (.cons ⟨_, rfl⟩ (.cons ⟨_, rfl⟩ .nil)) (by show 2 ≤ sizeLine; rw [sizeLine_eq]; omega) fun L H => (.cons (.str _) (.cons (.str _) .nil))) L H) (.cons ((ro_line (vs := [(.str "G2"), (.str "S1")]) l_TESTS_3 (.cons ⟨_, rfl⟩ (.cons ⟨_, rfl⟩ .nil)) (by show 2 ≤ sizeLine; rw [sizeLine_eq]; omega) fun L H => (.cons (.str _) (.cons (.str _) .nil))) L H) (.cons ((ro_line (vs := [(.str "G2"), (.str "S2")]) l_TESTS_4 (.cons ⟨_, rfl⟩ (.cons ⟨_, rfl⟩ .nil)) (by show 2 ≤ sizeLine; rw [sizeLine_eq]; omega) fun L H => (.cons (.str _) (.cons (.str _) .nil))) L H) (.cons ((ro_line (vs := [(.str "S1"), (.str "S2")]) l_TESTS_5 (.cons ⟨_, rfl⟩ (.cons ⟨_, rfl⟩ .nil)) (by show 2 ≤ sizeLine; rw [sizeLine_eq]; omega) fun L H => (.cons (.str _) (.cons (.str _) .nil))) L H) .nil)))))),
    u_TESTS_HEAD := _, v_TESTS_HEAD := (.str "tests "), rv_TESTS_HEAD := ⟨_, rfl⟩, m_TESTS_HEAD := PySem.W.mg_of X G a_TESTS_HEAD, r_TESTS_HEAD := fun _ _ => .str _,
    a_TOURS := r_TOURS, m_TOURS := PySem.W.mg_of X G a_TOURS, r_TOURS := ro_line (vs := [(.str "alike"), (.str "anew")]) l_TOURS (.cons ⟨_, rfl⟩ (.cons ⟨_, rfl⟩ .nil)) (by show 2 ≤ sizeLine; rw [sizeLine_eq]; omega) fun L H => (.cons (.str _) (.cons (.str _) .nil)),
    u_WAITS := _, v_WAITS := (.str "waits"), rv_WAITS := ⟨_, rfl⟩, m_WAITS := PySem.W.mg_of X G a_WAITS, r_WAITS := fun _ _ => .str _,
    a_BadBook := C_BadBook, m_BadBook := PySem.W.mg_of X G a_BadBook,
    a_BadText := C_BadText, m_BadText := PySem.W.mg_of X G a_BadText,
    a_Unfit := C_Unfit, m_Unfit := PySem.W.mg_of X G a_Unfit,
    cm_BadBook := if_pos rfl, ic_BadBook := ⟨cl_BadBook, ga_BadBook, gt_BadBook, sb_BadBook, cc_BadBook, nn_, tk_, mo_BadBook⟩,
    fI_BadBook := fI_BadBook, fdI_BadBook := _, FI_BadBook := fun_mk (st := s_init_BadBook) lI_BadBook cI_BadBook kI_BadBook, ox_BadBook := ⟨⟨_, _, _, _, _, _, _, _, _, _, _, _, _, _, _, x_BadBook, by rfl⟩, sa_BadBook, sb_BadBook, ty_BadBook, kp_BadBook⟩, no_BadBook := no_BadBook, in_BadBook := in_BadBook, it_BadBook := it_BadBook, xf_BadBook := ⟨ga_BadBook, gt_BadBook, sb_BadBook, hd_BadBook⟩,
    cm_BadText := (if_neg (by decide +kernel)).trans (if_pos rfl), ic_BadText := ⟨cl_BadText, ga_BadText, gt_BadText, sb_BadText, cc_BadText, nn_, tk_, mo_BadText⟩,
    fI_BadText := fI_BadText, fdI_BadText := _, FI_BadText := fun_mk (st := s_init_BadText) lI_BadText cI_BadText kI_BadText, ox_BadText := ⟨⟨_, _, _, _, _, _, _, _, _, _, _, _, _, _, _, x_BadText, by rfl⟩, sa_BadText, sb_BadText, ty_BadText, kp_BadText⟩, no_BadText := no_BadText, in_BadText := in_BadText, it_BadText := it_BadText, xf_BadText := ⟨ga_BadText, gt_BadText, sb_BadText, hd_BadText⟩,
    cm_Unfit := (if_neg (by decide +kernel)).trans ((if_neg (by decide +kernel)).trans (if_pos rfl)), ic_Unfit := ⟨cl_Unfit, ga_Unfit, gt_Unfit, sb_Unfit, cc_Unfit, nn_, tk_, mo_Unfit⟩,
    ex_Unfit := ex_Unfit, k_Unfit := kp_Unfit, sb_Unfit := sb_Unfit, ty_Unfit := ty_Unfit,
    su_BadBook := su_BadBook,
    su_BadText := su_BadText,
    su_Unfit := su_Unfit }
  exact ⟨PySem.W.fnOf "law" "law" (defArgs s_law) (defBody s_law) (defScope s_law) .none kV_law dc_law pm_law an_law cd_law ct_law, cmf, fun s v => .of_eq rfl, fun base _ => ok_law T⟩
end K08

open PySem PySem.W PyProof.Rows in
set_option maxRecDepth 100000 in
set_option maxHeartbeats 0 in
theorem PySem.Challenge.cw_stillrounds_k08_books_by_names_holds : PySem.Challenge.rw_stillrounds_k08_books_by_names.Holds := by
  w_on; o_law; k_head; (case hw => w_witness2)
  k_fill
  refine Den.walk_den (l := PySem.Challenge.rw_stillrounds_k08_books_by_names) (n := 63) (k := 8) (x := "script") (F0 := K08.F_law) rfl (by decide) rfl ⟨rfl, by decide, by decide⟩ (fun w h Y => PySem.W.kIn_of Y) ?F K08.holds
  case F =>
    intro w mg fa h KX G hmg
    refine' K08.all_mk KX G hmg ?q0 ?q1 ?q2 ?q3 ?q4 ?q5 ?q6 ?q7 ?q8 ?q9 ?q10 ?q11 ?q12 ?q13 ?q14 ?q15 ?q16 ?q17 ?q18 ?q19 ?q20 ?q21 ?q22 ?q23 ?q24 ?q25 ?q26 ?q27 ?q28 ?q29 ?q30 ?q31 ?q32 ?q33 ?q34 ?q35 ?q36 ?q37 ?q38 ?q39 ?q40 ?q41 ?q42 ?q43 ?q44 ?q45 ?q46 ?q47 ?q48 ?q49 ?q50 ?q51 ?q52 ?q53 ?q54 ?q55 ?q56 ?q57 ?q58 ?q59 ?q60 ?q61 ?q62 ?q63 ?q64 ?q65 ?q66 ?q67 ?q68 ?q69 ?q70 ?q71 ?q72 ?q73 ?q74 ?q75 ?q76 ?q77 ?q78 ?q79 ?q80 ?q81 ?q82 ?q83 ?q84 ?q85 ?q86 ?q87 ?q88 ?q89 ?q90 ?q91 ?q92 ?q93 ?q94 ?q95 ?q96 ?q97 ?q98 ?q99 ?q100 ?q101 ?q102 ?q103 ?q104 ?q105 ?q106 ?q107 ?q108 ?q109 ?q110 ?q111 ?q112 ?q113 ?q114 ?q115 ?q116 ?q117 ?q118 ?q119 ?q120 ?q121 ?q122 ?q123 ?q124 ?q125 ?q126 ?q127 ?q128 ?q129 ?q130 ?q131 ?q132 ?q133 ?q134 ?q135 ?q136 ?q137 ?q138 ?q139 ?q140 ?q141 ?q142 ?q143 ?q144 ?q145 ?q146 ?q147 ?q148 ?q149 ?q150 ?q151 ?q152 ?q153 ?q154 ?q155 ?q156 ?q157 ?q158 ?q159 ?q160 ?q161 ?q162 ?q163 ?q164 ?q165 ?q166 ?q167 ?q168 ?q169 ?q170 ?q171 ?q172 ?q173 ?q174 ?q175 ?q176 ?q177 ?q178 ?q179 ?q180 ?q181 ?q182 ?q183 ?q184 ?q185 ?q186 ?q187 ?q188 ?q189 ?q190 ?q191 ?q192 ?q193 ?q194 ?q195 ?q196 ?q197 ?q198 ?q199 ?q200 ?q201 ?q202 ?q203 ?q204 ?q205 ?q206 ?q207 ?q208 ?q209 ?q210 ?q211 ?q212 ?q213 ?q214 ?q215 ?q216 ?q217 ?q218 ?q219 ?q220 ?q221 ?q222 ?q223 ?q224 ?q225 ?q226 ?q227 ?q228 ?q229 ?q230 ?q231 ?q232 ?q233 ?q234 ?q235 ?q236 ?q237 ?q238 ?q239 ?q240 ?q241 ?q242 ?q243 ?q244 ?q245 ?q246 ?q247 ?q248 ?q249 ?q250 ?q251 ?q252 ?q253 ?q254 ?q255 ?q256 ?q257 ?q258 ?q259 ?q260 ?q261 ?q262 ?q263 ?q264 ?q265 ?q266 ?q267 ?q268 ?q269 ?q270 ?q271 ?q272 ?q273 ?q274 ?q275 ?q276 ?q277 ?q278 ?q279 ?q280 ?q281 ?q282 ?q283 ?q284
    (case q0 => k_is)
    (case q1 => k_is)
    (case q2 => k_is)
    (case q3 => k_is)
    (case q4 => k_is)
    (case q5 => k_is)
    (case q6 => k_is)
    (case q7 => k_is)
    (case q8 => k_is)
    (case q9 => k_is)
    (case q10 => k_is)
    (case q11 => k_is)
    (case q12 => k_is)
    (case q13 => k_is)
    (case q14 => k_is)
    (case q15 => k_is)
    (case q16 => k_is)
    (case q17 => k_is)
    (case q18 => k_is)
    (case q19 => k_is)
    (case q20 => k_is)
    (case q21 => k_is)
    (case q22 => k_is)
    (case q23 => k_is)
    (case q24 => k_is)
    (case q25 => k_is)
    (case q26 => k_is)
    (case q27 => k_is)
    (case q28 => k_is)
    (case q29 => k_is)
    (case q30 => k_is)
    (case q31 => k_is)
    (case q32 => k_is)
    (case q33 => k_is)
    (case q34 => k_is)
    (case q35 => k_is)
    (case q36 => k_is)
    (case q37 => k_is)
    (case q38 => k_is)
    (case q39 => k_is)
    (case q40 => k_is)
    (case q41 => k_is)
    (case q42 => k_is)
    (case q43 => k_is)
    (case q44 => k_is)
    (case q45 => k_is)
    (case q46 => k_is)
    (case q47 => k_is)
    (case q48 => k_is)
    (case q49 => k_is)
    (case q50 => k_is)
    (case q51 => k_is)
    (case q52 => k_is)
    (case q53 => k_is)
    (case q54 => k_is)
    (case q55 => k_is)
    (case q56 => k_is)
    (case q57 => k_is)
    (case q58 => k_is)
    (case q59 => k_is)
    (case q60 => k_is)
    (case q61 => k_is)
    (case q62 => k_is)
    (case q63 => k_is)
    (case q64 => k_is)
    (case q65 => k_is)
    (case q66 => k_is)
    (case q67 => k_is)
    (case q68 => k_is)
    (case q69 => k_is)
    (case q70 => k_is)
    (case q71 => k_is)
    (case q72 => k_is)
    (case q73 => k_is)
    (case q74 => k_is)
    (case q75 => k_is)
    (case q76 => k_is)
    (case q77 => k_is)
    (case q78 => k_is)
    (case q79 => k_is)
    (case q80 => k_is)
    (case q81 => k_is)
    (case q82 => k_is)
    (case q83 => k_is)
    (case q84 => k_is)
    (case q85 => k_is)
    (case q86 => k_is)
    (case q87 => k_is)
    (case q88 => k_is)
    (case q89 => k_is)
    (case q90 => k_is)
    (case q91 => k_is)
    (case q92 => k_is)
    (case q93 => k_is)
    (case q94 => k_is)
    (case q95 => k_is)
    (case q96 => k_is)
    (case q97 => k_is)
    (case q98 => k_is)
    (case q99 => k_is)
    (case q100 => k_is)
    (case q101 => k_is)
    (case q102 => k_is)
    (case q103 => k_is)
    (case q104 => k_is)
    (case q105 => k_is)
    (case q106 => k_is)
    (case q107 => k_is)
    (case q108 => k_is)
    (case q109 => k_is)
    (case q110 => k_is)
    (case q111 => k_is)
    (case q112 => k_is)
    (case q113 => k_is)
    (case q114 => k_is)
    (case q115 => k_is)
    (case q116 => k_is)
    (case q117 => k_is)
    (case q118 => k_is)
    (case q119 => k_is)
    (case q120 => k_is)
    (case q121 => k_is)
    (case q122 => k_is)
    (case q123 => k_is)
    (case q124 => k_is)
    (case q125 => k_is)
    (case q126 => k_is)
    (case q127 => k_is)
    (case q128 => k_is)
    (case q129 => k_is)
    (case q130 => k_is)
    (case q131 => k_is)
    (case q132 => k_is)
    (case q133 => k_is)
    (case q134 => k_is)
    (case q135 => k_is)
    (case q136 => k_is)
    (case q137 => k_is)
    (case q138 => k_is)
    (case q139 => k_is)
    (case q140 => k_is)
    (case q141 => k_is)
    (case q142 => k_is)
    (case q143 => k_is)
    (case q144 => k_is)
    (case q145 => k_is)
    (case q146 => k_is)
    (case q147 => k_is)
    (case q148 => k_is)
    (case q149 => k_is)
    (case q150 => k_is)
    (case q151 => k_is)
    (case q152 => k_is)
    (case q153 => k_is)
    (case q154 => k_is)
    (case q155 => k_is)
    (case q156 => k_is)
    (case q157 => k_is)
    (case q158 => k_is)
    (case q159 => k_is)
    (case q160 => k_is)
    (case q161 => k_is)
    (case q162 => k_is)
    (case q163 => k_is)
    (case q164 => k_is)
    (case q165 => k_is)
    (case q166 => k_is)
    (case q167 => k_is)
    (case q168 => k_is)
    (case q169 => k_is)
    (case q170 => k_is)
    (case q171 => k_is)
    (case q172 => k_is)
    (case q173 => k_is)
    (case q174 => k_is)
    (case q175 => k_is)
    (case q176 => k_is)
    (case q177 => k_is)
    (case q178 => k_is)
    (case q179 => k_is)
    (case q180 => k_is)
    (case q181 => k_is)
    (case q182 => k_is)
    (case q183 => k_is)
    (case q184 => k_is)
    (case q185 => k_is)
    (case q186 => k_is)
    (case q187 => k_is)
    (case q188 => k_is)
    (case q189 => k_is)
    (case q190 => k_is)
    (case q191 => k_is)
    (case q192 => k_is)
    (case q193 => k_is)
    (case q194 => k_is)
    (case q195 => k_is)
    (case q196 => k_is)
    (case q197 => k_is)
    (case q198 => k_is)
    (case q199 => k_is)
    (case q200 => k_is)
    (case q201 => k_is)
    (case q202 => k_is)
    (case q203 => k_is)
    (case q204 => k_is)
    (case q205 => k_is)
    (case q206 => k_is)
    (case q207 => k_is)
    (case q208 => k_is)
    (case q209 => k_is)
    (case q210 => k_is)
    (case q211 => k_is)
    (case q212 => k_is)
    (case q213 => k_is)
    (case q214 => k_is)
    (case q215 => k_is)
    (case q216 => k_is)
    (case q217 => k_is)
    (case q218 => k_is)
    (case q219 => k_is)
    (case q220 => k_is)
    (case q221 => k_is)
    (case q222 => k_is)
    (case q223 => k_is)
    (case q224 => k_is)
    (case q225 => k_is)
    (case q226 => k_is)
    (case q227 => k_is)
    (case q228 => k_is)
    (case q229 => k_is)
    (case q230 => k_is)
    (case q231 => k_is)
    (case q232 => k_is)
    (case q233 => k_is)
    (case q234 => k_is)
    (case q235 => k_is)
    (case q236 => k_is)
    (case q237 => k_is)
    (case q238 => k_is)
    (case q239 => k_is)
    (case q240 => k_is)
    (case q241 => k_is)
    (case q242 => k_is)
    (case q243 => k_is)
    (case q244 => k_is)
    (case q245 => k_is)
    (case q246 => k_is)
    (case q247 => k_is)
    (case q248 => k_is)
    (case q249 => k_is)
    (case q250 => k_is)
    (case q251 => k_is)
    (case q252 => k_is)
    (case q253 => k_is)
    (case q254 => k_is)
    (case q255 => k_is)
    (case q256 => k_is)
    (case q257 => k_is)
    (case q258 => k_is)
    (case q259 => k_is)
    (case q260 => k_is)
    (case q261 => k_is)
    (case q262 => k_is)
    (case q263 => k_is)
    (case q264 => k_is)
    (case q265 => k_is)
    (case q266 => k_is)
    (case q267 => k_is)
    (case q268 => k_is)
    (case q269 => k_is)
    (case q270 => k_is)
    (case q271 => k_is)
    (case q272 => k_is)
    (case q273 => k_is)
    (case q274 => k_is)
    (case q275 => k_is)
    (case q276 => k_is)
    (case q277 => k_is)
    (case q278 => k_is)
    (case q279 => k_is)
    (case q280 => k_is)
    (case q281 => k_is)
    (case q282 => k_is)
    (case q283 => k_is)
    (case q284 => k_exc)
#print axioms PySem.Challenge.cw_stillrounds_k08_books_by_names_holds

