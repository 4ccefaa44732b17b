import PyProof.Rows.All
import Wide.All
import OpenK.AllK
import Wide.FinOn
import HandS.ForMost
import HandS.ForExc
import HandS.ExcInit
import HandS.ExcField
import HandS.ExcIs
import HandS.IsInst
import HandS.TupAny
import HandS.Deep
import HandS.Conv
import HandS.Text
import HandS.Iter
import HandS.Style
import HandS.WordsExc
import KE.KExcIs
import HandS.RaiseMore
import HandS.TupMul
import HandS.More
import HandS.List
import KE.GoesEnumKw
import KE.GoesMore
import PyProof.StrLawsIn
import HandS.Zip
import KE.DataCmp
import KE.SortData
import HandS.WideBits
import PyProof.Rows.StrPartPair
import PyProof.Rows.StrLawsPart
import PySem.Challenge.RW_stillrounds_k05_whole_spoilt_texts_of_bo
set_option Elab.async false
set_option linter.all false
set_option maxRecDepth 100000
set_option maxHeartbeats 4000000
/-! Den: plain values and plain heaps beside the machine's own; a program's parts as plain functions over them. -/
namespace Den
open PySem L2

/-! ### 1. values, objects, states, results: nothing of the machine -/
inductive D where
  | non | bl (b : Bool) | int (i : Int) | str (x : Str) | tup (xs : List D) | ro (xs : List D) | ref (n : Nat) | ty (n : String) | cls (n : Str)
  deriving Inhabited
inductive Ob where
  | lst (xs : List D) | dct (kvs : List (Key × D)) | fdct (kvs : List (Key × D))
structure DS where
  loc : List (Option D)
  h : List Ob
structure Xn where
  cls : Str
  fs : List (Str × D)
inductive Res (α : Type) where
  | ok (a : α) (S : DS) | exc (e : Xn) (S : DS) | stuck
inductive Fl where
  | next | ret (d : D) | brk | cont
namespace Res
def bind {α β : Type} (r : Res α) (k : α → DS → Res β) : Res β := match r with
  | .ok a S => k a S
  | .exc e S => .exc e S
  | .stuck => .stuck
def map {α β : Type} (f : α → β) (r : Res α) : Res β := r.bind fun a S => .ok (f a) S
@[simp] theorem bind_ok {α β : Type} (a : α) (S : DS) (k : α → DS → Res β) : (Res.ok a S).bind k = k a S := rfl
@[simp] theorem bind_exc {α β : Type} (e : Xn) (S : DS) (k : α → DS → Res β) : (Res.exc e S : Res α).bind k = .exc e S := rfl
@[simp] theorem bind_stuck {α β : Type} (k : α → DS → Res β) : (Res.stuck : Res α).bind k = .stuck := rfl
end Res
abbrev DE := DS → Res D
abbrev DT := DS → Res Bool
abbrev DA := DS → Res (List D)
abbrev DSt := DS → Res Fl
/-- a def: its arguments, the objects; what it gives, with the objects behind it -/
abbrev Fn := List D → List Ob → Res D

/-! ### 2. how they stand in the machine -/
section
variable (K : PySem.W.Frag) (cm : Str → Value)
/-- a list that nobody writes -/
def SqR (H : Hp) (a : Addr) (xs : List V) : Prop :=
  (∃ o, H a = some (.frz o (.lst xs))) ∨
    ∃ (o : Obj) (its : Array Value) (n : Nat), K.lookup a = some o ∧ o.cls = .type "list" ∧ o.dict = none ∧ o.data = .seq its n ∧ its.size ≤ sizeLine ∧ Vals xs its.toList
mutual
inductive Rep (L : List Addr) (H : Hp) : D → V → Prop
  | non : Rep L H .non .non
  | bl (b : Bool) : Rep L H (.bl b) (.bl b)
  | int (i : Int) : Rep L H (.int i) (.int i)
  | str (x : Str) : Rep L H (.str x) (.str x)
  | ty (n : String) : Rep L H (.ty n) (.ty n)
  | cls {n : Str} {a : Addr} : cm n = .ref a → Rep L H (.cls n) (.ref a)
  | tup {xs : List D} {vs : List V} {a : Addr} : SqT K H a vs → Reps L H xs vs → Rep L H (.tup xs) (.ref a)
  | ro {xs : List D} {vs : List V} {a : Addr} : SqR K H a vs → Reps L H xs vs → Rep L H (.ro xs) (.ref a)
  | ref {n : Nat} {a : Addr} : L[n]? = some a → Rep L H (.ref n) (.ref a)
inductive Reps (L : List Addr) (H : Hp) : List D → List V → Prop
  | nil : Reps L H [] []
  | cons {d : D} {ds : List D} {v : V} {vs : List V} : Rep L H d v → Reps L H ds vs → Reps L H (d :: ds) (v :: vs)
end
/-- a dict's entries -/
inductive RepK (L : List Addr) (H : Hp) : List (Key × D) → List (Key × V) → Prop
  | nil : RepK L H [] []
  | cons {k : Key} {d : D} {v : V} {ds : List (Key × D)} {vs : List (Key × V)} : Rep K cm L H d v → RepK L H ds vs → RepK L H ((k, d) :: ds) ((k, v) :: vs)
def ObR (L : List Addr) (H : Hp) (a : Addr) : Ob → Prop
  | .lst ds => ∃ vs, H a = some (.lst vs) ∧ Reps K cm L H ds vs
  | .dct ds => ∃ vs, H a = some (.dK vs) ∧ RepK K cm L H ds vs
  | .fdct ds => ∃ o vs, H a = some (.frz o (.dK vs)) ∧ RepK K cm L H ds vs
structure HAb (L : List Addr) (H : Hp) (h : List Ob) : Prop where
  nd : L.Nodup
  len : L.length = h.length
  obs : ∀ (n : Nat) (ob : Ob) (a : Addr), h[n]? = some ob → L[n]? = some a → ObR K cm L H a ob
def LocR (L : List Addr) (H : Hp) (ls : List (Option D)) (σ : St) : Prop :=
  ls.length = σ.length ∧ ∀ (i : Nat) (d : D), ls[i]? = some (some d) → ∃ v, σ[i]? = some (some v) ∧ Rep K cm L H d v
structure AbS (L : List Addr) (H : Hp) (S : DS) (σ : St) : Prop where
  hp : HAb K cm L H S.h
  loc : LocR K cm L H S.loc σ
/-- the heap has gone on -/
structure Ext (L : List Addr) (H : Hp) (L' : List Addr) (H' : Hp) : Prop where
  pre : ∃ M, L' = L ++ M ∧ ∀ a ∈ M, H a = none
  tup : ∀ a vs, SqT K H a vs → SqT K H' a vs
  rol : ∀ a vs, SqR K H a vs → SqR K H' a vs
  oth : ∀ a o, a ∉ L → H a = some o → H' a = some o
  thr : ∀ a o, H a = some o → ∃ o', H' a = some o'
  frz : ∀ a o u, H a = some (.frz o u) → H' a = some (.frz o u)
/-- an exception: its class, its own dict -/
def XnR (L : List Addr) (H : Hp) (e : Xn) (c : Value) (dx : Option Addr) : Prop :=
  c = cm e.cls ∧ ((e.fs = [] ∧ dx = none) ∨ ∃ d vs, dx = some d ∧ H d = some (.xd vs) ∧ ∀ f x, e.fs.lookup f = some x → ∃ v, vs.lookup f = some v ∧ Rep K cm L H x v)
end

section
variable {K : PySem.W.Frag} {cm : Str → Value} {L L' L1 L2' : List Addr} {H H' H1 H2 : Hp} {S S' : DS} {σ : St}
theorem Ext.refl : Ext K L H L H := ⟨⟨[], by simp, by simp⟩, fun _ _ h => h, fun _ _ h => h, fun _ _ _ h => h, fun _ o h => ⟨o, h⟩, fun _ _ _ h => h⟩
theorem Ext.trans (a : Ext K L H L1 H1) (b : Ext K L1 H1 L' H') : Ext K L H L' H' := by
  obtain ⟨M1, e1, n1⟩ := a.pre
  obtain ⟨M2, e2, n2⟩ := b.pre
  have nn : ∀ x, H1 x = none → H x = none := fun x q => by
    cases z : H x with
    | none => rfl
    | some o =>
      obtain ⟨o', z'⟩ := a.thr x o z
      rw [q] at z'; cases z'
  refine ⟨⟨M1 ++ M2, by rw [e2, e1, List.append_assoc], fun x hx => ?_⟩, fun x vs h => b.tup x vs (a.tup x vs h), fun x vs h => b.rol x vs (a.rol x vs h), fun x o hx h => ?_, fun x o h => ?_, fun x o u h => b.frz x o u (a.frz x o u h)⟩
  · rcases List.mem_append.mp hx with q | q
    · exact n1 x q
    · exact nn x (n2 x q)
  · refine b.oth x o (fun q => ?_) (a.oth x o hx h)
    rw [e1] at q
    rcases List.mem_append.mp q with q | q
    · exact hx q
    · rw [n1 x q] at h; cases h
  · obtain ⟨o1, h1⟩ := a.thr x o h
    exact b.thr x o1 h1
theorem Ext.ix (a : Ext K L H L' H') {n : Nat} {x : Addr} (h : L[n]? = some x) : L'[n]? = some x := by
  obtain ⟨M, e, _⟩ := a.pre
  rw [e, List.getElem?_append_left (List.getElem?_eq_some_iff.mp h).1]
  exact h
/-- what values lean on -/
structure ExtW (K : PySem.W.Frag) (L : List Addr) (H : Hp) (L' : List Addr) (H' : Hp) : Prop where
  pre : ∃ M, L' = L ++ M
  tup : ∀ a vs, SqT K H a vs → SqT K H' a vs
  rol : ∀ a vs, SqR K H a vs → SqR K H' a vs
theorem Ext.w (e : Ext K L H L' H') : ExtW K L H L' H' := ⟨let ⟨M, q, _⟩ := e.pre; ⟨M, q⟩, e.tup, e.rol⟩
theorem ExtW.ix (a : ExtW K L H L' H') {n : Nat} {x : Addr} (h : L[n]? = some x) : L'[n]? = some x := by
  obtain ⟨M, e⟩ := a.pre
  rw [e, List.getElem?_append_left (List.getElem?_eq_some_iff.mp h).1]
  exact h
mutual
theorem Rep.monoW (e : ExtW K L H L' H') : ∀ {d : D} {v : V}, Rep K cm L H d v → Rep K cm L' H' d v
  | _, _, .non => .non
  | _, _, .bl b => .bl b
  | _, _, .int i => .int i
  | _, _, .str x => .str x
  | _, _, .ty n => .ty n
  | _, _, .cls h => .cls h
  | _, _, .tup h r => .tup (e.tup _ _ h) (Reps.monoW e r)
  | _, _, .ro h r => .ro (e.rol _ _ h) (Reps.monoW e r)
  | _, _, .ref h => .ref (e.ix h)
theorem Reps.monoW (e : ExtW K L H L' H') : ∀ {ds : List D} {vs : List V}, Reps K cm L H ds vs → Reps K cm L' H' ds vs
  | _, _, .nil => .nil
  | _, _, .cons r t => .cons (Rep.monoW e r) (Reps.monoW e t)
end
theorem RepK.monoW (e : ExtW K L H L' H') : ∀ {ds : List (Key × D)} {vs : List (Key × V)}, RepK K cm L H ds vs → RepK K cm L' H' ds vs
  | _, _, .nil => .nil
  | _, _, .cons r t => .cons (r.monoW e) (RepK.monoW e t)
theorem LocR.monoW {ls : List (Option D)} (e : ExtW K L H L' H') (h : LocR K cm L H ls σ) : LocR K cm L' H' ls σ :=
  ⟨h.1, fun i d q => let ⟨v, a, r⟩ := h.2 i d q; ⟨v, a, r.monoW e⟩⟩
mutual
theorem Rep.mono (e : Ext K L H L' H') : ∀ {d : D} {v : V}, Rep K cm L H d v → Rep K cm L' H' d v
  | _, _, .non => .non
  | _, _, .bl b => .bl b
  | _, _, .int i => .int i
  | _, _, .str x => .str x
  | _, _, .ty n => .ty n
  | _, _, .cls h => .cls h
  | _, _, .tup h r => .tup (e.tup _ _ h) (Reps.mono e r)
  | _, _, .ro h r => .ro (e.rol _ _ h) (Reps.mono e r)
  | _, _, .ref h => .ref (e.ix h)
theorem Reps.mono (e : Ext K L H L' H') : ∀ {ds : List D} {vs : List V}, Reps K cm L H ds vs → Reps K cm L' H' ds vs
  | _, _, .nil => .nil
  | _, _, .cons r t => .cons (Rep.mono e r) (Reps.mono e t)
end
theorem RepK.mono (e : Ext K L H L' H') : ∀ {ds : List (Key × D)} {vs : List (Key × V)}, RepK K cm L H ds vs → RepK K cm L' H' ds vs
  | _, _, .nil => .nil
  | _, _, .cons r t => .cons (r.mono e) (RepK.mono e t)
theorem LocR.mono {ls : List (Option D)} (e : Ext K L H L' H') (h : LocR K cm L H ls σ) : LocR K cm L' H' ls σ :=
  ⟨h.1, fun i d q => let ⟨v, a, r⟩ := h.2 i d q; ⟨v, a, r.mono e⟩⟩
theorem Reps.length : ∀ {ds : List D} {vs : List V}, Reps K cm L H ds vs → ds.length = vs.length
  | _, _, .nil => rfl
  | _, _, .cons _ t => by rw [List.length_cons, List.length_cons, Reps.length t]
theorem Reps.get : ∀ {ds : List D} {vs : List V} {i : Nat} {d : D}, Reps K cm L H ds vs → ds[i]? = some d → ∃ v, vs[i]? = some v ∧ Rep K cm L H d v
  | _, _, _, _, .nil, q => by simp at q
  | _, _, 0, _, .cons r _, q => by simp at q; subst q; exact ⟨_, rfl, r⟩
  | _, _, i + 1, _, .cons _ t, q => by
    obtain ⟨v, a, r⟩ := Reps.get (i := i) t (by simpa using q)
    exact ⟨v, by simpa using a, r⟩
theorem Reps.back : ∀ {ds : List D} {vs : List V} {i : Nat} {v : V}, Reps K cm L H ds vs → vs[i]? = some v → ∃ d, ds[i]? = some d ∧ Rep K cm L H d v
  | _, _, _, _, .nil, q => by simp at q
  | _, _, 0, _, .cons r _, q => by simp at q; subst q; exact ⟨_, rfl, r⟩
  | _, _, i + 1, _, .cons _ t, q => by
    obtain ⟨v, a, r⟩ := Reps.back (i := i) t (by simpa using q)
    exact ⟨v, by simpa using a, r⟩
theorem Reps.append : ∀ {ds es : List D} {vs ws : List V}, Reps K cm L H ds vs → Reps K cm L H es ws → Reps K cm L H (ds ++ es) (vs ++ ws)
  | _, _, _, _, .nil, q => q
  | _, _, _, _, .cons r t, q => .cons r (Reps.append t q)
theorem Reps.take : ∀ {ds : List D} {vs : List V} (n : Nat), Reps K cm L H ds vs → Reps K cm L H (ds.take n) (vs.take n)
  | _, _, 0, _ => .nil
  | _, _, _ + 1, .nil => .nil
  | _, _, n + 1, .cons r t => .cons r (Reps.take n t)
theorem Reps.drop : ∀ {ds : List D} {vs : List V} (n : Nat), Reps K cm L H ds vs → Reps K cm L H (ds.drop n) (vs.drop n)
  | _, _, 0, r => r
  | _, _, _ + 1, .nil => .nil
  | _, _, n + 1, .cons _ t => Reps.drop n t
theorem Reps.set {d : D} {v : V} (r : Rep K cm L H d v) : ∀ {ds : List D} {vs : List V} (n : Nat), Reps K cm L H ds vs → Reps K cm L H (ds.set n d) (vs.set n v)
  | _, _, _, .nil => .nil
  | _, _, 0, .cons _ t => .cons r t
  | _, _, n + 1, .cons q t => .cons q (Reps.set r n t)
theorem ints_reps : ∀ ns : List Int, Reps K cm L H (ns.map D.int) (ns.map V.int)
  | [] => .nil
  | n :: ns => .cons (.int n) (ints_reps ns)

/-- what is tracked of ours stands in the heap -/
theorem HAb.there {h : List Ob} (x : HAb K cm L H h) {a : Addr} (ha : a ∈ L) : ∃ o, H a = some o := by
  obtain ⟨n, hn, e⟩ := List.getElem_of_mem ha
  have hl : n < h.length := by rw [← x.len]; exact hn
  have q := x.obs n h[n] a (by simp [hl]) (by rw [List.getElem?_eq_getElem hn, e])
  generalize h[n] = ob at q
  cases ob with
  | lst ds => obtain ⟨vs, e, _⟩ := q; exact ⟨_, e⟩
  | dct ds => obtain ⟨vs, e, _⟩ := q; exact ⟨_, e⟩
  | fdct ds => obtain ⟨o, vs, e, _⟩ := q; exact ⟨_, e⟩
theorem HAb.fresh {h : List Ob} (x : HAb K cm L H h) {p : Addr} (hp : H p = none) : p ∉ L := fun q => by
  obtain ⟨o, e⟩ := x.there q
  rw [hp] at e; cases e
/-- an object beside ours -/
theorem Ext.beside {p : Addr} {o : HO} (hp : H p = none) : Ext K L H L (upd H p o) := by
  have k : ∀ a u, H a = some u → upd H p o a = some u := fun a u e => by rw [upd_ne (ne_of_none e hp)]; exact e
  refine ⟨⟨[], by simp, by simp⟩, fun a vs h => ?_, fun a vs h => ?_, fun a u _ e => k a u e, fun a u e => ⟨u, k a u e⟩, fun a q u e => k a _ e⟩
  · rcases h with (h | ⟨q, h⟩) | h
    · exact .inl (.inl (k _ _ h))
    · exact .inl (.inr ⟨q, k _ _ h⟩)
    · exact .inr h
  · rcases h with ⟨q, h⟩ | h
    · exact .inl ⟨q, k _ _ h⟩
    · exact .inr h
theorem ObR.mono {a : Addr} {ob : Ob} (e : Ext K L H L' H') (ha : ∀ o, H a = some o → H' a = some o) (h : ObR K cm L H a ob) : ObR K cm L' H' a ob := by
  cases ob with
  | lst ds => obtain ⟨vs, q, r⟩ := h; exact ⟨vs, ha _ q, r.mono e⟩
  | dct ds => obtain ⟨vs, q, r⟩ := h; exact ⟨vs, ha _ q, r.mono e⟩
  | fdct ds => obtain ⟨o, vs, q, r⟩ := h; exact ⟨o, vs, ha _ q, r.mono e⟩
theorem HAb.beside {h : List Ob} {p : Addr} {o : HO} (x : HAb K cm L H h) (hp : H p = none) : HAb K cm L (upd H p o) h :=
  ⟨x.nd, x.len, fun n ob a e1 e2 => (x.obs n ob a e1 e2).mono (Ext.beside hp) fun u q => by rw [upd_ne (ne_of_none q hp)]; exact q⟩
theorem AbS.beside {p : Addr} {o : HO} (x : AbS K cm L H S σ) (hp : H p = none) : AbS K cm L (upd H p o) S σ := ⟨x.hp.beside hp, x.loc.mono (Ext.beside hp)⟩
/-- a new object of ours -/
theorem Ext.new {p : Addr} {o : HO} (hp : H p = none) : Ext K L H (L ++ [p]) (upd H p o) := by
  have b : Ext K L H L (upd H p o) := Ext.beside hp
  exact ⟨⟨[p], rfl, fun a ha => by rw [List.mem_singleton.mp ha]; exact hp⟩, b.tup, b.rol, b.oth, b.thr, b.frz⟩
theorem HAb.new {h : List Ob} {p : Addr} {o : HO} {ob : Ob} (x : HAb K cm L H h) (hp : H p = none) (r : ObR K cm (L ++ [p]) (upd H p o) p ob) : HAb K cm (L ++ [p]) (upd H p o) (h ++ [ob]) := by
  have np := x.fresh hp
  refine ⟨?_, by rw [List.length_append, List.length_append, x.len]; rfl, fun n ob' a e1 e2 => ?_⟩
  · rw [List.nodup_append]
    exact ⟨x.nd, by simp, fun a ha b hb => by rw [List.mem_singleton.mp hb]; exact fun z => np (z ▸ ha)⟩
  · by_cases hn : n < h.length
    · rw [List.getElem?_append_left hn] at e1
      rw [List.getElem?_append_left (by rw [x.len]; exact hn)] at e2
      exact (x.obs n ob' a e1 e2).mono (Ext.new hp) fun u q => by rw [upd_ne (ne_of_none q hp)]; exact q
    · rw [List.getElem?_append_right (Nat.le_of_not_lt hn)] at e1
      rw [List.getElem?_append_right (by rw [x.len]; exact Nat.le_of_not_lt hn)] at e2
      have e0 : n - h.length = 0 := by
        cases z : n - h.length with
        | zero => rfl
        | succ m => rw [z] at e1; simp at e1
      rw [x.len, e0] at e2
      rw [e0] at e1
      simp at e1 e2
      subst e1; subst e2
      exact r
theorem AbS.new {p : Addr} {o : HO} {ob : Ob} (x : AbS K cm L H S σ) (hp : H p = none) (r : ObR K cm (L ++ [p]) (upd H p o) p ob) : AbS K cm (L ++ [p]) (upd H p o) { S with h := S.h ++ [ob] } σ :=
  ⟨x.hp.new hp r, x.loc.mono (Ext.new hp)⟩
theorem HAb.newIx {h : List Ob} (x : HAb K cm L H h) {p : Addr} : (L ++ [p])[h.length]? = some p := by
  rw [← x.len, List.getElem?_append_right (Nat.le_refl _)]; simp
theorem ObR.monoW {a : Addr} {ob : Ob} (e : ExtW K L H L' H') (ha : ∀ o, H a = some o → H' a = some o) (h : ObR K cm L H a ob) : ObR K cm L' H' a ob := by
  cases ob with
  | lst ds => obtain ⟨vs, q, r⟩ := h; exact ⟨vs, ha _ q, r.monoW e⟩
  | dct ds => obtain ⟨vs, q, r⟩ := h; exact ⟨vs, ha _ q, r.monoW e⟩
  | fdct ds => obtain ⟨o, vs, q, r⟩ := h; exact ⟨o, vs, ha _ q, r.monoW e⟩
/-- what we write on -/
def Wr (H : Hp) (a : Addr) : Prop := (∃ vs, H a = some (.lst vs)) ∨ ∃ vs, H a = some (.dK vs)
theorem Ext.put {h : List Ob} {n : Nat} {a : Addr} {o : HO} (x : HAb K cm L H h) (ha : L[n]? = some a) (hw : Wr H a) : Ext K L H L (upd H a o) := by
  have hm := List.mem_of_getElem? ha
  have k : ∀ b u, H b = some u → (∀ vs, u ≠ .lst vs) → (∀ vs, u ≠ .dK vs) → upd H a o b = some u := fun b u e h1 h2 => by
    by_cases z : b = a
    · subst z
      rcases hw with ⟨vs, q⟩ | ⟨vs, q⟩
      · rw [q] at e; cases e; exact absurd rfl (h1 vs)
      · rw [q] at e; cases e; exact absurd rfl (h2 vs)
    · rw [upd_ne z]; exact e
  refine ⟨⟨[], by simp, by simp⟩, fun b vs h => ?_, fun b vs h => ?_, fun b u nb e => ?_, fun b u e => ?_, fun b q u e => k _ _ e (fun _ z => nomatch z) fun _ z => nomatch z⟩
  · rcases h with (h | ⟨q, h⟩) | h
    · exact .inl (.inl (k _ _ h (fun _ z => nomatch z) fun _ z => nomatch z))
    · exact .inl (.inr ⟨q, k _ _ h (fun _ z => nomatch z) fun _ z => nomatch z⟩)
    · exact .inr h
  · rcases h with ⟨q, h⟩ | h
    · exact .inl ⟨q, k _ _ h (fun _ z => nomatch z) fun _ z => nomatch z⟩
    · exact .inr h
  · rw [upd_ne (fun z : b = a => nb (by rw [z]; exact hm))]; exact e
  · by_cases z : b = a
    · subst z; exact ⟨o, upd_same⟩
    · rw [upd_ne z]; exact ⟨u, e⟩
theorem HAb.put {h : List Ob} {n : Nat} {a : Addr} {o : HO} {ob : Ob} (x : HAb K cm L H h) (ha : L[n]? = some a) (hw : Wr H a) (r : ObR K cm L (upd H a o) a ob) : HAb K cm L (upd H a o) (h.set n ob) := by
  refine ⟨x.nd, by rw [List.length_set]; exact x.len, fun m ob' b e1 e2 => ?_⟩
  by_cases hm : m = n
  · subst hm
    have hl : m < h.length := by rw [← x.len]; exact (List.getElem?_eq_some_iff.mp ha).1
    rw [List.getElem?_set_self hl] at e1
    rw [ha] at e2
    cases e1; cases e2
    exact r
  · rw [List.getElem?_set_ne (Ne.symm hm)] at e1
    have nb : b ≠ a := fun z => by
      subst z
      obtain ⟨h1, q1⟩ := List.getElem?_eq_some_iff.mp e2
      obtain ⟨h2, q2⟩ := List.getElem?_eq_some_iff.mp ha
      exact hm ((List.getElem_inj x.nd).mp (q1.trans q2.symm))
    exact (x.obs m ob' b e1 e2).mono (Ext.put x ha hw) fun u q => by rw [upd_ne nb]; exact q
theorem AbS.put {n : Nat} {a : Addr} {o : HO} {ob : Ob} (x : AbS K cm L H S σ) (ha : L[n]? = some a) (hw : Wr H a) (r : ObR K cm L (upd H a o) a ob) : AbS K cm L (upd H a o) { S with h := S.h.set n ob } σ :=
  ⟨x.hp.put ha hw r, x.loc.mono (Ext.put x.hp ha hw)⟩
/-- an object beside ours becomes ours -/
theorem ExtW.adopt {p : Addr} {o : HO} (hw : Wr H p) : ExtW K L H (L ++ [p]) (upd H p o) := by
  have k : ∀ b u, H b = some u → (∀ vs, u ≠ .lst vs) → (∀ vs, u ≠ .dK vs) → upd H p o b = some u := fun b u e h1 h2 => by
    by_cases z : b = p
    · subst z
      rcases hw with ⟨vs, q⟩ | ⟨vs, q⟩
      · rw [q] at e; cases e; exact absurd rfl (h1 vs)
      · rw [q] at e; cases e; exact absurd rfl (h2 vs)
    · rw [upd_ne z]; exact e
  refine ⟨⟨[p], rfl⟩, fun b vs h => ?_, fun b vs h => ?_⟩
  · rcases h with (h | ⟨q, h⟩) | h
    · exact .inl (.inl (k _ _ h (fun _ z => nomatch z) fun _ z => nomatch z))
    · exact .inl (.inr ⟨q, k _ _ h (fun _ z => nomatch z) fun _ z => nomatch z⟩)
    · exact .inr h
  · rcases h with ⟨q, h⟩ | h
    · exact .inl ⟨q, k _ _ h (fun _ z => nomatch z) fun _ z => nomatch z⟩
    · exact .inr h
theorem HAb.adopt {h : List Ob} {p : Addr} {o : HO} {ob : Ob} (x : HAb K cm L H h) (np : p ∉ L) (hw : Wr H p) (r : ObR K cm (L ++ [p]) (upd H p o) p ob) : HAb K cm (L ++ [p]) (upd H p o) (h ++ [ob]) := by
  refine ⟨?_, by rw [List.length_append, List.length_append, x.len]; rfl, fun n ob' a e1 e2 => ?_⟩
  · rw [List.nodup_append]
    exact ⟨x.nd, by simp, fun a ha b hb => by rw [List.mem_singleton.mp hb]; exact fun z => np (z ▸ ha)⟩
  · by_cases hn : n < h.length
    · rw [List.getElem?_append_left hn] at e1
      rw [List.getElem?_append_left (by rw [x.len]; exact hn)] at e2
      have na : a ≠ p := fun z => np (z ▸ List.mem_of_getElem? e2)
      exact (x.obs n ob' a e1 e2).monoW (ExtW.adopt hw) fun u q => by rw [upd_ne na]; exact q
    · rw [List.getElem?_append_right (Nat.le_of_not_lt hn)] at e1
      rw [List.getElem?_append_right (by rw [x.len]; exact Nat.le_of_not_lt hn)] at e2
      have e0 : n - h.length = 0 := by
        cases z : n - h.length with
        | zero => rfl
        | succ m => rw [z] at e1; simp at e1
      rw [x.len, e0] at e2
      rw [e0] at e1
      simp at e1 e2
      subst e1; subst e2
      exact r
theorem Ext.adopt {p : Addr} {o1 o2 : HO} (hp : H p = none) (pf : p ∉ L) (e : Ext K L (upd H p o1) L1 H1) (hw : Wr (upd H p o1) p) : p ∉ L1 ∧ H1 p = some o1 ∧ Wr H1 p ∧ Ext K L H (L1 ++ [p]) (upd H1 p o2) := by
  obtain ⟨M, e1, nM⟩ := e.pre
  have h1 : H1 p = some o1 := e.oth p o1 pf upd_same
  have np : p ∉ L1 := fun q => by
    rw [e1] at q
    rcases List.mem_append.mp q with q | q
    · exact pf q
    · have z := nM p q
      rw [upd_same] at z; cases z
  have w1 : Wr H1 p := by
    rcases hw with ⟨vs, q⟩ | ⟨vs, q⟩
    · rw [upd_same] at q; cases q; exact .inl ⟨vs, h1⟩
    · rw [upd_same] at q; cases q; exact .inr ⟨vs, h1⟩
  have b : Ext K L H L (upd H p o1) := Ext.beside hp
  have aw : ExtW K L1 H1 (L1 ++ [p]) (upd H1 p o2) := ExtW.adopt w1
  have be := b.trans e
  refine ⟨np, h1, w1, ⟨M ++ [p], by rw [e1, List.append_assoc], fun a ha => ?_⟩, fun a vs h => aw.tup a vs (be.tup a vs h), fun a vs h => aw.rol a vs (be.rol a vs h), fun a o na h => ?_, fun a o h => ?_, fun a q u h => ?_⟩
  · rcases List.mem_append.mp ha with z | z
    · have q := nM a z
      by_cases ap : a = p
      · rw [ap]; exact hp
      · rw [upd_ne ap] at q; exact q
    · rw [List.mem_singleton.mp z]; exact hp
  · have ap : a ≠ p := fun z => by rw [z, hp] at h; cases h
    rw [upd_ne ap]; exact be.oth a o na h
  · have ap : a ≠ p := fun z => by rw [z, hp] at h; cases h
    rw [upd_ne ap]; exact be.thr a o h
  · have ap : a ≠ p := fun z => by rw [z, hp] at h; cases h
    rw [upd_ne ap]; exact be.frz a q u h
/-- an object of ours read -/
theorem AbS.lst {n : Nat} {v : V} {ds : List D} (x : AbS K cm L H S σ) (r : Rep K cm L H (.ref n) v) (h : S.h[n]? = some (.lst ds)) : ∃ a vs, v = .ref a ∧ L[n]? = some a ∧ H a = some (.lst vs) ∧ Reps K cm L H ds vs := by
  cases r with
  | ref ha =>
    obtain ⟨vs, q, r⟩ := x.hp.obs n _ _ h ha
    exact ⟨_, vs, rfl, ha, q, r⟩
theorem AbS.dct {n : Nat} {v : V} {ds : List (Key × D)} (x : AbS K cm L H S σ) (r : Rep K cm L H (.ref n) v) (h : S.h[n]? = some (.dct ds)) : ∃ a vs, v = .ref a ∧ L[n]? = some a ∧ H a = some (.dK vs) ∧ RepK K cm L H ds vs := by
  cases r with
  | ref ha =>
    obtain ⟨vs, q, r⟩ := x.hp.obs n _ _ h ha
    exact ⟨_, vs, rfl, ha, q, r⟩
end

/-! ### 3. readings: a plain function in place of a reading -/
section
variable (K : PySem.W.Frag) (cm : Str → Value) (W : WX)
/-- what is wanted behind a plain result -/
def Aft {α β : Type} (R : List Addr → Hp → α → β → Prop) (L : List Addr) (σ : St) (H : Hp) (r : Res α) (Q : β → Hp → Prop) : Prop := match r with
  | .ok d S' => ∀ L' H' v, Ext K L H L' H' → AbS K cm L' H' S' σ → R L' H' d v → Q v H'
  | .exc e S' => ∀ L' H' c dx, Ext K L H L' H' → AbS K cm L' H' S' σ → XnR K cm L' H' e c dx → W c dx σ H'
  | .stuck => False
def rd {α β : Type} (R : List Addr → Hp → α → β → Prop) (f : DS → Res α) : St → Hp → (β → Hp → Prop) → Prop := fun σ H Q =>
  ∃ L S, AbS K cm L H S σ ∧ Aft K cm W R L σ H (f S) Q
abbrev rdE (f : DE) : TE := rd K cm W (Rep K cm) f
abbrev rdT (f : DT) : TT := rd K cm W (fun _ _ (b c : Bool) => b = c) f
abbrev rdA (f : DA) : TA := rd K cm W (Reps K cm) f
abbrev rdO (f : DS → Res (Option Int)) : TO := rd K cm W (fun _ _ (b c : Option Int) => b = c) f
/-- a statement's -/
def AftS (L : List Addr) (H : Hp) (r : Res Fl) (E : Ends) : Prop := match r with
  | .ok .next S' => ∀ L' H' σ', Ext K L H L' H' → AbS K cm L' H' S' σ' → E.nx σ' H'
  | .ok .brk S' => ∀ L' H' σ', Ext K L H L' H' → AbS K cm L' H' S' σ' → E.bk σ' H'
  | .ok .cont S' => ∀ L' H' σ', Ext K L H L' H' → AbS K cm L' H' S' σ' → E.ct σ' H'
  | .ok (.ret d) S' => ∀ L' H' σ' v, Ext K L H L' H' → AbS K cm L' H' S' σ' → Rep K cm L' H' d v → E.rt v H'
  | .exc e S' => ∀ L' H' σ' c dx, Ext K L H L' H' → AbS K cm L' H' S' σ' → XnR K cm L' H' e c dx → W c dx σ' H'
  | .stuck => False
def rdS (f : DSt) : TS := fun E σ H => ∃ L S, AbS K cm L H S σ ∧ AftS K cm W L H (f S) E
end
section
variable {K : PySem.W.Frag} {cm : Str → Value} {W : WX} {L L1 : List Addr} {H H1 : Hp} {S : DS} {σ : St} {α β γ δ : Type} {R : List Addr → Hp → α → β → Prop} {R' : List Addr → Hp → γ → δ → Prop}
theorem Aft.ext {r : Res α} {Q : β → Hp → Prop} (e : Ext K L H L1 H1) (h : Aft K cm W R L σ H r Q) : Aft K cm W R L1 σ H1 r Q := by
  cases r with
  | ok d S' => exact fun L' H' v x y z => h L' H' v (e.trans x) y z
  | exc u S' => exact fun L' H' c dx x y z => h L' H' c dx (e.trans x) y z
  | stuck => exact h
/-- THE STEP: first r, then k -/
theorem Aft.step {r : Res α} {k : α → DS → Res γ} {Q : δ → Hp → Prop} (h : Aft K cm W R' L σ H (r.bind k) Q) :
    Aft K cm W R L σ H r (fun v H1 => ∃ L1 S1 d, Ext K L H L1 H1 ∧ AbS K cm L1 H1 S1 σ ∧ R L1 H1 d v ∧ Aft K cm W R' L1 σ H1 (k d S1) Q) := by
  cases r with
  | ok d S' => exact fun L' H' v x y z => ⟨L', S', d, x, y, z, Aft.ext x h⟩
  | exc u S' => exact h
  | stuck => exact h
theorem Aft.mono {r : Res α} {Q Q' : β → Hp → Prop} (h : Aft K cm W R L σ H r Q) (q : ∀ v H', Q v H' → Q' v H') : Aft K cm W R L σ H r Q' := by
  cases r with
  | ok d S' => exact fun L' H' v x y z => q _ _ (h L' H' v x y z)
  | exc u S' => exact h
  | stuck => exact h
/-- behind a value that is there -/
theorem Aft.give {d : α} {v : β} {Q : β → Hp → Prop} (h : Aft K cm W R L σ H (.ok d S) Q) (x : AbS K cm L H S σ) (r : R L H d v) : Q v H := h L H v Ext.refl x r
theorem Aft.giveE {d : α} {v : β} {Q : β → Hp → Prop} (h : Aft K cm W R L σ H (.ok d S) Q) (e : Ext K L H L1 H1) (x : AbS K cm L1 H1 S σ) (r : R L1 H1 d v) : Q v H1 := h L1 H1 v e x r
theorem AftS.ext {r : Res Fl} {E : Ends} (e : Ext K L H L1 H1) (h : AftS K cm W L H r E) : AftS K cm W L1 H1 r E := by
  cases r with
  | ok d S' =>
    cases d with
    | next => exact fun L' H' s x y => h L' H' s (e.trans x) y
    | brk => exact fun L' H' s x y => h L' H' s (e.trans x) y
    | cont => exact fun L' H' s x y => h L' H' s (e.trans x) y
    | ret d => exact fun L' H' s v x y z => h L' H' s v (e.trans x) y z
  | exc u S' => exact fun L' H' s c dx x y z => h L' H' s c dx (e.trans x) y z
  | stuck => exact h
theorem AftS.step {r : Res α} {k : α → DS → Res Fl} {E : Ends} (h : AftS K cm W L H (r.bind k) E) :
    Aft K cm W R L σ H r (fun v H1 => ∃ L1 S1 d, Ext K L H L1 H1 ∧ AbS K cm L1 H1 S1 σ ∧ R L1 H1 d v ∧ AftS K cm W L1 H1 (k d S1) E) := by
  cases r with
  | ok d S' => exact fun L' H' v x y z => ⟨L', S', d, x, y, z, AftS.ext x h⟩
  | exc u S' => exact fun L' H' c dx x y z => h L' H' σ c dx x y z
  | stuck => exact h
end
theorem weakE {X : Cx} {e : Expr} {t t' : TE} (h : PE X e t) (w : ∀ σ H Q, t' σ H Q → t σ H Q) : PE X e t' := ⟨fun pins s σ H Q I q => h.run pins s σ H Q I (w _ _ _ q)⟩
theorem weakT {X : Cx} {e : Expr} {t t' : TT} (h : PT X e t) (w : ∀ σ H Q, t' σ H Q → t σ H Q) : PT X e t' := ⟨fun pins s σ H Q I q => h.run pins s σ H Q I (w _ _ _ q)⟩
theorem weakW {X : Cx} {e : Expr} {t t' : TT} (h : PW X e t) (w : ∀ σ H Q, t' σ H Q → t σ H Q) : PW X e t' := ⟨fun wh pins s σ H Q I q => h.run wh pins s σ H Q I (w _ _ _ q)⟩
theorem weakA {X : Cx} {e : List Expr} {t t' : TA} (h : PA X e t) (w : ∀ σ H Q, t' σ H Q → t σ H Q) : PA X e t' := ⟨fun pos pins s σ H Q I q => h.run pos pins s σ H Q I (w _ _ _ q)⟩
theorem weakS {X : Cx} {e : Stmt} {t t' : TS} (h : PS X e t) (w : ∀ σ H Q, t' σ H Q → t σ H Q) : PS X e t' := ⟨fun pins s σ H Q I q => h.run pins s σ H Q I (w _ _ _ q)⟩
theorem weakSs {X : Cx} {e : List Stmt} {t t' : TS} (h : PSs X e t) (w : ∀ σ H Q, t' σ H Q → t σ H Q) : PSs X e t' := ⟨fun pins s σ H Q I q => h.run pins s σ H Q I (w _ _ _ q)⟩
end Den

namespace Den
open PySem L2

/-! ### 4. operators on plain values -/
def mxL : Nat := 1000000
theorem mx_line {n : Nat} (h : n ≤ mxL) : n ≤ sizeLine := Nat.le_trans h (by rw [sizeLine_eq]; decide)
theorem mx_lt {n : Nat} (h : n < mxL) : n < sizeLine := Nat.lt_of_lt_of_le h (by rw [sizeLine_eq]; decide)
def newO (ob : Ob) (S : DS) : Res D := .ok (.ref S.h.length) { S with h := S.h ++ [ob] }
def oAdd : D → D → DS → Res D := fun x y S => match x, y with
  | .int i, .int j => .ok (.int (i + j)) S
  | .str a, .str b => if a.length + b.length ≤ mxL then .ok (.str (a ++ b)) S else .stuck
  | .tup a, .tup b => if a.length + b.length ≤ mxL then .ok (.tup (a ++ b)) S else .stuck
  | .ref n, .ref m => match S.h[n]?, S.h[m]? with
    | some (.lst a), some (.lst b) => if a.length + b.length ≤ mxL then newO (.lst (a ++ b)) S else .stuck
    | _, _ => .stuck
  | _, _ => .stuck
def oSub : D → D → DS → Res D := fun x y S => match x, y with
  | .int i, .int j => .ok (.int (i - j)) S
  | _, _ => .stuck
def oMul : D → D → DS → Res D := fun x y S => match x, y with
  | .int i, .int j => if (-(2 ^ 64) < i ∧ i < 2 ^ 64) ∨ (-(2 ^ 64) < j ∧ j < 2 ^ 64) then .ok (.int (i * j)) S else .stuck
  | _, _ => .stuck
def oMod : D → D → DS → Res D := fun x y S => match x, y with
  | .int i, .int j => if 0 < j then .ok (.int (i % j)) S else .stuck
  | _, _ => .stuck
def oDiv : D → D → DS → Res D := fun x y S => match x, y with
  | .int i, .int j => if 0 < j ∧ j < 1073741824 then .ok (.int (i / j)) S else .stuck
  | _, _ => .stuck
def oPow : D → D → DS → Res D := fun x y S => match x, y with
  | .int i, .int j => if 0 ≤ j ∧ j ≤ 1000 ∧ i.natAbs < 2 ^ 64 then .ok (.int (i ^ j.toNat)) S else .stuck
  | _, _ => .stuck
def oLt : D → D → DS → Res D := fun x y S => match x, y with
  | .int i, .int j => .ok (.bl (decide (i < j))) S
  | _, _ => .stuck
def oLe : D → D → DS → Res D := fun x y S => match x, y with
  | .int i, .int j => .ok (.bl (decide (i ≤ j))) S
  | _, _ => .stuck
def oGt : D → D → DS → Res D := fun x y S => match x, y with
  | .int i, .int j => .ok (.bl (decide (j < i))) S
  | _, _ => .stuck
def oGe : D → D → DS → Res D := fun x y S => match x, y with
  | .int i, .int j => .ok (.bl (decide (j ≤ i))) S
  | _, _ => .stuck
def isNon : D → Bool
  | .non => true
  | _ => false
def oIsN : D → D → DS → Res D := fun x y S => match y with
  | .non => .ok (.bl (isNon x)) S
  | _ => .stuck
def oNotN : D → D → DS → Res D := fun x y S => match y with
  | .non => .ok (.bl (!isNon x)) S
  | _ => .stuck

/-- the library's data of a plain value -/
def toPy (h : List Ob) : Nat → D → Option PyData
  | _, .non => some .none
  | _, .bl b => some (.bool b)
  | _, .int i => some (.int i)
  | _, .str x => some (.str x)
  | n + 1, .tup xs => (xs.mapM (toPy h n)).map .tuple
  | n + 1, .ro xs => (xs.mapM (toPy h n)).map .list
  | n + 1, .ref k => match h[k]? with
    | some (.lst xs) => (xs.mapM (toPy h n)).map .list
    | _ => none
  | _, _ => none
def pyD (S : DS) (d : D) : Option PyData := toPy S.h 20 d
def oEq : D → D → DS → Res D := fun x y S => match pyD S x, pyD S y with
  | some p, some q => if SeqAt.shaped p && SeqAt.shaped q then .ok (.bl (PyData.eqv p q)) S else .stuck
  | _, _ => .stuck
def oNe : D → D → DS → Res D := fun x y S => match pyD S x, pyD S y with
  | some p, some q => if SeqAt.shaped p && SeqAt.shaped q then .ok (.bl (!PyData.eqv p q)) S else .stuck
  | _, _ => .stuck
def keyOf : D → Option Key
  | .int i => some (.inl i)
  | .str x => some (.inr x)
  | _ => none
def valD (kvs : List (Key × D)) (k : Key) : Option D := (kvs.find? fun p => decide (p.1 = k)).map fun p => p.2
def hasD (kvs : List (Key × D)) (k : Key) : Bool := kvs.any fun p => decide (p.1 = k)
def putD (kvs : List (Key × D)) (k : Key) (d : D) : List (Key × D) := if hasD kvs k = true then kvs.map (fun p => if p.1 = k then (p.1, d) else p) else kvs ++ [(k, d)]

section
variable (X : Cx) (cm : Str → Value) (W : WX)
def ROp (r : R2) (f : D → D → DS → Res D) : Prop := ∀ {L : List Addr} {H : Hp} {S : DS} {σ : St} {x y : V} {d e : D} {Q : VK}, AbS X.K cm L H S σ → Rep X.K cm L H d x → Rep X.K cm L H e y →
  Aft X.K cm W (Rep X.K cm) L σ H (f d e S) Q → r x y H Q
end
def dBin (f : D → D → DS → Res D) (a b : DE) : DE := fun S => (a S).bind fun x S1 => (b S1).bind fun y S2 => f x y S2
section
variable {X : Cx} {cm : Str → Value} {W : WX}
theorem rd_bin {r : R2} {f : D → D → DS → Res D} {fa fb : DE} (h : ROp X cm W r f) {σ : St} {H : Hp} {Q : VK} (q : rdE X.K cm W (dBin f fa fb) σ H Q) : tOp r (rdE X.K cm W fa) (rdE X.K cm W fb) σ H Q := by
  obtain ⟨L, S, x, q⟩ := q
  refine ⟨L, S, x, (Aft.step (R := Rep X.K cm) q).mono fun v H1 z => ?_⟩
  obtain ⟨L1, S1, d, e1, x1, r1, q1⟩ := z
  refine ⟨L1, S1, x1, (Aft.step (R := Rep X.K cm) q1).mono fun u H2 z => ?_⟩
  obtain ⟨L2, S2, d2, e2, x2, r2, q2⟩ := z
  exact h x2 (r1.mono e2) r2 q2

theorem rop_int {g : Int → Int → V} {g' : Int → Int → D} (hg : ∀ L H i j, Rep X.K cm L H (g' i j) (g i j)) {f : D → D → DS → Res D}
    (hf : ∀ d e S, (∃ i j, d = .int i ∧ e = .int j ∧ f d e S = .ok (g' i j) S) ∨ f d e S = .stuck) : ROp X cm W (rI0 g) f := by
  intro L H S σ x y d e Q a r1 r2 q
  rcases hf d e S with ⟨i, j, rfl, rfl, h⟩ | h
  · rw [h] at q
    cases r1; cases r2
    exact ⟨i, j, rfl, rfl, q.give a (hg ..)⟩
  · rw [h] at q
    exact q.elim
theorem rop_intC {C : Int → Int → Prop} {g : Int → Int → V} {g' : Int → Int → D} (hg : ∀ L H i j, Rep X.K cm L H (g' i j) (g i j)) {f : D → D → DS → Res D}
    (hf : ∀ d e S, (∃ i j, d = .int i ∧ e = .int j ∧ C i j ∧ f d e S = .ok (g' i j) S) ∨ f d e S = .stuck) : ROp X cm W (rI C g) f := by
  intro L H S σ x y d e Q a r1 r2 q
  rcases hf d e S with ⟨i, j, rfl, rfl, hc, h⟩ | h
  · rw [h] at q
    cases r1; cases r2
    exact ⟨i, j, rfl, rfl, hc, q.give a (hg ..)⟩
  · rw [h] at q
    exact q.elim
theorem ro_lt : ROp X cm W (rI0 fun i j => .bl (decide (i < j))) oLt := rop_int (g' := fun i j => .bl (decide (i < j))) (fun _ _ _ _ => .bl _) fun d e S => by
  unfold oLt; split
  · exact .inl ⟨_, _, rfl, rfl, rfl⟩
  · exact .inr rfl
theorem ro_le : ROp X cm W (rI0 fun i j => .bl (decide (i ≤ j))) oLe := rop_int (g' := fun i j => .bl (decide (i ≤ j))) (fun _ _ _ _ => .bl _) fun d e S => by
  unfold oLe; split
  · exact .inl ⟨_, _, rfl, rfl, rfl⟩
  · exact .inr rfl
theorem ro_gt : ROp X cm W (rI0 fun i j => .bl (decide (j < i))) oGt := rop_int (g' := fun i j => .bl (decide (j < i))) (fun _ _ _ _ => .bl _) fun d e S => by
  unfold oGt; split
  · exact .inl ⟨_, _, rfl, rfl, rfl⟩
  · exact .inr rfl
theorem ro_ge : ROp X cm W (rI0 fun i j => .bl (decide (j ≤ i))) oGe := rop_int (g' := fun i j => .bl (decide (j ≤ i))) (fun _ _ _ _ => .bl _) fun d e S => by
  unfold oGe; split
  · exact .inl ⟨_, _, rfl, rfl, rfl⟩
  · exact .inr rfl
theorem ro_sub : ROp X cm W (rI0 fun i j => .int (i - j)) oSub := rop_int (g' := fun i j => .int (i - j)) (fun _ _ _ _ => .int _) fun d e S => by
  unfold oSub; split
  · exact .inl ⟨_, _, rfl, rfl, rfl⟩
  · exact .inr rfl
theorem ro_mul : ROp X cm W (rI CMul fun i j => .int (i * j)) oMul := rop_intC (g' := fun i j => .int (i * j)) (fun _ _ _ _ => .int _) fun d e S => by
  unfold oMul; split
  · split
    · rename_i h; exact .inl ⟨_, _, rfl, rfl, h, rfl⟩
    · exact .inr rfl
  · exact .inr rfl
theorem ro_mod : ROp X cm W (rI (fun _ j => 0 < j) fun i j => .int (i % j)) oMod := rop_intC (g' := fun i j => .int (i % j)) (fun _ _ _ _ => .int _) fun d e S => by
  unfold oMod; split
  · split
    · rename_i h; exact .inl ⟨_, _, rfl, rfl, h, rfl⟩
    · exact .inr rfl
  · exact .inr rfl
theorem ro_div : ROp X cm W (rI CDiv fun i j => .int (i / j)) oDiv := rop_intC (g' := fun i j => .int (i / j)) (fun _ _ _ _ => .int _) fun d e S => by
  unfold oDiv; split
  · split
    · rename_i h; exact .inl ⟨_, _, rfl, rfl, h, rfl⟩
    · exact .inr rfl
  · exact .inr rfl
theorem ro_pow : ROp X cm W (rI CPow fun i j => .int (i ^ j.toNat)) oPow := rop_intC (g' := fun i j => .int (i ^ j.toNat)) (fun _ _ _ _ => .int _) fun d e S => by
  unfold oPow; split
  · split
    · rename_i h; exact .inl ⟨_, _, rfl, rfl, ⟨h.1, Int.le_trans h.2.1 (by decide), h.2.2⟩, rfl⟩
    · exact .inr rfl
  · exact .inr rfl
theorem isNon_iff {K : PySem.W.Frag} {L : List Addr} {H : Hp} {d : D} {v : V} (r : Rep K cm L H d v) : decide (v = .non) = isNon d := by
  cases r <;> simp [isNon]
theorem ro_isN : ROp X cm W (fun x y H Q => y = .non ∧ Q (.bl (decide (x = .non))) H) oIsN := by
  intro L H S σ x y d e Q a r1 r2 q
  unfold oIsN at q
  split at q
  · cases r2
    refine ⟨rfl, ?_⟩
    rw [isNon_iff r1]
    exact q.give a (.bl _)
  · exact q.elim
theorem ro_notN : ROp X cm W (fun x y H Q => y = .non ∧ Q (.bl (!decide (x = .non))) H) oNotN := by
  intro L H S σ x y d e Q a r1 r2 q
  unfold oNotN at q
  split at q
  · cases r2
    refine ⟨rfl, ?_⟩
    rw [isNon_iff r1]
    exact q.give a (.bl _)
  · exact q.elim
/-- a new list of ours -/
theorem give_new {L : List Addr} {H : Hp} {S : DS} {σ : St} {ds : List D} {vs : List V} {Q : VK} (a : AbS X.K cm L H S σ) (r : Reps X.K cm L H ds vs) (q : Aft X.K cm W (Rep X.K cm) L σ H (newO (.lst ds) S) Q) {p : Addr} (hp : H p = none) : Q (.ref p) (upd H p (.lst vs)) :=
  q.giveE (Ext.new hp) (a.new hp ⟨vs, upd_same, r.mono (Ext.new hp)⟩) (.ref a.hp.newIx)
theorem ro_add : ROp X cm W (fun x y H Q => (rI0 (fun i j => .int (i + j)) x y H Q ∨ (∃ i j, x = .str i ∧ y = .str j ∧ i.length + j.length ≤ sizeLine ∧ Q (.str (i ++ j)) H)) ∨ (rCatA X.K x y H Q ∨ rCat x y H Q)) oAdd := by
  intro L H S σ x y d e Q a r1 r2 q
  unfold oAdd at q
  split at q
  · cases r1; cases r2
    exact .inl (.inl ⟨_, _, rfl, rfl, q.give a (.int _)⟩)
  · split at q
    · rename_i h
      cases r1; cases r2
      exact .inl (.inr ⟨_, _, rfl, rfl, mx_line h, q.give a (.str _)⟩)
    · exact q.elim
  · split at q
    · rename_i h
      cases r1 with
      | tup h1 r1 =>
        cases r2 with
        | tup h2 r2 =>
          have rr := r1.append r2
          refine .inr (.inl ⟨_, _, _, _, rfl, rfl, h1, h2, mx_line (by rw [← r1.length, ← r2.length]; exact h), fun z => ?_, fun z1 z2 => ?_, fun _ _ p hp => ?_⟩)
          · subst z
            cases r1
            exact q.give a (.tup h2 r2)
          · subst z2
            cases r2
            rw [List.append_nil] at q
            exact q.give a (.tup h1 r1)
          · exact q.giveE (Ext.beside hp) (a.beside hp) (.tup (.inl (.inl upd_same)) (rr.mono (Ext.beside hp)))
    · exact q.elim
  · split at q
    · rename_i h1 h2
      split at q
      · rename_i h
        obtain ⟨p1, vs1, rfl, g1, e1, q1⟩ := a.lst r1 h1
        obtain ⟨p2, vs2, rfl, g2, e2, q2⟩ := a.lst r2 h2
        exact .inr (.inr ⟨_, _, _, _, rfl, rfl, e1, e2, mx_line (by rw [← q1.length, ← q2.length]; exact h), fun p hp => give_new a (q1.append q2) q hp⟩)
      · exact q.elim
    · exact q.elim
  · exact q.elim

/-! ### 5. data of any depth -/
theorem mapM_nil' {α β : Type} {f : α → Option β} : [].mapM f = some [] := rfl
theorem mapM_some {α β : Type} {f : α → Option β} {x : α} {xs : List α} {ys : List β} (h : (x :: xs).mapM f = some ys) : ∃ y r, f x = some y ∧ xs.mapM f = some r ∧ ys = y :: r := by
  rw [List.mapM_cons] at h
  cases e1 : f x with
  | none => rw [e1] at h; cases h
  | some y =>
    rw [e1] at h
    cases e2 : xs.mapM f with
    | none => simp [e2] at h
    | some r =>
      simp [e2] at h
      exact ⟨y, r, rfl, rfl, h.symm⟩
theorem SqR.sq {K : PySem.W.Frag} {H : Hp} {a : Addr} {xs : List V} (h : SqR K H a xs) : SqL K H a xs := by
  rcases h with ⟨o, h⟩ | h
  · exact .inl (.inr ⟨o, h⟩)
  · exact .inr h
theorem toPys_rep {K : PySem.W.Frag} {L : List Addr} {H : Hp} {f : D → Option PyData} (hf : ∀ d v p, Rep K cm L H d v → f d = some p → Dp K H v p) :
    ∀ {ds : List D} {vs : List V} {ps : List PyData}, Reps K cm L H ds vs → ds.mapM f = some ps → DpAll K H vs ps
  | _, _, _, .nil, h => by
    rw [mapM_nil'] at h; cases h; exact .nil
  | _, _, _, .cons r t, h => by
    obtain ⟨y, q, h1, h2, rfl⟩ := mapM_some h
    exact .cons (hf _ _ _ r h1) (toPys_rep hf t h2)
theorem toPy_rep {K : PySem.W.Frag} {L : List Addr} {H : Hp} {h : List Ob} (a : HAb K cm L H h) : ∀ (n : Nat) (d : D) (v : V) (p : PyData), Rep K cm L H d v → toPy h n d = some p → Dp K H v p := by
  intro n
  induction n with
  | zero =>
    intro d v p r e
    cases r <;> simp [toPy] at e <;> subst e
    · exact .non
    · exact .bl _
    · exact .int _
    · exact .str _
  | succ n ih =>
    intro d v p r e
    cases r with
    | non => simp [toPy] at e; subst e; exact .non
    | bl b => simp [toPy] at e; subst e; exact .bl _
    | int b => simp [toPy] at e; subst e; exact .int _
    | str b => simp [toPy] at e; subst e; exact .str _
    | ty b => simp [toPy] at e
    | cls b => simp [toPy] at e
    | tup hs r =>
      simp only [toPy, Option.map_eq_some_iff] at e
      obtain ⟨ps, e1, rfl⟩ := e
      exact .tup hs (toPys_rep ih r e1)
    | ro hs r =>
      simp only [toPy, Option.map_eq_some_iff] at e
      obtain ⟨ps, e1, rfl⟩ := e
      exact .lst hs.sq (toPys_rep ih r e1)
    | ref hL =>
      simp only [toPy] at e
      split at e
      · rename_i xs hx
        obtain ⟨ps, e1, rfl⟩ := Option.map_eq_some_iff.mp e
        obtain ⟨vs, q, r⟩ := a.obs _ _ _ hx hL
        exact .lst (SqL.of q) (toPys_rep ih r e1)
      · cases e
theorem pyD_rep {L : List Addr} {H : Hp} {S : DS} {σ : St} {K : PySem.W.Frag} (a : AbS K cm L H S σ) {d : D} {v : V} {p : PyData} (r : Rep K cm L H d v) (e : pyD S d = some p) : Dp K H v p := toPy_rep a.hp 20 d v p r e
theorem ro_eq : ROp X cm W (rEqD X.K) oEq := by
  intro L H S σ x y d e Q a r1 r2 q
  unfold oEq at q
  split at q
  · rename_i p1 p2 h1 h2
    split at q
    · rename_i h
      obtain ⟨s1, s2⟩ := Bool.and_eq_true_iff.mp h
      exact ⟨_, _, pyD_rep a r1 h1, pyD_rep a r2 h2, s1, s2, q.give a (.bl _)⟩
    · exact q.elim
  · exact q.elim
theorem ro_ne : ROp X cm W (rNeD X.K) oNe := by
  intro L H S σ x y d e Q a r1 r2 q
  unfold oNe at q
  split at q
  · rename_i p1 p2 h1 h2
    split at q
    · rename_i h
      obtain ⟨s1, s2⟩ := Bool.and_eq_true_iff.mp h
      exact ⟨_, _, pyD_rep a r1 h1, pyD_rep a r2 h2, s1, s2, q.give a (.bl _)⟩
    · exact q.elim
  · exact q.elim

/-! ### 6. expressions -/
def dVar (i : Nat) : DE := fun S => match S.loc[i]? with
  | some (some d) => .ok d S
  | _ => .stuck
def dC (d : D) : DE := fun S => .ok d S
def dNil : DA := fun S => .ok [] S
def dCons (a : DE) (r : DA) : DA := fun S => (a S).bind fun d S1 => (r S1).bind fun ds S2 => .ok (d :: ds) S2
def dTup (a : DA) : DE := fun S => (a S).bind fun ds S1 => if ds.length ≤ mxL then .ok (.tup ds) S1 else .stuck
def dLst (a : DA) : DE := fun S => (a S).bind fun ds S1 => if ds.length ≤ mxL then newO (.lst ds) S1 else .stuck
def toB : D → DS → Res Bool := fun d S => match d with
  | .bl b => .ok b S
  | _ => .stuck
def tV (a : DE) : DT := fun S => (a S).bind toB
def tAndD (a b : DT) : DT := fun S => (a S).bind fun c S1 => if c then b S1 else .ok false S1
def tOrD (a b : DT) : DT := fun S => (a S).bind fun c S1 => if c then .ok true S1 else b S1
def tNotD (a : DT) : DT := fun S => (a S).bind fun c S1 => .ok (!c) S1
def dAnd (a b : DE) : DE := fun S => (a S).bind fun d S1 => (toB d S1).bind fun c S2 => if c then b S2 else .ok (.bl false) S2
def dOr (a b : DE) : DE := fun S => (a S).bind fun d S1 => (toB d S1).bind fun c S2 => if c then .ok (.bl true) S2 else b S2
def dNot (a : DE) : DE := fun S => (a S).bind fun d S1 => (toB d S1).bind fun c S2 => .ok (.bl (!c)) S2
def dIf (t : DT) (a b : DE) : DE := fun S => (t S).bind fun c S1 => if c then a S1 else b S1

variable {e e1 e2 : Expr} {es : List Expr} {pos : Pos} {fa fb : DE} {ga : DA} {ta tb : DT}
theorem e_var (i : Nat) {x : Str} (hN : X.N[i]? = some x := by rfl) (hv : Vis X.env.scope x := by first | exact Or.inl rfl | exact Or.inr (Or.inl rfl) | exact Or.inr (Or.inr rfl)) (hd : (x == ("__debug__" : Str)) = false := by decide)
    (hcd : (x == ("__classdict__" : Str)) = false := by decide) : PE X (.Name x pos) (rdE X.K cm W (dVar i)) := weakE (pe_var hN hv hd hcd) fun σ H Q q => by
  obtain ⟨L, S, a, q⟩ := q
  unfold dVar at q
  split at q
  · rename_i d h
    obtain ⟨v, e, r⟩ := a.loc.2 i d h
    exact ⟨v, e, q.give a r⟩
  · exact q.elim
theorem rd_c {d : D} {v : V} (r : ∀ L H, Rep X.K cm L H d v) {σ : St} {H : Hp} {Q : VK} (q : rdE X.K cm W (dC d) σ H Q) : tC v σ H Q := by
  obtain ⟨L, S, a, q⟩ := q
  exact q.give a (r L H)
theorem e_int {i : Int} {j} : PE X (.Constant (.int i) j pos) (rdE X.K cm W (dC (.int i))) := weakE pe_int fun _ _ _ => rd_c fun _ _ => .int i
theorem e_str {i : Str} {j} : PE X (.Constant (.str i) j pos) (rdE X.K cm W (dC (.str i))) := weakE pe_str fun _ _ _ => rd_c fun _ _ => .str i
theorem e_bl {i : Bool} {j} : PE X (.Constant (.bool i) j pos) (rdE X.K cm W (dC (.bl i))) := weakE pe_bl fun _ _ _ => rd_c fun _ _ => .bl i
theorem e_non {j} : PE X (.Constant .none j pos) (rdE X.K cm W (dC .non)) := weakE pe_non fun _ _ _ => rd_c fun _ _ => .non
/-- a constant of the module -/
theorem e_glob {x : Str} {d : D} {v : V} {u : Value} (hg : Gl X x) (hm : X.mg x = some u) (ru : RelV v u) (r : ∀ L H, Rep X.K cm L H d v) (hd : (x == ("__debug__" : Str)) = false := by decide) : PE X (.Name x pos) (rdE X.K cm W (dC d)) :=
  weakE (pe_glob hg hm ru hd) fun _ _ _ => rd_c r
theorem e_op {op : Operator} {r : R2} {f : D → D → DS → Res D} (ho : OpR X (binaryOp op) r) (h : ROp X cm W r f) (ha : PE X e1 (rdE X.K cm W fa)) (hb : PE X e2 (rdE X.K cm W fb)) : PE X (.BinOp e1 op e2 pos) (rdE X.K cm W (dBin f fa fb)) :=
  weakE (pe_op ho ha hb) fun _ _ _ => rd_bin h
theorem e_cmp {op : CmpOp} {r : R2} {f : D → D → DS → Res D} (ho : OpR X (compareOp op) r) (h : ROp X cm W r f) (hm : behindInMarks op e2 = false) (ha : PE X e1 (rdE X.K cm W fa)) (hb : PE X e2 (rdE X.K cm W fb)) : PE X (.Compare e1 [op] [e2] pos) (rdE X.K cm W (dBin f fa fb)) :=
  weakE (pe_cmpR ho ha hb hm) fun _ _ _ => rd_bin h
theorem rd_test {f : DE} {t : TE} (h : ∀ σ H Q, rdE X.K cm W f σ H Q → t σ H Q) {σ : St} {H : Hp} {Q : Bool → Hp → Prop} (q : rdT X.K cm W (tV f) σ H Q) : tTest t σ H Q := by
  obtain ⟨L, S, a, q⟩ := q
  refine h _ _ _ ⟨L, S, a, (Aft.step (R := Rep X.K cm) q).mono fun v H1 z => ?_⟩
  obtain ⟨L1, S1, d, e1, x1, r1, q1⟩ := z
  unfold toB at q1
  split at q1
  · cases r1
    exact ⟨_, rfl, q1.give x1 rfl⟩
  · exact q1.elim
theorem t_cmp {op : CmpOp} {r : R2} {f : D → D → DS → Res D} (ho : OpR X (compareOp op) r) (h : ROp X cm W r f) (hm : behindInMarks op e2 = false) (ha : PE X e1 (rdE X.K cm W fa)) (hb : PE X e2 (rdE X.K cm W fb)) : PT X (.Compare e1 [op] [e2] pos) (rdT X.K cm W (tV (dBin f fa fb))) :=
  weakT (pt_cmpR ho ha hb hm) fun _ _ _ => rd_test fun _ _ _ => rd_bin h
theorem t_val (he : PE X e (rdE X.K cm W fa)) (hp : ∀ whole, isTrue e X.env whole = (do let v ← whole; standAt e.pos; holding [v] (truthy v)) := by intro _; rfl) : PT X e (rdT X.K cm W (tV fa)) :=
  weakT (pt_val he hp) fun _ _ _ => rd_test (t := rdE X.K cm W fa) fun _ _ _ q => q
theorem w_and1 (h : PT X e (rdT X.K cm W ta)) : PW X (.BoolOp .And [e] pos) (rdT X.K cm W ta) := pw_and1 h
theorem w_or1 (h : PT X e (rdT X.K cm W ta)) : PW X (.BoolOp .Or [e] pos) (rdT X.K cm W ta) := pw_or1 h
theorem w_and (h1 : PT X e1 (rdT X.K cm W ta)) (h2 : PW X (.BoolOp .And (e2 :: es) pos) (rdT X.K cm W tb)) : PW X (.BoolOp .And (e1 :: e2 :: es) pos) (rdT X.K cm W (tAndD ta tb)) := weakW (pw_and h1 h2) fun σ H Q q => by
  obtain ⟨L, S, a, q⟩ := q
  refine ⟨L, S, a, (Aft.step (R := fun _ _ (b c : Bool) => b = c) q).mono fun v H1 z => ?_⟩
  obtain ⟨L1, S1, d, e1, x1, r1, q1⟩ := z
  subst r1
  cases d with
  | true => rw [if_pos rfl]; exact ⟨L1, S1, x1, q1⟩
  | false => rw [if_neg (by decide)]; exact q1.give x1 rfl
theorem w_or (h1 : PT X e1 (rdT X.K cm W ta)) (h2 : PW X (.BoolOp .Or (e2 :: es) pos) (rdT X.K cm W tb)) : PW X (.BoolOp .Or (e1 :: e2 :: es) pos) (rdT X.K cm W (tOrD ta tb)) := weakW (pw_or h1 h2) fun σ H Q q => by
  obtain ⟨L, S, a, q⟩ := q
  refine ⟨L, S, a, (Aft.step (R := fun _ _ (b c : Bool) => b = c) q).mono fun v H1 z => ?_⟩
  obtain ⟨L1, S1, d, e1, x1, r1, q1⟩ := z
  subst r1
  cases d with
  | true => rw [if_pos rfl]; exact q1.give x1 rfl
  | false => rw [if_neg (by decide)]; exact ⟨L1, S1, x1, q1⟩
theorem t_not (h : PT X e (rdT X.K cm W ta)) : PT X (.UnaryOp .Not e pos) (rdT X.K cm W (tNotD ta)) := weakT (pt_not h) fun σ H Q q => by
  obtain ⟨L, S, a, q⟩ := q
  refine ⟨L, S, a, (Aft.step (R := fun _ _ (b c : Bool) => b = c) q).mono fun v H1 z => ?_⟩
  obtain ⟨L1, S1, d, e1, x1, r1, q1⟩ := z
  subst r1
  exact q1.give x1 rfl
theorem e_and1 {op} (h : PE X e (rdE X.K cm W fa)) : PE X (.BoolOp op [e] pos) (rdE X.K cm W fa) := pe_one h
theorem e_and (h1 : PE X e1 (rdE X.K cm W fa)) (h2 : PE X (.BoolOp .And (e2 :: es) pos) (rdE X.K cm W fb)) : PE X (.BoolOp .And (e1 :: e2 :: es) pos) (rdE X.K cm W (dAnd fa fb)) := weakE (pe_and h1 h2) fun σ H Q q => by
  obtain ⟨L, S, a, q⟩ := q
  refine ⟨L, S, a, (Aft.step (R := Rep X.K cm) q).mono fun v H1 z => ?_⟩
  obtain ⟨L1, S1, d, e1, x1, r1, q1⟩ := z
  unfold toB at q1
  split at q1
  · cases r1
    rename_i b
    refine ⟨b, rfl, ?_⟩
    cases b with
    | true => rw [if_pos rfl]; exact ⟨L1, S1, x1, q1⟩
    | false => rw [if_neg (by decide)]; exact q1.give x1 (.bl false)
  · exact q1.elim
theorem e_or (h1 : PE X e1 (rdE X.K cm W fa)) (h2 : PE X (.BoolOp .Or (e2 :: es) pos) (rdE X.K cm W fb)) : PE X (.BoolOp .Or (e1 :: e2 :: es) pos) (rdE X.K cm W (dOr fa fb)) := weakE (pe_or h1 h2) fun σ H Q q => by
  obtain ⟨L, S, a, q⟩ := q
  refine ⟨L, S, a, (Aft.step (R := Rep X.K cm) q).mono fun v H1 z => ?_⟩
  obtain ⟨L1, S1, d, e1, x1, r1, q1⟩ := z
  unfold toB at q1
  split at q1
  · cases r1
    rename_i b
    refine ⟨b, rfl, ?_⟩
    cases b with
    | true => rw [if_pos rfl]; exact q1.give x1 (.bl true)
    | false => rw [if_neg (by decide)]; exact ⟨L1, S1, x1, q1⟩
  · exact q1.elim
theorem e_not (h1 : PE X e1 (rdE X.K cm W fa)) : PE X (.UnaryOp .Not e1 pos) (rdE X.K cm W (dNot fa)) := weakE (pe_not h1) fun σ H Q q => by
  obtain ⟨L, S, a, q⟩ := q
  refine ⟨L, S, a, (Aft.step (R := Rep X.K cm) q).mono fun v H1 z => ?_⟩
  obtain ⟨L1, S1, d, e1, x1, r1, q1⟩ := z
  unfold toB at q1
  split at q1
  · cases r1
    exact ⟨_, rfl, q1.give x1 (.bl _)⟩
  · exact q1.elim
theorem e_if (ht : PT X e (rdT X.K cm W ta)) (h1 : PE X e1 (rdE X.K cm W fa)) (h2 : PE X e2 (rdE X.K cm W fb)) : PE X (.IfExp e e1 e2 pos) (rdE X.K cm W (dIf ta fa fb)) := weakE (pe_ifExp ht h1 h2) fun σ H Q q => by
  obtain ⟨L, S, a, q⟩ := q
  refine ⟨L, S, a, (Aft.step (R := fun _ _ (b c : Bool) => b = c) q).mono fun v H1 z => ?_⟩
  obtain ⟨L1, S1, d, e1, x1, r1, q1⟩ := z
  subst r1
  cases d with
  | true => rw [if_pos rfl]; exact ⟨L1, S1, x1, q1⟩
  | false => rw [if_neg (by decide)]; exact ⟨L1, S1, x1, q1⟩
theorem a_nil : PA X [] (rdA X.K cm W dNil) := weakA pa_nil fun σ H Q q => by
  obtain ⟨L, S, a, q⟩ := q
  exact q.give a .nil
theorem a_cons (h : PE X e (rdE X.K cm W fa)) (hr : PA X es (rdA X.K cm W ga)) (hs : starEach (e :: es) X.env = (false, eval e X.env) :: starEach es X.env := by rfl) : PA X (e :: es) (rdA X.K cm W (dCons fa ga)) := weakA (pa_cons h hr hs) fun σ H Q q => by
  obtain ⟨L, S, a, q⟩ := q
  refine ⟨L, S, a, (Aft.step (R := Rep X.K cm) q).mono fun v H1 z => ?_⟩
  obtain ⟨L1, S1, d, e1, x1, r1, q1⟩ := z
  refine ⟨L1, S1, x1, (Aft.step (R := Reps X.K cm) q1).mono fun u H2 z => ?_⟩
  obtain ⟨L2, S2, d2, e2, x2, r2, q2⟩ := z
  exact q2.give x2 (.cons (r1.mono e2) r2)
theorem e_tup {x1} (h : PA X es (rdA X.K cm W ga)) : PE X (.Tuple es x1 pos) (rdE X.K cm W (dTup ga)) := weakE (pe_tup h) fun σ H Q q => by
  obtain ⟨L, S, a, q⟩ := q
  refine ⟨L, S, a, (Aft.step (R := Reps X.K cm) q).mono fun v H1 z => ?_⟩
  obtain ⟨L1, S1, d, e1, x1, r1, q1⟩ := z
  split at q1
  · rename_i h
    refine ⟨mx_line (by rw [← r1.length]; exact h), fun p hp => ?_⟩
    exact q1.giveE (Ext.beside hp) (x1.beside hp) (.tup (.inl (.inl upd_same)) (r1.mono (Ext.beside hp)))
  · exact q1.elim
theorem e_lst (h : PA X es (rdA X.K cm W ga)) : PE X (.List es pos) (rdE X.K cm W (dLst ga)) := weakE (pe_lst h) fun σ H Q q => by
  obtain ⟨L, S, a, q⟩ := q
  refine ⟨L, S, a, (Aft.step (R := Reps X.K cm) q).mono fun v H1 z => ?_⟩
  obtain ⟨L1, S1, d, e1, x1, r1, q1⟩ := z
  split at q1
  · rename_i h
    exact ⟨mx_line (by rw [← r1.length]; exact h), fun p hp => give_new x1 r1 q1 hp⟩
  · exact q1.elim
end
end Den

namespace Den
open PySem L2

/-! ### 7. statements -/
def sNop : DSt := fun S => .ok .next S
def sSeq (a b : DSt) : DSt := fun S => (a S).bind fun f S1 => match f with
  | .next => b S1
  | f => .ok f S1
def sIf (t : DT) (a b : DSt) : DSt := fun S => (t S).bind fun c S1 => if c then a S1 else b S1
def sRet (e : DE) : DSt := fun S => (e S).bind fun d S1 => .ok (.ret d) S1
def sRetN : DSt := fun S => .ok (.ret .non) S
def sExpr (e : DE) : DSt := fun S => (e S).bind fun _ S1 => .ok .next S1
def sBrk : DSt := fun S => .ok .brk S
def sCont : DSt := fun S => .ok .cont S
abbrev DG := D → DS → Option DS
def gN (i : Nat) : DG := fun d S => some { S with loc := S.loc.set i (some d) }
def sAsg (e : DE) (g : DG) : DSt := fun S => (e S).bind fun d S1 => match g d S1 with
  | some S2 => .ok .next S2
  | none => .stuck
/-- targets one by one -/
abbrev DGs := List D → DS → Option DS
def gNil : DGs := fun ds S => match ds with
  | [] => some S
  | _ => none
def gCons (g : DG) (r : DGs) : DGs := fun ds S => match ds with
  | d :: t => (g d S).bind fun S1 => r t S1
  | [] => none
def gTup (n : Nat) (r : DGs) : DG := fun d S => match d with
  | .tup xs => if xs.length = n then r xs S else none
  | _ => none

section
variable (K : PySem.W.Frag) (cm : Str → Value) (W : WX)
/-- behind an assignment -/
def AftG (L : List Addr) (H : Hp) (r : Option DS) (Q : St → Hp → Prop) : Prop := match r with
  | some S' => ∀ L' H' σ', Ext K L H L' H' → AbS K cm L' H' S' σ' → Q σ' H'
  | none => False
def rdG (f : DG) : TG := fun v σ H Q => ∃ L S d, AbS K cm L H S σ ∧ Rep K cm L H d v ∧ AftG K cm L H (f d S) Q
def rdGs (f : DGs) : TGs := fun vs σ H Q => ∃ L S ds, AbS K cm L H S σ ∧ Reps K cm L H ds vs ∧ AftG K cm L H (f ds S) Q
end
section
variable {X : Cx} {cm : Str → Value} {W : WX} {e e1 e2 : Expr} {es : List Expr} {pos : Pos} {fa fb : DE} {ga : DA} {ta tb : DT} {sa sb : DSt} {st : Stmt} {rest rest2 : List Stmt}
theorem LocR.set {K : PySem.W.Frag} {L : List Addr} {H : Hp} {ls : List (Option D)} {σ : St} {d : D} {v : V} (h : LocR K cm L H ls σ) (r : Rep K cm L H d v) (i : Nat) : LocR K cm L H (ls.set i (some d)) (σ.set i (some v)) := by
  refine ⟨by rw [List.length_set, List.length_set]; exact h.1, fun j x q => ?_⟩
  by_cases hj : i = j
  · subst hj
    by_cases hl : i < ls.length
    · rw [List.getElem?_set_self hl] at q
      cases q
      exact ⟨v, List.getElem?_set_self (by rw [← h.1]; exact hl), r⟩
    · rw [List.getElem?_eq_none (by rw [List.length_set]; omega)] at q
      cases q
  · rw [List.getElem?_set_ne hj] at q
    rw [List.getElem?_set_ne hj]
    exact h.2 j x q
theorem AbS.set {K : PySem.W.Frag} {L : List Addr} {H : Hp} {S : DS} {σ : St} {d : D} {v : V} (a : AbS K cm L H S σ) (r : Rep K cm L H d v) (i : Nat) : AbS K cm L H { S with loc := S.loc.set i (some d) } (σ.set i (some v)) := ⟨a.hp, a.loc.set r i⟩
theorem AftG.ext {K : PySem.W.Frag} {L L1 : List Addr} {H H1 : Hp} {r : Option DS} {Q : St → Hp → Prop} (e : Ext K L H L1 H1) (h : AftG K cm L H r Q) : AftG K cm L1 H1 r Q := by
  cases r with
  | some S' => exact fun L' H' s x y => h L' H' s (e.trans x) y
  | none => exact h

theorem ss_nil : PSs X [] (rdS X.K cm W sNop) := weakSs pss_nil fun E σ H q => by
  obtain ⟨L, S, a, q⟩ := q
  exact q L H σ Ext.refl a
theorem rd_seq {E : Ends} {σ : St} {H : Hp} (q : rdS X.K cm W (sSeq sa sb) E σ H) : tSeq (rdS X.K cm W sa) (rdS X.K cm W sb) E σ H := by
  obtain ⟨L, S, a, q⟩ := q
  refine ⟨L, S, a, ?_⟩
  unfold sSeq at q
  generalize sa S = r at q
  cases r with
  | ok f S1 =>
    cases f with
    | next => exact fun L' H' σ' e x => ⟨L', S1, x, AftS.ext e q⟩
    | ret d => exact q
    | brk => exact q
    | cont => exact q
  | exc u S1 => exact q
  | stuck => exact q
theorem ss_cons (h1 : PS X st (rdS X.K cm W sa)) (h2 : PSs X rest (rdS X.K cm W sb)) : PSs X (st :: rest) (rdS X.K cm W (sSeq sa sb)) := weakSs (pss_cons h1 h2) fun _ _ _ => rd_seq
theorem ss_one (h1 : PS X st (rdS X.K cm W sa)) : PSs X [st] (rdS X.K cm W sa) := pss_one h1
theorem s_pass : PS X (.Pass pos) (rdS X.K cm W sNop) := weakS ps_pass fun E σ H q => by
  obtain ⟨L, S, a, q⟩ := q
  exact q L H σ Ext.refl a
theorem s_brk : PS X (.Break pos) (rdS X.K cm W sBrk) := weakS ps_break fun E σ H q => by
  obtain ⟨L, S, a, q⟩ := q
  exact q L H σ Ext.refl a
theorem s_cont : PS X (.Continue pos) (rdS X.K cm W sCont) := weakS ps_continue fun E σ H q => by
  obtain ⟨L, S, a, q⟩ := q
  exact q L H σ Ext.refl a
theorem s_expr (he : PE X e (rdE X.K cm W fa)) (hs : swapsWith e none pos.line X.env = pure false := by rfl) : PS X (.Expr e pos) (rdS X.K cm W (sExpr fa)) := weakS (ps_expr he hs) fun E σ H q => by
  obtain ⟨L, S, a, q⟩ := q
  refine ⟨L, S, a, (AftS.step (R := Rep X.K cm) q).mono fun v H1 z => ?_⟩
  obtain ⟨L1, S1, d, e1, x1, r1, q1⟩ := z
  exact q1 L1 H1 σ Ext.refl x1
theorem s_ret (he : PE X e (rdE X.K cm W fa)) : PS X (.Return (some e) pos) (rdS X.K cm W (sRet fa)) := weakS (ps_ret he) fun E σ H q => by
  obtain ⟨L, S, a, q⟩ := q
  refine ⟨L, S, a, (AftS.step (R := Rep X.K cm) q).mono fun v H1 z => ?_⟩
  obtain ⟨L1, S1, d, e1, x1, r1, q1⟩ := z
  exact q1 L1 H1 σ v Ext.refl x1 r1
theorem s_retN : PS X (.Return none pos) (rdS X.K cm W sRetN) := weakS ps_retN fun E σ H q => by
  obtain ⟨L, S, a, q⟩ := q
  exact q L H σ .non Ext.refl a .non
theorem s_if {c : Expr} {b1 b2 : List Stmt} (hc : PT X c (rdT X.K cm W ta)) (h1 : PSs X b1 (rdS X.K cm W sa)) (h2 : PSs X b2 (rdS X.K cm W sb)) : PS X (.If c b1 b2 pos) (rdS X.K cm W (sIf ta sa sb)) := weakS (ps_if hc h1 h2) fun E σ H q => by
  obtain ⟨L, S, a, q⟩ := q
  refine ⟨L, S, a, (AftS.step (R := fun _ _ (b c : Bool) => b = c) q).mono fun v H1 z => ?_⟩
  obtain ⟨L1, S1, d, e1, x1, r1, q1⟩ := z
  subst r1
  cases d with
  | true => rw [if_pos rfl]; exact ⟨L1, S1, x1, q1⟩
  | false => rw [if_neg (by decide)]; exact ⟨L1, S1, x1, q1⟩
theorem g_name {i : Nat} {x : Str} (hN : X.N.Nodup) (hi : X.N[i]? = some x) (hx : Loc X.env.scope x) (hf : X.fn x = true ∨ X.env.scope.names.lookup x = some .local := by first | exact .inl rfl | exact .inr rfl | assumption) : PG X (.Name x pos) (rdG X.K cm (gN i)) :=
  ⟨fun pins s σ H v u Q I r q => (pg_name hN hi hx hf).run pins s σ H v u Q I r (by
    obtain ⟨L, S, d, a, rd, q⟩ := q
    exact q L H _ Ext.refl (a.set rd i))⟩
theorem gs_nil : PGs X [] (rdGs X.K cm gNil) := ⟨fun pins s σ H vs us Q I r q => pgs_nil.run pins s σ H vs us Q I r (by
  obtain ⟨L, S, ds, a, rd, q⟩ := q
  cases rd with
  | nil => exact ⟨rfl, q L H _ Ext.refl a⟩
  | cons _ _ => exact q.elim)⟩
theorem gs_cons {g : DG} {gs : DGs} (h1 : PG X e (rdG X.K cm g)) (h2 : PGs X es (rdGs X.K cm gs)) (hs : (assignEach (e :: es) X.env).map (·.2) = assign e X.env :: (assignEach es X.env).map (·.2) := by rfl) : PGs X (e :: es) (rdGs X.K cm (gCons g gs)) :=
  ⟨fun pins s σ H vs us Q I r q => (pgs_cons h1 h2 hs).run pins s σ H vs us Q I r (by
    obtain ⟨L, S, ds, a, rd, q⟩ := q
    cases rd with
    | nil => exact q.elim
    | @cons d ds v vs r1 r2 =>
      refine ⟨v, vs, rfl, L, S, d, a, r1, ?_⟩
      unfold gCons at q
      dsimp only at q
      generalize g d S = z at q
      cases z with
      | some S1 => exact fun L' H' σ' e x => ⟨L', S1, ds, x, r2.mono e, AftG.ext e q⟩
      | none => exact q)⟩
theorem g_tup {n : Nat} {k : Nat} {gs : DGs} (hc : X.calm = true) (h : PGs X es (rdGs X.K cm gs)) (hn : (assignEach es X.env).length = n := by rfl) (hst : (assignEach es X.env).findIdx? (·.1) = none := by rfl) : PG X (.Tuple es k pos) (rdG X.K cm (gTup n gs)) :=
  ⟨fun pins s σ H v u Q I r q => (pg_tup hc h hn hst).run pins s σ H v u Q I r (by
    obtain ⟨L, S, d, a, rd, q⟩ := q
    unfold gTup at q
    split at q
    · split at q
      · rename_i hl
        cases rd with
        | tup hq rr => exact ⟨_, _, rfl, hq, by rw [← rr.length]; exact hl, L, S, _, a, rr, q⟩
      · exact q.elim
    · exact q.elim)⟩
theorem rd_asg {g : DG} {E : Ends} {σ : St} {H : Hp} (q : rdS X.K cm W (sAsg fa g) E σ H) : tAsg (rdE X.K cm W fa) (rdG X.K cm g) E σ H := by
  obtain ⟨L, S, a, q⟩ := q
  refine ⟨L, S, a, (AftS.step (R := Rep X.K cm) q).mono fun v H1 z => ?_⟩
  obtain ⟨L1, S1, d, e1, x1, r1, q1⟩ := z
  refine ⟨L1, S1, d, x1, r1, ?_⟩
  generalize g d S1 = z at q1
  cases z with
  | some S2 => exact fun L' H' σ' e x => q1 L' H' σ' e x
  | none => exact q1
theorem s_asg {tg : Expr} {g : DG} (he : PE X e (rdE X.K cm W fa)) (hg : PG X tg (rdG X.K cm g)) (hs : swapsWithSole [tg] e pos.line X.env = pure false := by rfl) (hw : swappedStores [tg] e X.env = pure none := by rfl)
    (h1 : (assignEach [tg] X.env).map (·.2) = [assign tg X.env] := by rfl) : PS X (.Assign [tg] e pos) (rdS X.K cm W (sAsg fa g)) := weakS (ps_asg he hg hs hw h1) fun _ _ _ => rd_asg
/-- a name -/
theorem s_set {i : Nat} {x : Str} {pos' : Pos} (hN : X.N.Nodup) (hi : X.N[i]? = some x) (hx : Loc X.env.scope x) (he : PE X e (rdE X.K cm W fa)) (hs : swapsWith e (some (.Name x pos')) pos.line X.env = pure false := by rfl)
    (hf : X.fn x = true ∨ X.env.scope.names.lookup x = some .local := by first | exact .inl rfl | exact .inr rfl | assumption) : PS X (.Assign [.Name x pos'] e pos) (rdS X.K cm W (sAsg fa (gN i))) := weakS (ps_set hN hi hx he hs hf) fun E σ H q => by
  obtain ⟨L, S, a, q⟩ := q
  refine ⟨L, S, a, (AftS.step (R := Rep X.K cm) q).mono fun v H1 z => ?_⟩
  obtain ⟨L1, S1, d, e1, x1, r1, q1⟩ := z
  exact q1 L1 H1 _ Ext.refl (x1.set r1 i)

/-! ### 8. loops over values that stand still -/
def forV (g : DG) (b : DSt) : List D → DSt
  | [] => fun S => .ok .next S
  | d :: ds => fun S => match g d S with
    | some S1 => (b S1).bind fun f S2 => match f with
      | .next => forV g b ds S2
      | .cont => forV g b ds S2
      | .brk => .ok .next S2
      | .ret d => .ok (.ret d) S2
    | none => .stuck
/-- what a for walks: values that stand still, or what our objects tell at each turn (none: stuck; some none: the end) -/
inductive Iter0 where
  | vals (xs : List D) | dyn (f : List Ob → Nat → Option (Option D))
/-- a list of ours, as it stands at each turn -/
def lstIt (n : Nat) : List Ob → Nat → Option (Option D) := fun h i => match h[n]? with
  | some (.lst xs) => some xs[i]?
  | _ => none
def forO (it : List Ob → Nat → Option (Option D)) (g : DG) (b : DSt) : Nat → Nat → DSt
  | 0, _ => fun _ => .stuck
  | k + 1, i => fun S => match it S.h i with
    | some none => .ok .next S
    | some (some d) => match g d S with
      | some S1 => (b S1).bind fun f S2 => match f with
        | .next => forO it g b k (i + 1) S2
        | .cont => forO it g b k (i + 1) S2
        | .brk => .ok .next S2
        | .ret d => .ok (.ret d) S2
      | none => .stuck
    | none => .stuck
def sFor (it : DS → Res Iter0) (g : DG) (b : DSt) : DSt := fun S => (it S).bind fun I S1 => match I with
  | .vals xs => forV g b xs S1
  | .dyn f => forO f g b 100000 0 S1
section
variable (K : PySem.W.Frag) (cm : Str → Value)
/-- J walks the values xs -/
structure Walks0 (L : List Addr) (H : Hp) (xs : List D) (J : It) : Prop where
  go : ∀ L' H' i d, Ext K L H L' H' → xs[i]? = some d → J.go i H' ∧ ∀ x H2, J.yld i H' x H2 → Ext K L' H' L' H2 ∧ (∀ h, HAb K cm L' H' h → HAb K cm L' H2 h) ∧ Rep K cm L' H2 d x
  stop : ∀ L' H', Ext K L H L' H' → J.stop xs.length H'
/-- J walks what f tells -/
structure WalksD (L : List Addr) (H : Hp) (f : List Ob → Nat → Option (Option D)) (J : It) : Prop where
  go : ∀ L' H' h i d, Ext K L H L' H' → HAb K cm L' H' h → f h i = some (some d) → J.go i H' ∧ ∀ x H2, J.yld i H' x H2 → Ext K L' H' L' H2 ∧ (∀ h', HAb K cm L' H' h' → HAb K cm L' H2 h') ∧ Rep K cm L' H2 d x
  stop : ∀ L' H' h i, Ext K L H L' H' → HAb K cm L' H' h → f h i = some none → J.stop i H'
def ItR (L : List Addr) (H : Hp) (I : Iter0) (J : It) : Prop := match I with
  | .vals xs => Walks0 K cm L H xs J
  | .dyn f => WalksD K cm L H f J
end
/-- an iterable's reading -/
def rdI (K : PySem.W.Frag) (cm : Str → Value) (W : WX) (it : DS → Res Iter0) : TI := rd K cm W (ItR K cm) it
theorem for_vals {xs : List D} {J : It} {g : DG} {b : DSt} {E : Ends} {σ : St} {L1 : List Addr} {H1 : Hp} {S1 : DS} (wk : Walks0 X.K cm L1 H1 xs J) (x1 : AbS X.K cm L1 H1 S1 σ) (q1 : AftS X.K cm W L1 H1 (forV g b xs S1) E) :
    ∃ W' : Nat → Nat → St → Hp → Prop, (∃ m, W' 0 m σ H1) ∧ ∀ i m σ H, W' i m σ H → (J.stop i H ∧ E.nx σ H) ∨ (J.go i H ∧ ∃ N : St → Hp → Prop, (∀ σ' H', N σ' H' → ∃ m', m' < m ∧ W' (i + 1) m' σ' H') ∧
      ∀ x H', J.yld i H x H' → rdG X.K cm g x σ H' fun σ2 H2 => rdS X.K cm W b { E with nx := N, ct := N, bk := E.nx } σ2 H2) := by
  refine ⟨fun i m σ' H' => m = xs.length - i ∧ i ≤ xs.length ∧ ∃ L' S', Ext X.K L1 H1 L' H' ∧ AbS X.K cm L' H' S' σ' ∧ AftS X.K cm W L' H' (forV g b (xs.drop i) S') E, ⟨xs.length, by simp, Nat.zero_le _, L1, S1, Ext.refl, x1, q1⟩, ?_⟩
  rintro i m σ2 H2 ⟨rfl, hi, L2, S2, e2, x2, q2⟩
  by_cases hlt : i < xs.length
  · obtain ⟨go, yl⟩ := wk.go L2 H2 i xs[i] e2 (by simp [hlt])
    refine .inr ⟨go, fun σ' H' => i + 1 ≤ xs.length ∧ ∃ L' S', Ext X.K L1 H1 L' H' ∧ AbS X.K cm L' H' S' σ' ∧ AftS X.K cm W L' H' (forV g b (xs.drop (i + 1)) S') E, fun σ' H' z => ⟨xs.length - (i + 1), by omega, rfl, z⟩, fun x H3 y => ?_⟩
    obtain ⟨e3, hb, rx⟩ := yl x H3 y
    rw [List.drop_eq_getElem_cons hlt] at q2
    refine ⟨L2, S2, xs[i], ⟨hb _ x2.hp, x2.loc.mono e3⟩, rx, ?_⟩
    have q3 := AftS.ext e3 q2
    unfold forV at q3
    generalize g xs[i] S2 = z at q3
    cases z with
    | some S3 =>
      refine fun L4 H4 σ4 e4 x4 => ⟨L4, S3, x4, ?_⟩
      have q4 := AftS.ext e4 q3
      dsimp only at q4
      have e14 := (e2.trans e3).trans e4
      generalize b S3 = z at q4
      cases z with
      | ok f S5 =>
        cases f with
        | next => exact fun L' H' σ' e x => ⟨hlt, L', S5, e14.trans e, x, AftS.ext e q4⟩
        | cont => exact fun L' H' σ' e x => ⟨hlt, L', S5, e14.trans e, x, AftS.ext e q4⟩
        | brk => exact q4
        | ret d => exact q4
      | exc u S5 => exact q4
      | stuck => exact q4
    | none => exact q3
  · have e0 : i = xs.length := by omega
    subst e0
    rw [List.drop_length] at q2
    exact .inl ⟨wk.stop L2 H2 e2, q2 L2 H2 σ2 Ext.refl x2⟩
theorem for_core {it : DS → Res Iter0} {g : DG} {b : DSt} {E : Ends} {σ : St} {H : Hp} (q : rdS X.K cm W (sFor it g b) E σ H) : tFor (rdI X.K cm W it) (rdG X.K cm g) (rdS X.K cm W b) E σ H := by
  obtain ⟨L, S, a, q⟩ := q
  refine ⟨L, S, a, (AftS.step (R := ItR X.K cm) q).mono fun J H1 z => ?_⟩
  obtain ⟨L1, S1, I, e1, x1, r1, q1⟩ := z
  cases I with
  | vals xs =>
    exact for_vals r1 x1 q1
  | dyn n =>
    refine ⟨fun i m σ' H' => ∃ L' S', Ext X.K L1 H1 L' H' ∧ AbS X.K cm L' H' S' σ' ∧ AftS X.K cm W L' H' (forO n g b m i S') E, ⟨100000, L1, S1, Ext.refl, x1, q1⟩, ?_⟩
    rintro i m σ2 H2 ⟨L2, S2, e2, x2, q2⟩
    cases m with
    | zero => exact q2.elim
    | succ m =>
      unfold forO at q2
      split at q2
      · rename_i hn
        exact .inl ⟨r1.stop L2 H2 _ i e2 x2.hp hn, q2 L2 H2 σ2 Ext.refl x2⟩
      · rename_i d hd
        obtain ⟨go, yl⟩ := r1.go L2 H2 _ i d e2 x2.hp hd
        refine .inr ⟨go, fun σ' H' => ∃ L' S', Ext X.K L1 H1 L' H' ∧ AbS X.K cm L' H' S' σ' ∧ AftS X.K cm W L' H' (forO n g b m (i + 1) S') E, fun σ' H' z => ⟨m, Nat.lt_succ_self _, z⟩, fun x H3 y => ?_⟩
        obtain ⟨e3, hb, rx⟩ := yl x H3 y
        refine ⟨L2, S2, d, ⟨hb _ x2.hp, x2.loc.mono e3⟩, rx, ?_⟩
        have q3 := AftS.ext e3 q2
        generalize g d S2 = z at q3
        cases z with
        | some S3 =>
          refine fun L4 H4 σ4 e4 x4 => ⟨L4, S3, x4, ?_⟩
          have q4 := AftS.ext e4 q3
          dsimp only at q4
          have e14 := (e2.trans e3).trans e4
          generalize b S3 = z at q4
          cases z with
          | ok f S5 =>
            cases f with
            | next => exact fun L' H' σ' e x => ⟨L', S5, e14.trans e, x, AftS.ext e q4⟩
            | cont => exact fun L' H' σ' e x => ⟨L', S5, e14.trans e, x, AftS.ext e q4⟩
            | brk => exact q4
            | ret d => exact q4
          | exc u S5 => exact q4
          | stuck => exact q4
        | none => exact q3
      · exact q2.elim
theorem s_for {tg iter : Expr} {body : List Stmt} {it : DS → Res Iter0} {g : DG} {b : DSt} (hp : PassesOwn (model X.prog X.w) X.A X.env X.xe) (hc : X.calm = true) (hi : PI X tg iter (rdI X.K cm W it)) (hg : PG X tg (rdG X.K cm g)) (hb : PSs X body (rdS X.K cm W b))
    (hs : ∀ x, foldedSetIterable iter X.env x = pure x := by intro _; rfl) : PS X (.For tg iter body [] pos) (rdS X.K cm W (sFor it g b)) := weakS (ps_for hp hc hi hg hb hs) fun _ _ _ => for_core
end
end Den

namespace Den
open PySem L2

/-! ### 9. defs: promises over plain values; nothing in the middle of being shown -/
/-- a def that keeps its promise wherever no display is under way -/
structure FnG (P : Program) (w : World) (K : PySem.W.Frag) (mg : Str → Option Value) (base : Heap) (k : Nat) (f : Addr) (fd : FuncData) (ps : List Str) (sp : Sp) : Prop where
  len : ∀ vs H Q E, sp vs H Q E → vs.length = ps.length
  run : ∀ (A : Around) (fr : List Env) (s : Shared) (H : Hp) (args : Args) (us : List Value) (vs : List V) (Q : VK) (E : XK), Room k A → A.guards = some [] → Env0 P w K mg base A fr s H →
    BindsTo s fd args (ps.zip us) → Vals vs us → sp vs H Q E → codeAny (model P w) A (.call (.ref f) args) (CR (L2.CX P w) fr P w H s Q E) s
theorem FnG.mono {P : Program} {w : World} {K : PySem.W.Frag} {mg : Str → Option Value} {base : Heap} {j k : Nat} {f : Addr} {fd : FuncData} {ps : List Str} {sp : Sp} (F : FnG P w K mg base j f fd ps sp) (h : j ≤ k) : FnG P w K mg base k f fd ps sp :=
  ⟨F.len, fun A fr s H args us vs Q E r => F.run A fr s H args us vs Q E (r.mono h)⟩
def wOf (E : XK) : WX := fun c d _ H => E c d H
/-- the promise of a plain def -/
def spD (K : PySem.W.Frag) (cm : Str → Value) (np : Nat) (F : Fn) : Sp := fun vs H Q E => ∃ L ds h, AbS K cm L H ⟨[], h⟩ [] ∧ Reps K cm L H ds vs ∧ ds.length = np ∧ Aft K cm (wOf E) (Rep K cm) L [] H (F ds h) Q
/-- a body as a plain def -/
def runB (n : Nat) (b : DSt) : Fn := fun ds h => match b ⟨ds.map some ++ List.replicate (n - ds.length) none, h⟩ with
  | .ok (.ret d) S => .ok d ⟨[], S.h⟩
  | .ok .next S => .ok .non ⟨[], S.h⟩
  | .ok _ _ => .stuck
  | .exc e S => .exc e ⟨[], S.h⟩
  | .stuck => .stuck
theorem AbS.bare {K : PySem.W.Frag} {cm : Str → Value} {L : List Addr} {H : Hp} {S : DS} {σ : L2.St} (a : AbS K cm L H S σ) : AbS K cm L H ⟨[], S.h⟩ [] := ⟨a.hp, rfl, fun i d h => by simp at h⟩
theorem loc_start {K : PySem.W.Frag} {cm : Str → Value} {L : List Addr} {H : Hp} {ds : List D} {vs : List V} (N : List Str) (r : Reps K cm L H ds vs) : LocR K cm L H (ds.map some ++ List.replicate (N.length - ds.length) none) (L2.start N vs) := by
  unfold L2.start
  refine ⟨by simp [r.length], fun i d h => ?_⟩
  by_cases hi : i < ds.length
  · rw [List.getElem?_append_left (by simpa using hi), List.getElem?_map] at h
    cases q : ds[i]? with
    | none => rw [q] at h; cases h
    | some x =>
      rw [q] at h
      cases h
      obtain ⟨v, hv, rv⟩ := r.get q
      refine ⟨v, ?_, rv⟩
      rw [List.getElem?_append_left (by simpa [← r.length] using hi), List.getElem?_map, hv]
      rfl
  · rw [List.getElem?_append_right (by simpa using hi), List.getElem?_replicate] at h
    split at h <;> cases h
section
variable {P : Program} {w : World} {K : PySem.W.Frag} {mg : Str → Option Value} {base : Heap} {cm : Str → Value}
theorem aft_run {L : List Addr} {H : Hp} {Q : VK} {E : XK} {n : Nat} {b : DSt} {ds : List D} {h : List Ob} (q : Aft K cm (wOf E) (Rep K cm) L [] H (runB n b ds h) Q) :
    AftS K cm (wOf E) L H (b ⟨ds.map some ++ List.replicate (n - ds.length) none, h⟩) { nx := fun _ H' => Q .non H', rt := Q } := by
  unfold runB at q
  generalize b ⟨ds.map some ++ List.replicate (n - ds.length) none, h⟩ = r at q
  cases r with
  | ok f S =>
    cases f with
    | next => exact fun L' H' σ' e x => q L' H' .non e x.bare .non
    | ret d => exact fun L' H' σ' v e x r => q L' H' v e x.bare r
    | brk => exact q.elim
    | cont => exact q.elim
  | exc e S => exact fun L' H' σ' c dx e x r => q L' H' c dx e x.bare r
  | stuck => exact q
/-- THE RULE of a def: from its body's plain form -/
theorem FnG.of {x qual : Str} {st : Stmt} {f : Addr} {fd : FuncData} {N ps : List Str} {k : Nat} {b : DSt} (F : Fun K x qual st f fd) (S : FnScope N ps (defScope st))
    (hbody : ∀ (cdv : Value) (A : Around) (fr : List Env) (s : Shared) (H : Hp) (E : XK), Room k (A.deeper (PyProof.Rows.envOfC qual (defScope st) s.heap.objs.size f cdv)) → (A.deeper (PyProof.Rows.envOfC qual (defScope st) s.heap.objs.size f cdv)).guards = some [] →
      PSs (cxOf (L2.CX P w) P w K mg base N qual (defScope st) f cdv A fr s H E) (defBody st) (rdS K cm (wOf E) b)) : FnG P w K mg base (k + 1) f fd ps (spD K cm ps.length (runB N.length b)) := by
  constructor
  · rintro vs H Q E ⟨L, ds, h, _, r, e, _⟩
    rw [← r.length, e]
  · rintro A fr s H args us vs Q E hr hg e0 hb rv ⟨L, ds, h, ab, rr, hn, q⟩
    obtain ⟨oc, od, kV, doc, pm, an, cdv, ct, osl, rfl, lk, hcd⟩ := F.ex
    have keep : ∀ (b : Addr) (o : Obj), base.get? b = some o → s.heap.get? b = some o := fun b o z => (e0.bs b o z).1
    have inK : K.In s.heap := e0.mod.kin.keeps keep
    have free : s.heap.NoLimit := e0.mod.nolimit.keeps keep
    have hl : vs.length = ps.length := by rw [← rr.length]; exact hn
    have kinds : ∀ z ∈ ps.zip us, (defScope st).names.lookup z.1 = some .local ∨ ((defScope st).names.lookup z.1 = some .cell ∧ ((cellsFrom (s.heap.objs.size + 1) (defScope st).names []).lookup z.1).isSome = true) := by
      rintro ⟨y, v⟩ hz
      rcases S.par y (List.of_mem_zip hz).1 with q | q
      · exact Or.inl q
      · exact Or.inr ⟨q, PySem.W.cellsFrom_some _ _ _ (Or.inl q)⟩
    apply codeAny_call_function hr.depth (inK _ _ lk) rfl S.co S.gen rfl (PySem.W.codeRec_of inK hcd)
    apply hb
    apply wpAny_newFunctionEnv_cells S.kind kinds
    rintro env rfl s1 x1
    refine ⟨free.keeps x1.toInCall.keep, codeAny_func ?_⟩
    have B := hbody cdv A fr s H E (hr.deeper _) hg
    have I := inv_start (CX := L2.CX P w) (E := E) S hr.hd e0 hl rv x1
    have start0 : AbS K cm L H ⟨ds.map some ++ List.replicate (N.length - ds.length) none, h⟩ (L2.start N vs) := ⟨ab.hp, loc_start N rr⟩
    apply wpAny_mono (B.run [] s1 (L2.start N vs) H { nx := fun _ H' => Q .non H', rt := Q } I ⟨L, _, start0, aft_run q⟩)
    · intro fl s2 h2
      cases fl with
      | ret u =>
        obtain ⟨v, σ2, H2, J, ru, q2⟩ := h2
        exact ⟨v, H2, J.os, J.bare, J.base, J.hok, ru, q2⟩
      | next =>
        obtain ⟨σ2, H2, J, q2⟩ := h2
        exact ⟨V.non, H2, J.os, J.bare, J.base, J.hok, rfl, q2⟩
      | brk => obtain ⟨_, _, _, q2⟩ := h2; exact q2.elim
      | cont => obtain ⟨_, _, _, q2⟩ := h2; exact q2.elim
    · exact fun _ _ z => z
end

/-! ### 10. calls -/
def dCall (F : Fn) (a : DA) : DE := fun S => (a S).bind fun ds S1 => match F ds S1.h with
  | .ok d S2 => .ok d ⟨S1.loc, S2.h⟩
  | .exc e S2 => .exc e ⟨S1.loc, S2.h⟩
  | .stuck => .stuck
section
variable {X : Cx} {cm : Str → Value} {W : WX} {k : Nat} {f : Addr} {fd : FuncData} {ps : List Str} {sp : Sp} {x : Str} {p pos : Pos} {e : Expr} {es : List Expr} {F0 : Fn} {ga : DA} {np : Nat}
theorem run_g {pins : List (Addr × Obj)} {σ : L2.St} {H : Hp} {s : Shared} {Q : VK} {us : List Value} {vs : List V} {args : Args} (F : FnG X.prog X.w X.K X.mg X.base k f fd ps sp) (hr : Room k X.A) (hg : X.A.guards = some []) (tk : Takes X W)
    (hb : BindsTo s fd args (ps.zip us)) (I : Inv X pins σ H s) (r : Vals vs us) (h : sp vs H Q (WE W σ)) : codeAny (model X.prog X.w) X.A (.call (.ref f) args) (callEnd (EP X pins σ Q) X.xe) s := by
  refine codeAny_mono (F.run X.A X.stack s H args us vs Q (WE W σ) hr hg I.env0 hb r h) fun r' s' hq => ?_
  cases r' with
  | error er => exact passAt tk σ pins H s er s' I hq
  | ok fl =>
    cases fl with
    | ret u => exact I.after hq
    | next => exact hq.elim
    | brk => exact hq.elim
    | cont => exact hq.elim
/-- a call's reading over a promise -/
theorem rd_call {σ : L2.St} {H : Hp} {Q : VK} (q : rdE X.K cm W (dCall F0 ga) σ H Q) (hn : ∀ ds S S1, ga S = .ok ds S1 → ds.length = np) : rdA X.K cm W ga σ H (fun vs H1 => spD X.K cm np F0 vs H1 Q (WE W σ)) := by
  obtain ⟨L, S, a, q⟩ := q
  refine ⟨L, S, a, ?_⟩
  unfold dCall at q
  have hl : ∀ ds S1, ga S = .ok ds S1 → ds.length = _ := fun ds S1 h => hn ds S S1 h
  generalize hr : ga S = r at q hl
  cases r with
  | ok ds S1 =>
    intro L1 H1 vs e1 x1 r1
    refine ⟨L1, ds, S1.h, x1.bare, r1, hl _ _ rfl, ?_⟩
    rw [Res.bind_ok] at q
    have q1 := Aft.ext e1 q
    generalize F0 ds S1.h = z at q1
    cases z with
    | ok d S2 => exact fun L2 H2 v e2 x2 r2 => q1 L2 H2 v e2 ⟨x2.hp, x1.loc.mono e2⟩ r2
    | exc u S2 => exact fun L2 H2 c dx e2 x2 r2 => q1 L2 H2 c dx e2 ⟨x2.hp, x1.loc.mono e2⟩ r2
    | stuck => exact q1
  | exc u S1 => exact q
  | stuck => exact q
/-- how many values an argument list gives -/
def Cnt (ga : DA) (n : Nat) : Prop := ∀ ds S S1, ga S = .ok ds S1 → ds.length = n
theorem cnt_nil : Cnt dNil 0 := fun ds S S1 h => by
  cases h; rfl
theorem cnt_cons {fa : DE} {ga : DA} {n : Nat} (h : Cnt ga n) : Cnt (dCons fa ga) (n + 1) := fun ds S S1 q => by
  unfold dCons at q
  cases e1 : fa S with
  | ok d S2 =>
    rw [e1, Res.bind_ok] at q
    cases e2 : ga S2 with
    | ok es S3 =>
      rw [e2, Res.bind_ok] at q
      cases q
      rw [List.length_cons, h _ _ _ e2]
    | exc u S3 => rw [e2] at q; cases q
    | stuck => rw [e2] at q; cases q
  | exc u S2 => rw [e1] at q; cases q
  | stuck => rw [e1] at q; cases q
theorem e_call (F : FnG X.prog X.w X.K X.mg X.base k f fd ps (spD X.K cm np F0)) (hr : Room k X.A) (hg : X.A.guards = some []) (tk : Takes X W) (hx : Gl X x) (hm : X.mg x = some (.ref f)) (hk : PySem.W.keepIn X.K (.ref f) = true) (hb : Binds X.K fd ps [])
    (ha : PA X (e :: es) (rdA X.K cm W ga)) (hn : Cnt ga np) (hdb : (x == ("__debug__" : Str)) = false := by decide) (he : starEach (e :: es) X.env = (false, eval e X.env) :: starEach es X.env := by rfl) (hpl : (backTo pos (starEach es X.env)).any (·.1) = false := by rfl) :
    PE X (.Call (.Name x p) (e :: es) [] pos) (rdE X.K cm W (dCall F0 ga)) := by
  constructor
  intro pins s σ H Q I q
  apply wpAny_Call_Name_kw
  apply ld_glob I hx hm _ hdb
  apply PySem.W.callWith_K (h₀ := X.base) I.ok.mod.kin hk _ he hpl
  apply thn (ha.run pos pins s σ H _ I (rd_call q hn))
  intro us s1 h1
  obtain ⟨vs, H1, I1, r1, q1⟩ := h1
  have hl : us.length = ps.length := by rw [← r1.length]; exact F.len _ _ _ _ q1
  have b := hb s1 us I1.kIn (by simpa using hl)
  rw [List.append_nil] at b
  exact ⟨I1.kIn, wpAny_call (run_g F hr hg tk b I1 r1 q1)⟩
theorem e_call0 (F : FnG X.prog X.w X.K X.mg X.base k f fd ps (spD X.K cm 0 F0)) (hr : Room k X.A) (hg : X.A.guards = some []) (tk : Takes X W) (hx : Gl X x) (hm : X.mg x = some (.ref f)) (hk : PySem.W.keepIn X.K (.ref f) = true) (hb : Binds X.K fd ps [])
    (hdb : (x == ("__debug__" : Str)) = false := by decide) : PE X (.Call (.Name x p) [] [] pos) (rdE X.K cm W (dCall F0 dNil)) := by
  constructor
  intro pins s σ H Q I q
  apply wpAny_Call_Name_kw
  apply ld_glob I hx hm _ hdb
  obtain ⟨L, S, a, q1⟩ := rd_call (np := 0) q cnt_nil
  have q2 := q1.give a .nil
  have hl : ([] : List Value).length = ps.length := F.len _ _ _ _ q2
  have b := hb s [] I.kIn (by simpa using hl)
  exact PySem.W.callWith_K0 I.kIn hk (wpAny_call (run_g F hr hg tk b I .nil q2))
/-- values by their places -/
def pick {α : Type} (perm : List Nat) (l : List α) : List α := perm.filterMap fun i => l[i]?
theorem pick_reps {K : PySem.W.Frag} {L : List Addr} {H : Hp} {ds : List D} {vs : List V} (r : Reps K cm L H ds vs) : ∀ perm : List Nat, Reps K cm L H (pick perm ds) (pick perm vs)
  | [] => .nil
  | i :: p => by
    unfold pick
    rw [List.filterMap_cons, List.filterMap_cons]
    cases hd : ds[i]? with
    | none =>
      have hv : vs[i]? = none := by
        rw [List.getElem?_eq_none_iff] at hd ⊢
        rw [← r.length]; exact hd
      rw [hv]
      exact pick_reps r p
    | some d =>
      obtain ⟨v, hv, rv⟩ := r.get hd
      rw [hv]
      exact .cons rv (pick_reps r p)
theorem pick_vals {vs : List V} {us : List Value} (r : Vals vs us) : ∀ perm : List Nat, Vals (pick perm vs) (pick perm us)
  | [] => .nil
  | i :: p => by
    unfold pick
    rw [List.filterMap_cons, List.filterMap_cons]
    cases hv : vs[i]? with
    | none =>
      rw [r.none_of hv]
      exact pick_vals r p
    | some v =>
      obtain ⟨u, hu, ru⟩ := r.get hv
      rw [hu]
      exact .cons ru (pick_vals r p)
def dCallK (F : Fn) (perm : List Nat) (a z : DA) : DE := fun S => (a S).bind fun ds S1 => (z S1).bind fun es S2 => match F (pick perm (ds ++ es)) S2.h with
  | .ok d S3 => .ok d ⟨S2.loc, S3.h⟩
  | .exc e S3 => .exc e ⟨S2.loc, S3.h⟩
  | .stuck => .stuck
/-- keywords: n positional values, the keywords ks; where each parameter's value stands -/
def KB (fd : FuncData) (ps : List Str) (n : Nat) (ks : List Str) (perm : List Nat) : Prop := ∀ us ws : List Value, us.length = n → ws.length = ks.length → bindArgs fd ⟨us, ks.zip ws⟩ = pure (ps.zip (pick perm (us ++ ws)))
theorem kb_of {y qual : Str} {st : Stmt} {n : Nat} {ks : List Str} {perm : List Nat} {K : PySem.W.Frag} (F : Fun K y qual st f fd) (h : ∀ (kV doc pm : Value) (an : Option Addr) (cdv ct : Value) (us ws : List Value), us.length = n → ws.length = ks.length →
    bindArgs (PySem.W.fnOf y qual (defArgs st) (defBody st) (defScope st) .none kV doc pm an cdv ct) ⟨us, ks.zip ws⟩ = pure (ps.zip (pick perm (us ++ ws)))) : KB fd ps n ks perm := by
  obtain ⟨oc, od, kV, doc, pm, an, cdv, ct, osl, rfl, _, _⟩ := F.ex
  exact h kV doc pm an cdv ct
theorem k_nil : PK X [] (rdA X.K cm W dNil) := ⟨fun pos pins s σ H Q I q => pk_nil.run pos pins s σ H Q I (by
  obtain ⟨L, S, a, q⟩ := q
  exact q.give a .nil)⟩
theorem k_cons {nm : Option Str} {kpos : Pos} {kws : List Keyword} {fa : DE} (h : PE X e (rdE X.K cm W fa)) (hr : PK X kws (rdA X.K cm W ga)) : PK X (⟨nm, e, kpos⟩ :: kws) (rdA X.K cm W (dCons fa ga)) := ⟨fun pos pins s σ H Q I q => (pk_cons h hr).run pos pins s σ H Q I (by
  obtain ⟨L, S, a, q⟩ := q
  refine ⟨L, S, a, (Aft.step (R := Rep X.K cm) q).mono fun v H1 z => ?_⟩
  obtain ⟨L1, S1, d, e1, x1, r1, q1⟩ := z
  refine ⟨L1, S1, x1, (Aft.step (R := Reps X.K cm) q1).mono fun u H2 z => ?_⟩
  obtain ⟨L2, S2, d2, e2, x2, r2, q2⟩ := z
  exact q2.give x2 (.cons (r1.mono e2) r2))⟩
theorem rd_callK {gz : DA} {perm : List Nat} {σ : L2.St} {H : Hp} {Q : VK} {n m : Nat} (q : rdE X.K cm W (dCallK F0 perm ga gz) σ H Q) (hn : Cnt ga n) (hm : Cnt gz m) (hp : ∀ l : List D, l.length = n + m → (pick perm l).length = np) :
    rdA X.K cm W ga σ H (fun vs H1 => vs.length = n ∧ rdA X.K cm W gz σ H1 (fun zs H2 => zs.length = m ∧ spD X.K cm np F0 (pick perm (vs ++ zs)) H2 Q (WE W σ))) := by
  obtain ⟨L, S, a, q⟩ := q
  refine ⟨L, S, a, ?_⟩
  unfold dCallK at q
  have hl : ∀ ds S1, ga S = .ok ds S1 → ds.length = _ := fun ds S1 h => hn ds S S1 h
  generalize hr : ga S = r at q hl
  cases r with
  | ok ds S1 =>
    intro L1 H1 vs e1 x1 r1
    refine ⟨by rw [← r1.length]; exact hl _ _ rfl, L1, S1, x1, ?_⟩
    rw [Res.bind_ok] at q
    have q1 := Aft.ext e1 q
    have hl2 : ∀ es S2, gz S1 = .ok es S2 → es.length = _ := fun es S2 h => hm es S1 S2 h
    generalize hr2 : gz S1 = r at q1 hl2
    cases r with
    | ok es S2 =>
      intro L2 H2 zs e2 x2 r2
      refine ⟨by rw [← r2.length]; exact hl2 _ _ rfl, ?_⟩
      rw [Res.bind_ok] at q1
      have q2 := Aft.ext e2 q1
      refine ⟨L2, pick perm (ds ++ es), S2.h, x2.bare, pick_reps ((r1.mono e2).append r2) perm, hp _ (by rw [List.length_append, hl _ _ rfl, hl2 _ _ rfl]), ?_⟩
      generalize F0 (pick perm (ds ++ es)) S2.h = z at q2
      cases z with
      | ok d S3 => exact fun L3 H3 v e3 x3 r3 => q2 L3 H3 v e3 ⟨x3.hp, x2.loc.mono e3⟩ r3
      | exc u S3 => exact fun L3 H3 c dx e3 x3 r3 => q2 L3 H3 c dx e3 ⟨x3.hp, x2.loc.mono e3⟩ r3
      | stuck => exact q2
    | exc u S2 => exact q1
    | stuck => exact q1
  | exc u S1 => exact q
  | stuck => exact q
/-- f(e, .., k = v, ..) -/
theorem e_callK {gz : DA} {perm : List Nat} {n m : Nat} {ks : List Str} {kws : List Keyword} (F : FnG X.prog X.w X.K X.mg X.base k f fd ps (spD X.K cm np F0)) (hr : Room k X.A) (hg : X.A.guards = some []) (tk : Takes X W) (hx : Gl X x) (hm : X.mg x = some (.ref f)) (hk : PySem.W.keepIn X.K (.ref f) = true)
    (hb : KB fd ps n ks perm) (ha : PA X (e :: es) (rdA X.K cm W ga)) (hz : PK X kws (rdA X.K cm W gz)) (hn : Cnt ga n) (hmm : Cnt gz m) (hp : ∀ l : List D, l.length = n + m → (pick perm l).length = np) (hkm : ks.length = m := by rfl)
    (hall : (backToKw pos (keywordEach kws X.env)).all (·.1.isSome) = true := by rfl) (hks : (backToKw pos (keywordEach kws X.env)).filterMap (·.1) = ks := by rfl) (hdb : (x == ("__debug__" : Str)) = false := by decide)
    (he : starEach (e :: es) X.env = (false, eval e X.env) :: starEach es X.env := by rfl) (hpl : ((backTo pos (starEach (e :: es) X.env)).any (·.1) || (backToKw pos (keywordEach kws X.env)).any (·.1.isNone)) = false := by rfl) :
    PE X (.Call (.Name x p) (e :: es) kws pos) (rdE X.K cm W (dCallK F0 perm ga gz)) := by
  constructor
  intro pins s σ H Q I q
  apply wpAny_Call_Name_kw
  apply ld_glob I hx hm _ hdb
  apply PySem.W.callWith_KW (h₀ := X.base) I.ok.mod.kin hk hall _ hpl he
  apply thn (ha.run pos pins s σ H _ I (rd_callK q hn hmm hp))
  rintro us s1 ⟨vs, H1, I1, r1, l1, q1⟩
  apply thn (hz.run pos pins s1 σ H1 _ I1 q1)
  rintro ws s2 ⟨zs, H2, I2, r2, l2, q2⟩
  have b : BindsTo s2 fd ⟨us, ks.zip ws⟩ (ps.zip (pick perm (us ++ ws))) := .of_eq (hb us ws (by rw [← r1.length]; exact l1) (by rw [← r2.length, hkm]; exact l2))
  rw [hks]
  exact ⟨I2.kIn, wpAny_call (run_g F hr hg tk b I2 (pick_vals (r1.append r2) perm) q2)⟩
theorem e_callK0 {gz : DA} {perm : List Nat} {m : Nat} {ks : List Str} {kws : List Keyword} (F : FnG X.prog X.w X.K X.mg X.base k f fd ps (spD X.K cm np F0)) (hr : Room k X.A) (hg : X.A.guards = some []) (tk : Takes X W) (hx : Gl X x) (hm : X.mg x = some (.ref f)) (hk : PySem.W.keepIn X.K (.ref f) = true)
    (hb : KB fd ps 0 ks perm) (hz : PK X kws (rdA X.K cm W gz)) (hmm : Cnt gz m) (hp : ∀ l : List D, l.length = 0 + m → (pick perm l).length = np) (hkm : ks.length = m := by rfl)
    (hall : (backToKw pos (keywordEach kws X.env)).all (·.1.isSome) = true := by rfl) (hks : (backToKw pos (keywordEach kws X.env)).filterMap (·.1) = ks := by rfl) (hdb : (x == ("__debug__" : Str)) = false := by decide)
    (hpl : ((backTo pos (starEach [] X.env)).any (·.1) || (backToKw pos (keywordEach kws X.env)).any (·.1.isNone)) = false := by rfl) :
    PE X (.Call (.Name x p) [] kws pos) (rdE X.K cm W (dCallK F0 perm dNil gz)) := by
  constructor
  intro pins s σ H Q I q
  apply wpAny_Call_Name_kw
  apply ld_glob I hx hm _ hdb
  apply PySem.W.callWith_KW0 (h₀ := X.base) I.ok.mod.kin hk hall _ hpl
  obtain ⟨L, S, a, q0⟩ := rd_callK q cnt_nil hmm hp
  obtain ⟨_, q1⟩ := q0.give a .nil
  apply thn (hz.run pos pins s σ H _ I q1)
  rintro ws s2 ⟨zs, H2, I2, r2, l2, q2⟩
  have b : BindsTo s2 fd ⟨[], ks.zip ws⟩ (ps.zip (pick perm ([] ++ ws))) := .of_eq (hb [] ws rfl (by rw [← r2.length, hkm]; exact l2))
  rw [hks]
  exact ⟨I2.kIn, wpAny_call (run_g F hr hg tk b I2 (pick_vals (.append .nil r2) perm) q2)⟩
end
end Den

namespace Den
open PySem L2

/-! ### 11. built-in calls -/
theorem callR_or {X : Cx} {f : Value} {r r' : List V → Hp → VK → Prop} (h : CallR X f r) (h' : CallR X f r') : CallR X f (fun xs H Q => r xs H Q ∨ r' xs H Q) := by
  intro pins s σ H xs us Q I rv q
  rcases q with q | q
  · exact h pins s σ H xs us Q I rv q
  · exact h' pins s σ H xs us Q I rv q
section
variable (X : Cx) (cm : Str → Value) (W : WX)
def COp (r : List V → Hp → VK → Prop) (f : List D → DS → Res D) : Prop := ∀ {L : List Addr} {H : Hp} {S : DS} {σ : L2.St} {xs : List V} {ds : List D} {Q : VK}, AbS X.K cm L H S σ → Reps X.K cm L H ds xs →
  Aft X.K cm W (Rep X.K cm) L σ H (f ds S) Q → r xs H Q
/-- a method of a built-in's instance -/
def MOp (r : V → List V → Hp → VK → Prop) (f : D → List D → DS → Res D) : Prop := ∀ {L : List Addr} {H : Hp} {S : DS} {σ : L2.St} {x : V} {xs : List V} {d : D} {ds : List D} {Q : VK}, AbS X.K cm L H S σ → Rep X.K cm L H d x → Reps X.K cm L H ds xs →
  Aft X.K cm W (Rep X.K cm) L σ H (f d ds S) Q → r x xs H Q
end
def dCB (f : List D → DS → Res D) (a : DA) : DE := fun S => (a S).bind fun ds S1 => f ds S1
def cLen : List D → DS → Res D := fun ds S => match ds with
  | [.str x] => if x.length ≤ mxL then .ok (.int x.length) S else .stuck
  | [.tup xs] => .ok (.int xs.length) S
  | [.ro xs] => .ok (.int xs.length) S
  | [.ref n] => match S.h[n]? with
    | some (.lst xs) => .ok (.int xs.length) S
    | some (.dct kvs) => .ok (.int kvs.length) S
    | _ => .stuck
  | _ => .stuck
def cAbs : List D → DS → Res D := fun ds S => match ds with
  | [.int i] => .ok (.int (if i < 0 then -i else i)) S
  | _ => .stuck
def cInt : List D → DS → Res D := fun ds S => match ds with
  | [.int i] => .ok (.int i) S
  | [.bl b] => .ok (.int (if b then 1 else 0)) S
  | _ => .stuck
def cTuple : List D → DS → Res D := fun ds S => match ds with
  | [.tup xs] => .ok (.tup xs) S
  | [.ro xs] => .ok (.tup xs) S
  | [.ref n] => match S.h[n]? with
    | some (.lst xs) => .ok (.tup xs) S
    | _ => .stuck
  | _ => .stuck
def keyD : Key → D
  | .inl i => .int i
  | .inr x => .str x
def cList : List D → DS → Res D := fun ds S => match ds with
  | [.tup xs] => newO (.lst xs) S
  | [.ro xs] => newO (.lst xs) S
  | [.ref n] => match S.h[n]? with
    | some (.lst xs) => newO (.lst xs) S
    | some (.dct kvs) => newO (.lst (kvs.map fun kv => keyD kv.1)) S
    | _ => .stuck
  | _ => .stuck
/-- the built-in type's name -/
def tyName (S : DS) : D → Option String
  | .non => some "NoneType"
  | .bl _ => some "bool"
  | .int _ => some "int"
  | .str _ => some "str"
  | .tup _ => some "tuple"
  | .ro _ => some "list"
  | .ref n => match S.h[n]? with
    | some (.lst _) => some "list"
    | some (.dct _) => some "dict"
    | some (.fdct _) => some "dict"
    | none => none
  | _ => none
def isaB (a b : String) : Option Bool :=
  if ["NoneType", "bool", "int", "str", "tuple", "list", "dict"].contains a && ["bool", "int", "str", "tuple", "list", "dict"].contains b then some (a == b || (a == "bool" && b == "int")) else none
theorem isaB_ok {a b : String} {r : Bool} (h : isaB a b = some r) : kitB a b = some r := by
  unfold isaB at h
  split at h
  · rename_i hc
    obtain ⟨h1, h2⟩ := Bool.and_eq_true_iff.mp hc
    have m1 : a ∈ ["NoneType", "bool", "int", "str", "tuple", "list", "dict"] := by simpa using h1
    have m2 : b ∈ ["bool", "int", "str", "tuple", "list", "dict"] := by simpa using h2
    rw [← h]
    simp only [List.mem_cons, List.not_mem_nil, or_false] at m1 m2
    rcases m1 with rfl | rfl | rfl | rfl | rfl | rfl | rfl <;> rcases m2 with rfl | rfl | rfl | rfl | rfl | rfl <;> decide +kernel
  · cases h
def cIsi : List D → DS → Res D := fun ds S => match ds with
  | [d, .ty n] => match tyName S d with
    | some m => match isaB m n with
      | some b => .ok (.bl b) S
      | none => .stuck
    | none => .stuck
  | _ => .stuck
def cRepr : List D → DS → Res D := fun ds S => match ds with
  | [d] => match pyD S d with
    | some p => if PyData.showable p && !p.hasDict && decide (p.depth ≤ 30) && decide (p.shown.length ≤ mxL) then .ok (.str p.shown) S else .stuck
    | none => .stuck
  | _ => .stuck

section
variable {X : Cx} {cm : Str → Value} {W : WX} {e e1 e2 o : Expr} {es : List Expr} {x : Str} {p pos apos cpos : Pos} {fa fb fo : DE} {ga : DA}
theorem rd_cb {r : List V → Hp → VK → Prop} {f : List D → DS → Res D} (h : COp X cm W r f) {σ : L2.St} {H : Hp} {Q : VK} (q : rdE X.K cm W (dCB f ga) σ H Q) : tCB r (rdA X.K cm W ga) σ H Q := by
  obtain ⟨L, S, a, q⟩ := q
  refine ⟨L, S, a, (Aft.step (R := Reps X.K cm) q).mono fun v H1 z => ?_⟩
  obtain ⟨L1, S1, d, e1, x1, r1, q1⟩ := z
  exact h x1 r1 q1
theorem e_cb {id : String} {r : List V → Hp → VK → Prop} {f : List D → DS → Res D} (hc : CallR X (.builtin id) r) (h : COp X cm W r f) (hg : Gl X x) (hm : X.mg x = none) (hv : bootBuiltins x = some (.builtin id)) (ha : PA X (e :: es) (rdA X.K cm W ga))
    (hn : x ≠ "__name__" := by decide) (hdb : (x == ("__debug__" : Str)) = false := by decide) (he : starEach (e :: es) X.env = (false, eval e X.env) :: starEach es X.env := by rfl) (hpl : (backTo pos (starEach es X.env)).any (·.1) = false := by rfl) :
    PE X (.Call (.Name x p) (e :: es) [] pos) (rdE X.K cm W (dCB f ga)) := weakE (pe_callB hc hg hm hv ha hn hdb he hpl) fun _ _ _ => rd_cb h
theorem e_ct {T : String} {r : List V → Hp → VK → Prop} {f : List D → DS → Res D} (hc : CallR X (.type T) r) (h : COp X cm W r f) (hg : Gl X x) (hm : X.mg x = none) (hv : bootBuiltins x = some (.type T)) (ha : PA X (e :: es) (rdA X.K cm W ga))
    (hn : x ≠ "__name__" := by decide) (hdb : (x == ("__debug__" : Str)) = false := by decide) (he : starEach (e :: es) X.env = (false, eval e X.env) :: starEach es X.env := by rfl) (hpl : (backTo pos (starEach es X.env)).any (·.1) = false := by rfl) :
    PE X (.Call (.Name x p) (e :: es) [] pos) (rdE X.K cm W (dCB f ga)) := weakE (pe_callTy hc hg hm hv ha hn hdb he hpl) fun _ _ _ => rd_cb h
/-- a built-in class as a value -/
theorem e_ty {n : String} (hg : Gl X x) (hm : X.mg x = none) (hv : bootBuiltins x = some (.type n)) (hn : x ≠ "__name__" := by decide) (hd : (x == ("__debug__" : Str)) = false := by decide) : PE X (.Name x pos) (rdE X.K cm W (dC (.ty n))) :=
  weakE (pe_bltn (v := .ty n) hg hm hv rfl hn hd) fun _ _ _ => rd_c fun _ _ => .ty n
theorem repK_length {K : PySem.W.Frag} {L : List Addr} {H : Hp} : ∀ {ds : List (Key × D)} {vs : List (Key × V)}, RepK K cm L H ds vs → ds.length = vs.length
  | _, _, .nil => rfl
  | _, _, .cons _ t => by rw [List.length_cons, List.length_cons, repK_length t]
theorem co_len : COp X cm W (fun xs H Q => ((∃ z, xs = [.str z] ∧ z.length ≤ sizeLine ∧ Q (.int z.length) H) ∨ (∃ p ys, xs = [.ref p] ∧ (SqL X.K H p ys ∨ SqT X.K H p ys) ∧ Q (.int ys.length) H)) ∨ (∃ a kvs, xs = [V.ref a] ∧ H a = some (.dK kvs) ∧ Q (.int kvs.length) H)) cLen := by
  intro L H S σ xs ds Q a r q
  unfold cLen at q
  split at q
  · split at q
    · rename_i h
      cases r with
      | cons r1 r2 => cases r2; cases r1; exact .inl (.inl ⟨_, rfl, mx_line h, q.give a (.int _)⟩)
    · exact q.elim
  · cases r with
    | cons r1 r2 =>
      cases r2
      cases r1 with
      | tup h rr => exact .inl (.inr ⟨_, _, rfl, .inr h, by rw [← rr.length]; exact q.give a (.int _)⟩)
  · cases r with
    | cons r1 r2 =>
      cases r2
      cases r1 with
      | ro h rr => exact .inl (.inr ⟨_, _, rfl, .inl h.sq, by rw [← rr.length]; exact q.give a (.int _)⟩)
  · cases r with
    | cons r1 r2 =>
      cases r2
      split at q
      · rename_i h
        obtain ⟨p1, vs1, rfl, g1, e1, q1⟩ := a.lst r1 h
        exact .inl (.inr ⟨_, _, rfl, .inl (SqL.of e1), by rw [← q1.length]; exact q.give a (.int _)⟩)
      · rename_i h
        obtain ⟨p1, vs1, rfl, g1, e1, q1⟩ := a.dct r1 h
        exact .inr ⟨_, _, rfl, e1, by rw [← repK_length q1]; exact q.give a (.int _)⟩
      · exact q.elim
  · exact q.elim
theorem call_len_any : CallR X (.builtin "len") (fun xs H Q => ((∃ z, xs = [.str z] ∧ z.length ≤ sizeLine ∧ Q (.int z.length) H) ∨ (∃ p ys, xs = [.ref p] ∧ (SqL X.K H p ys ∨ SqT X.K H p ys) ∧ Q (.int ys.length) H)) ∨ (∃ a kvs, xs = [V.ref a] ∧ H a = some (.dK kvs) ∧ Q (.int kvs.length) H)) :=
  callR_or (callR_or call_len_str call_len_seq) call_lenD
theorem co_abs : COp X cm W (fun xs H Q => ∃ i, xs = [.int i] ∧ Q (.int (if i < 0 then -i else i)) H) cAbs := by
  intro L H S σ xs ds Q a r q
  unfold cAbs at q
  split at q
  · cases r with
    | cons r1 r2 => cases r2; cases r1; exact ⟨_, rfl, q.give a (.int _)⟩
  · exact q.elim
theorem co_int : COp X cm W (fun xs H Q => (∃ i, xs = [.int i] ∧ Q (.int i) H) ∨ ∃ k, xs = [.bl k] ∧ Q (.int (if k then 1 else 0)) H) cInt := by
  intro L H S σ xs ds Q a r q
  unfold cInt at q
  split at q
  · cases r with
    | cons r1 r2 => cases r2; cases r1; exact .inl ⟨_, rfl, q.give a (.int _)⟩
  · cases r with
    | cons r1 r2 => cases r2; cases r1; exact .inr ⟨_, rfl, q.give a (.int _)⟩
  · exact q.elim
theorem co_tuple : COp X cm W (fun xs H Q => ∃ p ys, xs = [.ref p] ∧ ((SqL X.K H p ys ∧ ∀ l, H l = none → Q (.ref l) (upd H l (.tup ys))) ∨ (SqT X.K H p ys ∧ Q (.ref p) H))) cTuple := by
  intro L H S σ xs ds Q a r q
  unfold cTuple at q
  split at q
  · cases r with
    | cons r1 r2 =>
      cases r2
      cases r1 with
      | tup h rr => exact ⟨_, _, rfl, .inr ⟨h, q.give a (.tup h rr)⟩⟩
  · cases r with
    | cons r1 r2 =>
      cases r2
      cases r1 with
      | ro h rr => exact ⟨_, _, rfl, .inl ⟨h.sq, fun l hl => q.giveE (Ext.beside hl) (a.beside hl) (.tup (.inl (.inl upd_same)) (rr.mono (Ext.beside hl)))⟩⟩
  · cases r with
    | cons r1 r2 =>
      cases r2
      split at q
      · rename_i h
        obtain ⟨p1, vs1, rfl, g1, e1, q1⟩ := a.lst r1 h
        exact ⟨_, _, rfl, .inl ⟨SqL.of e1, fun l hl => q.giveE (Ext.beside hl) (a.beside hl) (.tup (.inl (.inl upd_same)) (q1.mono (Ext.beside hl)))⟩⟩
      · exact q.elim
  · exact q.elim
theorem keys_reps {K : PySem.W.Frag} {L : List Addr} {H : Hp} : ∀ {ds : List (Key × D)} {vs : List (Key × V)}, RepK K cm L H ds vs → Reps K cm L H (ds.map fun kv => keyD kv.1) (vs.map fun kv => kV kv.1)
  | _, _, .nil => .nil
  | _, _, .cons (k := k) _ t => .cons (by cases k with
    | inl i => exact .int i
    | inr x => exact .str x) (keys_reps t)
theorem co_list : COp X cm W (fun xs H Q => (∃ p ys, xs = [.ref p] ∧ (SqL X.K H p ys ∨ SqT X.K H p ys) ∧ ∀ l, H l = none → Q (.ref l) (upd H l (.lst ys))) ∨ rListD xs H Q) cList := by
  intro L H S σ xs ds Q a r q
  unfold cList at q
  split at q
  · cases r with
    | cons r1 r2 =>
      cases r2
      cases r1 with
      | tup h rr => exact .inl ⟨_, _, rfl, .inr h, fun l hl => give_new a rr q hl⟩
  · cases r with
    | cons r1 r2 =>
      cases r2
      cases r1 with
      | ro h rr => exact .inl ⟨_, _, rfl, .inl h.sq, fun l hl => give_new a rr q hl⟩
  · cases r with
    | cons r1 r2 =>
      cases r2
      split at q
      · rename_i h
        obtain ⟨p1, vs1, rfl, g1, e1, q1⟩ := a.lst r1 h
        exact .inl ⟨_, _, rfl, .inl (SqL.of e1), fun l hl => give_new a q1 q hl⟩
      · rename_i h
        obtain ⟨p1, vs1, rfl, g1, e1, q1⟩ := a.dct r1 h
        exact .inr ⟨_, _, rfl, e1, fun l hl => give_new a (keys_reps q1) q hl⟩
      · exact q.elim
  · exact q.elim
theorem call_list_any (hc : X.calm = true) : CallR X (.type "list") (fun xs H Q => (∃ p ys, xs = [.ref p] ∧ (SqL X.K H p ys ∨ SqT X.K H p ys) ∧ ∀ l, H l = none → Q (.ref l) (upd H l (.lst ys))) ∨ rListD xs H Q) :=
  callR_or call_list_of (call_list_dK hc)
theorem ty_tup {K : PySem.W.Frag} {H : Hp} {a : Addr} {vs : List V} (h : SqT K H a vs) : TyX K H (.ref a) (.type "tuple") := by
  rcases h with (h | ⟨o, h⟩) | ⟨o, its, n, h, c, _⟩
  · exact .base (.tup h)
  · exact .fTuple h
  · exact .kTuple h c
theorem ty_lst {K : PySem.W.Frag} {H : Hp} {a : Addr} {vs : List V} (h : SqR K H a vs) : TyX K H (.ref a) (.type "list") := by
  rcases h with ⟨o, h⟩ | ⟨o, its, n, h, c, _⟩
  · exact .base (.frz h)
  · exact .kList h c
theorem ty_of {L : List Addr} {H : Hp} {S : DS} {σ : L2.St} {K : PySem.W.Frag} (a : AbS K cm L H S σ) {d : D} {v : V} (r : Rep K cm L H d v) {m : String} (h : tyName S d = some m) : TyX K H v (.type m) := by
  cases r with
  | non => cases h; exact .base .non
  | bl b => cases h; exact .base (.bl b)
  | int b => cases h; exact .base (.int b)
  | str b => cases h; exact .base (.str b)
  | ty n => cases h
  | cls n => cases h
  | tup hs _ => cases h; exact ty_tup hs
  | ro hs _ => cases h; exact ty_lst hs
  | @ref n p hL =>
    unfold tyName at h
    dsimp only at h
    split at h
    · rename_i xs hx
      cases h
      obtain ⟨vs, q, _⟩ := a.hp.obs _ _ _ hx hL
      exact .base (.lst q)
    · rename_i xs hx
      cases h
      obtain ⟨vs, q, _⟩ := a.hp.obs _ _ _ hx hL
      exact .base (.dK q)
    · rename_i xs hx
      cases h
      obtain ⟨o, vs, q, _⟩ := a.hp.obs _ _ _ hx hL
      exact .fDict q
    · cases h
theorem co_isi : COp X cm W (rIsi X.K) cIsi := by
  intro L H S σ xs ds Q a r q
  unfold cIsi at q
  split at q
  · split at q
    · rename_i m hm
      split at q
      · rename_i b hb
        cases r with
        | cons r1 r2 =>
          cases r2 with
          | cons r2 r3 =>
            cases r3
            cases r2
            exact ⟨_, _, _, _, b, rfl, .ty _, ty_of a r1 hm, kit_ty (isaB_ok hb), q.give a (.bl b)⟩
      · exact q.elim
    · exact q.elim
  · exact q.elim
/-- repr of data of any depth -/
def rReprD (K : PySem.W.Frag) : List V → Hp → VK → Prop := fun xs H Q => ∃ v p, xs = [v] ∧ Dp K H v p ∧ PyData.showable p = true ∧ p.hasDict = false ∧ p.depth ≤ 30 ∧ p.shown.length ≤ sizeLine ∧ Q (.str p.shown) H
theorem call_reprD (hu : X.A.units + 64 < cLine) (hg : X.A.guards = some []) : CallR X (.builtin "repr") (rReprD X.K) := by
  intro pins s σ H xs us Q I r h
  obtain ⟨v, p, rfl, hd, hs, hnd, hdp, hz, q⟩ := h
  obtain ⟨u, rfl, ru⟩ := vals1 r
  obtain ⟨as, rr⟩ := Dp.reads I p v u hd ru
  have big : ∀ a, Reads s.heap (.ref a) p as → wpAny (model X.prog X.w) X.A (call (.builtin "repr") [.ref a]) (EP X pins σ Q) X.xe s := fun a rr =>
    repr_of_reads' rr hs (PyData.noDict_hsm hnd) hg (by omega) (fun _ _ z => z) (fun h' t tk k => ⟨.str p.shown, H, I.kept k, ⟨_, rfl⟩, q⟩) hz
  cases rr with
  | none =>
    rw [PyData.shown_none] at q
    exact PySem.P.repr_of_none ⟨.str _, H, I.tok _, ⟨_, rfl⟩, q⟩
  | bool b =>
    rw [PyData.shown_bool] at q
    exact PySem.P.repr_of_bool ⟨.str _, H, I.tok _, ⟨_, rfl⟩, q⟩
  | int i t =>
    rw [PyData.shown_int] at q
    exact PySem.P.repr_of_int (by simpa [PyData.showable] using hs) ⟨.str _, H, I.tok _, ⟨_, rfl⟩, q⟩
  | str x t =>
    rw [PyData.shown_str] at q hz
    exact PySem.P.repr_of_str ⟨.str _, H, I.tok _, ⟨_, rfl⟩, q⟩ hz
  | list h1 h2 h3 h4 => exact big _ (.list h1 h2 h3 h4)
  | tuple h1 h2 h3 h4 => exact big _ (.tuple h1 h2 h3 h4)
  | dict h1 h2 h3 h4 h5 => exact big _ (.dict h1 h2 h3 h4 h5)
theorem co_repr : COp X cm W (rReprD X.K) cRepr := by
  intro L H S σ xs ds Q a r q
  unfold cRepr at q
  split at q
  · split at q
    · rename_i p hp
      split at q
      · rename_i h
        simp only [Bool.and_eq_true, Bool.not_eq_true', decide_eq_true_eq] at h
        obtain ⟨⟨⟨h1, h2⟩, h3⟩, h4⟩ := h
        cases r with
        | cons r1 r2 =>
          cases r2
          exact ⟨_, p, rfl, pyD_rep a r1 hp, h1, h2, h3, mx_line h4, q.give a (.str _)⟩
      · exact q.elim
    · exact q.elim
  · exact q.elim
end
end Den

namespace Den
open PySem L2

/-! ### 12. subscripts, slices, in -/
def oIx : D → D → DS → Res D := fun x y S => match x, y with
  | .tup xs, .int i => match atI xs i with
    | some d => .ok d S
    | none => .stuck
  | .ro xs, .int i => match atI xs i with
    | some d => .ok d S
    | none => .stuck
  | .str z, .int i => if z.length ≤ mxL then match atI z.cps.toList i with
    | some c => .ok (.str ⟨#[c]⟩) S
    | none => .stuck else .stuck
  | .ref n, y => match S.h[n]?, y with
    | some (.lst xs), .int i => match atI xs i with
      | some d => .ok d S
      | none => .stuck
    | some (.dct kvs), y => match keyOf y with
      | some k => match valD kvs k with
        | some d => .ok d S
        | none => .stuck
      | none => .stuck
    | some (.fdct kvs), y => match keyOf y with
      | some k => match valD kvs k with
        | some d => .ok d S
        | none => .stuck
      | none => .stuck
    | _, _ => .stuck
  | _, _ => .stuck
def rIxD : R2 := fun x y H Q => ∃ a v, x = .ref a ∧ DGet H a y (some v) ∧ Q v H
section
variable {X : Cx} {cm : Str → Value} {W : WX} {e e1 e2 o : Expr} {es : List Expr} {x : Str} {p pos apos cpos : Pos} {fa fb fo : DE} {ga : DA} {K : PySem.W.Frag} {L : List Addr} {H : Hp} {S : DS} {σ : L2.St}
theorem ix_dct (hu : X.A.units + 1 < cLine) : IxR X rIxD := by
  intro value slice pins s σ H x y v u Q I rx ry h hs
  obtain ⟨a, z, rfl, g, q⟩ := h
  cases rx
  exact PyProof.Rows.tail_any (dict_typeIs I g) PySem.F.slot_dict_getitem.lookup (d_getItem hu I g ry fun w' s3 I3 rw' => ⟨z, H, I3, rw', q⟩) hs
theorem reps_at {ds : List D} {vs : List V} {i : Int} {d : D} (r : Reps K cm L H ds vs) (h : atI ds i = some d) : ∃ v, atI vs i = some v ∧ Rep K cm L H d v := by
  unfold atI at h ⊢
  rw [← r.length]
  cases e : ixN ds.length i with
  | none => rw [e] at h; cases h
  | some j =>
    rw [e] at h
    exact r.get h
theorem repK_find {f : Key → Bool} : ∀ {ds : List (Key × D)} {vs : List (Key × V)}, RepK K cm L H ds vs → (∀ p, ds.find? (fun p => f p.1) = some p → ∃ q, vs.find? (fun p => f p.1) = some q ∧ q.1 = p.1 ∧ Rep K cm L H p.2 q.2) ∧ (ds.find? (fun p => f p.1) = none → vs.find? (fun p => f p.1) = none)
  | [], [], .nil => ⟨fun _ h => (by cases h), fun _ => rfl⟩
  | (j, d0) :: ds, (_, v0) :: vs, .cons r t => by
    obtain ⟨h1, h2⟩ := repK_find (f := f) t
    rw [List.find?_cons, List.find?_cons]
    cases f j with
    | true => exact ⟨fun p h => (by cases h; exact ⟨_, rfl, rfl, r⟩), fun h => (by cases h)⟩
    | false => exact ⟨h1, h2⟩
theorem repK_val {ds : List (Key × D)} {vs : List (Key × V)} (k : Key) (r : RepK K cm L H ds vs) : (∀ d, valD ds k = some d → ∃ v, valV vs k = some v ∧ Rep K cm L H d v) ∧ (valD ds k = none → valV vs k = none) := by
  obtain ⟨h1, h2⟩ := repK_find (f := fun j => decide (j = k)) r
  unfold valD valV
  refine ⟨fun d h => ?_, fun h => ?_⟩
  · obtain ⟨p, hp, rfl⟩ := Option.map_eq_some_iff.mp h
    obtain ⟨q, hq, _, rq⟩ := h1 p hp
    exact ⟨q.2, by rw [hq]; rfl, rq⟩
  · rw [h2 (Option.map_eq_none_iff.mp h)]
    rfl
theorem repK_any {f : Key → Bool} : ∀ {ds : List (Key × D)} {vs : List (Key × V)}, RepK K cm L H ds vs → ds.any (fun p => f p.1) = vs.any (fun p => f p.1)
  | _, _, .nil => rfl
  | _, _, .cons _ t => by rw [List.any_cons, List.any_cons, repK_any t]
theorem repK_append : ∀ {ds es : List (Key × D)} {vs ws : List (Key × V)}, RepK K cm L H ds vs → RepK K cm L H es ws → RepK K cm L H (ds ++ es) (vs ++ ws)
  | _, _, _, _, .nil, q => q
  | _, _, _, _, .cons r t, q => .cons r (repK_append t q)
theorem repK_map {k : Key} {d : D} {v : V} (r0 : Rep K cm L H d v) : ∀ {ds : List (Key × D)} {vs : List (Key × V)}, RepK K cm L H ds vs → RepK K cm L H (ds.map fun p => if p.1 = k then (p.1, d) else p) (vs.map fun p => if p.1 = k then (p.1, v) else p)
  | [], [], .nil => .nil
  | (j, d1) :: _, (_, v1) :: _, .cons r t => by
    rw [List.map_cons, List.map_cons]
    by_cases z : j = k
    · rw [if_pos (show (j, d1).1 = k from z), if_pos (show (j, v1).1 = k from z)]
      exact .cons r0 (repK_map r0 t)
    · rw [if_neg (show ¬ (j, d1).1 = k from z), if_neg (show ¬ (j, v1).1 = k from z)]
      exact .cons r (repK_map r0 t)
theorem repK_put {ds : List (Key × D)} {vs : List (Key × V)} {k : Key} {d : D} {v : V} (r : RepK K cm L H ds vs) (r0 : Rep K cm L H d v) : RepK K cm L H (putD ds k d) (putK vs k v) := by
  unfold putD putK hasD
  rw [repK_any (f := fun j => decide (j = k)) r]
  split
  · exact repK_map r0 r
  · exact repK_append r (.cons r0 .nil)
theorem keyOf_rep {d : D} {v : V} {k : Key} (r : Rep K cm L H d v) (h : keyOf d = some k) : v = kV k := by
  cases r <;> simp [keyOf] at h <;> subst h <;> rfl
theorem AbS.dget {n : Nat} {v : V} {kvs : List (Key × D)} (a : AbS K cm L H S σ) (r : Rep K cm L H (.ref n) v) (h : S.h[n]? = some (.dct kvs) ∨ S.h[n]? = some (.fdct kvs)) : ∃ p vs, v = .ref p ∧ Rd H p (.dK vs) ∧ RepK K cm L H kvs vs := by
  cases r with
  | ref ha =>
    rcases h with h | h
    · obtain ⟨vs, q, r⟩ := a.hp.obs _ _ _ h ha
      exact ⟨_, vs, rfl, .inl q, r⟩
    · obtain ⟨o, vs, q, r⟩ := a.hp.obs _ _ _ h ha
      exact ⟨_, vs, rfl, .inr ⟨o, q⟩, r⟩
theorem ro_ix : ROp X cm W (fun x y H Q => rIx X.K x y H Q ∨ rIxD x y H Q) oIx := by
  intro L H S σ x y d e Q a r1 r2 q
  unfold oIx at q
  split at q
  · split at q
    · rename_i h
      cases r1 with
      | tup hs rr =>
        cases r2
        obtain ⟨v, hv, rv⟩ := reps_at rr h
        exact .inl (.inr (.inl ⟨_, _, _, _, rfl, rfl, hs, hv, q.give a rv⟩))
    · exact q.elim
  · split at q
    · rename_i h
      cases r1 with
      | ro hs rr =>
        cases r2
        obtain ⟨v, hv, rv⟩ := reps_at rr h
        exact .inl (.inl ⟨_, _, _, _, rfl, rfl, hs.sq, hv, q.give a rv⟩)
    · exact q.elim
  · split at q
    · rename_i hz
      split at q
      · rename_i h
        cases r1; cases r2
        exact .inl (.inr (.inr ⟨_, _, _, rfl, rfl, mx_line hz, h, q.give a (.str _)⟩))
      · exact q.elim
    · exact q.elim
  · split at q
    · rename_i hx
      split at q
      · rename_i h
        obtain ⟨p1, vs1, rfl, g1, e1, q1⟩ := a.lst r1 hx
        cases r2
        obtain ⟨v, hv, rv⟩ := reps_at q1 h
        exact .inl (.inl ⟨_, _, _, _, rfl, rfl, SqL.of e1, hv, q.give a rv⟩)
      · exact q.elim
    · rename_i hx
      split at q
      · rename_i k hk
        split at q
        · rename_i h
          obtain ⟨p, vs, rfl, g, rr⟩ := a.dget r1 (.inl hx)
          obtain ⟨v, hv, rv⟩ := (repK_val k rr).1 _ h
          exact .inr ⟨p, v, rfl, .inl ⟨vs, k, g, keyOf_rep r2 hk, hv.symm⟩, q.give a rv⟩
        · exact q.elim
      · exact q.elim
    · rename_i hx
      split at q
      · rename_i k hk
        split at q
        · rename_i h
          obtain ⟨p, vs, rfl, g, rr⟩ := a.dget r1 (.inr hx)
          obtain ⟨v, hv, rv⟩ := (repK_val k rr).1 _ h
          exact .inr ⟨p, v, rfl, .inl ⟨vs, k, g, keyOf_rep r2 hk, hv.symm⟩, q.give a rv⟩
        · exact q.elim
      · exact q.elim
    · exact q.elim
  · exact q.elim
theorem e_ix (hu : X.A.units + 1 < cLine) (ha : PE X e1 (rdE X.K cm W fa)) (hb : PE X e2 (rdE X.K cm W fb)) (hs : PlainIx e2 := by exact fun _ _ => rfl) : PE X (.Subscript e1 e2 pos) (rdE X.K cm W (dBin oIx fa fb)) :=
  weakE (pe_ix (ix_seq.or (ix_dct hu)) ha hb hs) fun _ _ _ => rd_bin ro_ix
end
end Den

namespace Den
open PySem L2

/-! ### 13. slices -/
def cutD (xs : List D) (lo hi : Option Int) : List D := (xs.drop (HT.sIx xs.length 0 lo)).take (HT.sIx xs.length xs.length hi - HT.sIx xs.length 0 lo)
def dPN : DS → Res (Option Int) := fun S => .ok none S
def dPS (a : DE) : DS → Res (Option Int) := fun S => (a S).bind fun d S1 => match d with
  | .int i => .ok (some i) S1
  | _ => .stuck
def oSl : D → Option Int → Option Int → DS → Res D := fun x lo hi S => match x with
  | .str z => if z.length ≤ mxL then .ok (.str (cutS z lo hi)) S else .stuck
  | .tup xs => .ok (.tup (cutD xs lo hi)) S
  | .ro xs => newO (.lst (cutD xs lo hi)) S
  | .ref n => match S.h[n]? with
    | some (.lst xs) => newO (.lst (cutD xs lo hi)) S
    | _ => .stuck
  | _ => .stuck
def dSl (a : DE) (lo hi : DS → Res (Option Int)) : DE := fun S => (a S).bind fun x S1 => (lo S1).bind fun l S2 => (hi S2).bind fun u S3 => oSl x l u S3
/-- x in y -/
def inD : D → D → DS → Option Bool := fun x y S => match y with
  | .str b => match x with
    | .str a => some (!(Builtin.Str.occurrences b a 0 b.length 1).isEmpty)
    | _ => none
  | .tup ys => match pyD S x, ys.mapM (pyD S) with
    | some p, some ps => if SeqAt.shaped p && SeqAt.shaped (.tuple ps) then some (ps.any fun z => PyData.eqv z p) else none
    | _, _ => none
  | .ro ys => match pyD S x, ys.mapM (pyD S) with
    | some p, some ps => if SeqAt.shaped p && SeqAt.shaped (.list ps) then some (ps.any fun z => PyData.eqv z p) else none
    | _, _ => none
  | .ref n => match S.h[n]? with
    | some (.lst ys) => match pyD S x, ys.mapM (pyD S) with
      | some p, some ps => if SeqAt.shaped p && SeqAt.shaped (.list ps) then some (ps.any fun z => PyData.eqv z p) else none
      | _, _ => none
    | some (.dct kvs) => (keyOf x).map fun k => (valD kvs k).isSome
    | some (.fdct kvs) => (keyOf x).map fun k => (valD kvs k).isSome
    | none => none
  | _ => none
def oIn : D → D → DS → Res D := fun x y S => match inD x y S with
  | some b => .ok (.bl b) S
  | none => .stuck
def oNotIn : D → D → DS → Res D := fun x y S => match inD x y S with
  | some b => .ok (.bl (!b)) S
  | none => .stuck
section
variable {X : Cx} {cm : Str → Value} {W : WX} {e e1 e2 o : Expr} {es : List Expr} {x : Str} {p pos apos cpos p2 : Pos} {fa fb fo : DE} {ga : DA} {K : PySem.W.Frag} {L : List Addr} {H : Hp} {S : DS} {σ : L2.St} {lo hi : Option Expr} {gl gh : DS → Res (Option Int)}
theorem p_none : PO X none (rdO X.K cm W dPN) := ⟨fun pins s σ H Q I q => po_none.run pins s σ H Q I (by
  obtain ⟨L, S, a, q⟩ := q
  exact q.give a rfl)⟩
theorem p_some (h : PE X e (rdE X.K cm W fa)) : PO X (some e) (rdO X.K cm W (dPS fa)) := ⟨fun pins s σ H Q I q => (po_some h).run pins s σ H Q I (by
  obtain ⟨L, S, a, q⟩ := q
  refine ⟨L, S, a, (Aft.step (R := Rep X.K cm) q).mono fun v H1 z => ?_⟩
  obtain ⟨L1, S1, d, e1, x1, r1, q1⟩ := z
  split at q1
  · cases r1
    exact ⟨_, rfl, q1.give x1 rfl⟩
  · exact q1.elim)⟩
theorem cut_reps {ds : List D} {vs : List V} (r : Reps K cm L H ds vs) (lo hi : Option Int) : Reps K cm L H (cutD ds lo hi) (cutV vs lo hi) := by
  unfold cutD cutV
  rw [← r.length]
  exact (r.drop _).take _
theorem cut_whole {ds : List D} {lo hi : Option Int} (h : HT.sIx ds.length 0 lo = 0 ∧ HT.sIx ds.length ds.length hi = ds.length) : cutD ds lo hi = ds := by
  unfold cutD
  rw [h.1, h.2, List.drop_zero, Nat.sub_zero, List.take_length]
theorem e_slice (ha : PE X e (rdE X.K cm W fa)) (hl : PO X lo (rdO X.K cm W gl)) (hh : PO X hi (rdO X.K cm W gh)) : PE X (.Subscript e (.Slice lo hi none p2) pos) (rdE X.K cm W (dSl fa gl gh)) := weakE (pe_slice (SlR.or (SlR.or sl_list sl_tupA) sl_str) ha hl hh) fun σ H Q q => by
  obtain ⟨L, S, a, q⟩ := q
  refine ⟨L, S, a, (Aft.step (R := Rep X.K cm) q).mono fun v H1 z => ?_⟩
  obtain ⟨L1, S1, d, e1, x1, r1, q1⟩ := z
  refine ⟨L1, S1, x1, (Aft.step (R := fun _ _ (b c : Option Int) => b = c) q1).mono fun l H2 z => ?_⟩
  obtain ⟨L2, S2, l', e2, x2, rfl, q2⟩ := z
  refine ⟨L2, S2, x2, (Aft.step (R := fun _ _ (b c : Option Int) => b = c) q2).mono fun u H3 z => ?_⟩
  obtain ⟨L3, S3, u', e3, x3, rfl, q3⟩ := z
  have r3 := r1.mono (e2.trans e3)
  unfold oSl at q3
  split at q3
  · split at q3
    · rename_i h
      cases r3
      exact .inr ⟨_, rfl, mx_line h, q3.give x3 (.str _)⟩
    · exact q3.elim
  · cases r3 with
    | tup hs rr =>
      refine .inl (.inr ⟨_, _, rfl, hs, fun h => ?_, fun _ p hp => ?_⟩)
      · rw [← rr.length] at h
        rw [cut_whole h] at q3
        exact q3.give x3 (.tup hs rr)
      · exact q3.giveE (Ext.beside hp) (x3.beside hp) (.tup (.inl (.inl upd_same)) ((cut_reps rr _ _).mono (Ext.beside hp)))
  · cases r3 with
    | ro hs rr => exact .inl (.inl ⟨_, _, rfl, hs.sq, fun p hp => give_new x3 (cut_reps rr _ _) q3 hp⟩)
  · split at q3
    · rename_i hx
      obtain ⟨p1, vs1, rfl, g1, e1, rr⟩ := x3.lst r3 hx
      exact .inl (.inl ⟨_, _, rfl, SqL.of e1, fun p hp => give_new x3 (cut_reps rr _ _) q3 hp⟩)
    · exact q3.elim
  · exact q3.elim

/-- what in asks, by the values -/
def rInA (K : PySem.W.Frag) (g : Bool → Bool) : R2 := fun x y H Q =>
  ((∃ i j, x = .str i ∧ y = .str j ∧ Q (.bl (g (!(Builtin.Str.occurrences j i 0 j.length 1).isEmpty))) H) ∨ (∃ d ds, Dp K H x d ∧ Dp K H y (.list ds) ∧ SeqAt.shaped d = true ∧ SeqAt.shaped (.list ds) = true ∧ Q (.bl (g (ds.any fun z => PyData.eqv z d))) H)) ∨
  ((∃ d ds, Dp K H x d ∧ Dp K H y (.tuple ds) ∧ SeqAt.shaped d = true ∧ SeqAt.shaped (.tuple ds) = true ∧ Q (.bl (g (ds.any fun z => PyData.eqv z d))) H) ∨ ∃ a o, y = .ref a ∧ DGet H a x o ∧ Q (.bl (g o.isSome)) H)
theorem room_in {A : Around} {ps : List PyData} {p : PyData} (hu : A.units + 66 < cLine) (h : SeqAt.shaped p = true) : A.units + 1 + min (PyData.depthAll ps) p.depth < cLine := by
  have h1 := SeqAt.depth_of_shaped h
  have h2 : min (PyData.depthAll ps) p.depth ≤ p.depth := Nat.min_le_right _ _
  omega
theorem op_inA (hu : X.A.units + 66 < cLine) : OpR X (compareOp .In) (rInA X.K id) := by
  refine OpR.or (OpR.or op_in_str (op_inD (by omega))) (OpR.or ?_ ?_)
  · intro pins s σ H x y v u Q I rx ry h
    obtain ⟨d, ds, hd, he, sd, se, q⟩ := h
    obtain ⟨as, r1⟩ := Dp.reads I d x v hd rx
    obtain ⟨bs, r2⟩ := Dp.reads I (.tuple ds) y u he ry
    have cl : PyData.canLayAll0 ds = true := by simpa [PyData.canLay0] using SeqAt.canLay_of_shaped se
    exact SeqAt.in_tuple_reads r2 r1 cl (SeqAt.canLay_of_shaped sd) (room_in hu sd) ⟨.bl _, H, I, rfl, q⟩
  · intro pins s σ H x y v u Q I rx ry h
    obtain ⟨a, ov, rfl, g, q⟩ := h
    cases ry
    exact d_in (by omega) I g rx fun s' I' => ⟨.bl _, H, I', rfl, q⟩
theorem op_notInA (hu : X.A.units + 66 < cLine) : OpR X (compareOp .NotIn) (rInA X.K not) := by
  refine OpR.or (OpR.or op_notIn_str (op_notInD (by omega))) (OpR.or ?_ ?_)
  · intro pins s σ H x y v u Q I rx ry h
    obtain ⟨d, ds, hd, he, sd, se, q⟩ := h
    obtain ⟨as, r1⟩ := Dp.reads I d x v hd rx
    obtain ⟨bs, r2⟩ := Dp.reads I (.tuple ds) y u he ry
    have cl : PyData.canLayAll0 ds = true := by simpa [PyData.canLay0] using SeqAt.canLay_of_shaped se
    exact SeqAt.notIn_tuple_reads r2 r1 cl (SeqAt.canLay_of_shaped sd) (room_in hu sd) ⟨.bl _, H, I, rfl, q⟩
  · intro pins s σ H x y v u Q I rx ry h
    obtain ⟨a, ov, rfl, g, q⟩ := h
    cases ry
    exact d_notIn (by omega) I g rx fun s' I' => ⟨.bl _, H, I', rfl, q⟩
theorem in_core {x y : V} {d e : D} (a : AbS K cm L H S σ) (r1 : Rep K cm L H d x) (r2 : Rep K cm L H e y) {b : Bool} (h : inD d e S = some b) {g : Bool → Bool} {Q : VK} (q : Q (.bl (g b)) H) : rInA K g x y H Q := by
  unfold inD at h
  split at h
  · split at h
    · cases r1; cases r2; cases h
      exact .inl (.inl ⟨_, _, rfl, rfl, q⟩)
    · cases h
  · split at h
    · rename_i p ps h1 h2
      split at h
      · rename_i hs
        cases h
        obtain ⟨s1, s2⟩ := Bool.and_eq_true_iff.mp hs
        cases r2 with
        | tup ht rr => exact .inr (.inl ⟨p, ps, pyD_rep a r1 h1, .tup ht (toPys_rep (fun _ _ _ r e => pyD_rep a r e) rr h2), s1, s2, q⟩)
      · cases h
    · cases h
  · split at h
    · rename_i p ps h1 h2
      split at h
      · rename_i hs
        cases h
        obtain ⟨s1, s2⟩ := Bool.and_eq_true_iff.mp hs
        cases r2 with
        | ro ht rr => exact .inl (.inr ⟨p, ps, pyD_rep a r1 h1, .lst ht.sq (toPys_rep (fun _ _ _ r e => pyD_rep a r e) rr h2), s1, s2, q⟩)
      · cases h
    · cases h
  · split at h
    · rename_i hx
      split at h
      · rename_i p ps h1 h2
        split at h
        · rename_i hs
          cases h
          obtain ⟨s1, s2⟩ := Bool.and_eq_true_iff.mp hs
          obtain ⟨p1, vs1, rfl, g1, e1, rr⟩ := a.lst r2 hx
          exact .inl (.inr ⟨p, ps, pyD_rep a r1 h1, .lst (SqL.of e1) (toPys_rep (fun _ _ _ r e => pyD_rep a r e) rr h2), s1, s2, q⟩)
        · cases h
      · cases h
    · rename_i kvs hx
      obtain ⟨k, hk, rfl⟩ := Option.map_eq_some_iff.mp h
      obtain ⟨p, vs, rfl, gd, rr⟩ := a.dget r2 (.inl hx)
      refine .inr (.inr ⟨p, valV vs k, rfl, .inl ⟨vs, k, gd, keyOf_rep r1 hk, rfl⟩, ?_⟩)
      have e : (valV vs k).isSome = (valD kvs k).isSome := by
        cases z : valD kvs k with
        | none => rw [(repK_val k rr).2 z] <;> rfl
        | some d => obtain ⟨v, hv, _⟩ := (repK_val k rr).1 d z; rw [hv]; rfl
      rw [e]; exact q
    · rename_i kvs hx
      obtain ⟨k, hk, rfl⟩ := Option.map_eq_some_iff.mp h
      obtain ⟨p, vs, rfl, gd, rr⟩ := a.dget r2 (.inr hx)
      refine .inr (.inr ⟨p, valV vs k, rfl, .inl ⟨vs, k, gd, keyOf_rep r1 hk, rfl⟩, ?_⟩)
      have e : (valV vs k).isSome = (valD kvs k).isSome := by
        cases z : valD kvs k with
        | none => rw [(repK_val k rr).2 z] <;> rfl
        | some d => obtain ⟨v, hv, _⟩ := (repK_val k rr).1 d z; rw [hv]; rfl
      rw [e]; exact q
    · cases h
  · cases h
theorem ro_in : ROp X cm W (rInA X.K id) oIn := by
  intro L H S σ x y d e Q a r1 r2 q
  unfold oIn at q
  split at q
  · rename_i b h
    exact in_core a r1 r2 h (q.give a (.bl _))
  · exact q.elim
theorem ro_notIn : ROp X cm W (rInA X.K not) oNotIn := by
  intro L H S σ x y d e Q a r1 r2 q
  unfold oNotIn at q
  split at q
  · rename_i b h
    exact in_core a r1 r2 h (q.give a (.bl _))
  · exact q.elim
end

/-! ### 14. dicts made and stored, lists stored -/
def evPairs : List (DE × DE) → DS → Res (List (D × D))
  | [] => fun S => .ok [] S
  | p :: r => fun S => (p.1 S).bind fun x S1 => (p.2 S1).bind fun y S2 => (evPairs r S2).bind fun ps S3 => .ok ((x, y) :: ps) S3
def keyPairs : List (D × D) → Option (List (Key × D))
  | [] => some []
  | p :: r => (keyOf p.1).bind fun k => (keyPairs r).map fun ks => (k, p.2) :: ks
def mergeD (kvs more : List (Key × D)) : List (Key × D) := more.foldl (fun acc p => putD acc p.1 p.2) kvs
def dDict (fs : List (DE × DE)) : DE := fun S => (evPairs fs S).bind fun ps S1 => match keyPairs ps with
  | some ks => if ks.length ≤ 15 then newO (.dct (mergeD [] ks)) S1 else .stuck
  | none => .stuck
def oPut : D → D → D → DS → Option DS := fun o i v S => match o with
  | .ref n => match S.h[n]? with
    | some (.lst xs) => match i with
      | .int k => match ixN xs.length k with
        | some j => some { S with h := S.h.set n (.lst (xs.set j v)) }
        | none => none
      | _ => none
    | some (.dct kvs) => match keyOf i with
      | some k => if kvs.length < mxL then some { S with h := S.h.set n (.dct (putD kvs k v)) } else none
      | none => none
    | _ => none
  | _ => none
def sPut (v o i : DE) : DSt := fun S => (v S).bind fun d S1 => (o S1).bind fun x S2 => (i S2).bind fun k S3 => match oPut x k d S3 with
  | some S4 => .ok .next S4
  | none => .stuck
section
variable {X : Cx} {cm : Str → Value} {W : WX} {e e1 e2 o : Expr} {es : List Expr} {x : Str} {p pos apos cpos p2 : Pos} {fa fb fo : DE} {ga : DA} {K : PySem.W.Frag} {L : List Addr} {H : Hp} {S : DS} {σ : L2.St}
def trsOf (K : PySem.W.Frag) (cm : Str → Value) (W : WX) (fs : List (DE × DE)) : List (TE × TE) := fs.map fun p => (rdE K cm W p.1, rdE K cm W p.2)
inductive Rep2 (K : PySem.W.Frag) (cm : Str → Value) (L : List Addr) (H : Hp) : List (D × D) → List (V × V) → Prop
  | nil : Rep2 K cm L H [] []
  | cons {a b : D} {x y : V} {ds : List (D × D)} {vs : List (V × V)} : Rep K cm L H a x → Rep K cm L H b y → Rep2 K cm L H ds vs → Rep2 K cm L H ((a, b) :: ds) ((x, y) :: vs)
theorem rd_pairs : ∀ (fs : List (DE × DE)) {L : List Addr} {H : Hp} {S : DS} {Q : List (V × V) → Hp → Prop}, AbS K cm L H S σ → Aft K cm W (Rep2 K cm) L σ H (evPairs fs S) Q → tPairs (trsOf K cm W fs) σ H Q
  | [], L, H, S, Q, a, q => q.give a .nil
  | f :: fs, L, H, S, Q, a, q => by
    refine ⟨L, S, a, (Aft.step (R := Rep K cm) q).mono fun v H1 z => ?_⟩
    obtain ⟨L1, S1, d, e1, x1, r1, q1⟩ := z
    refine ⟨L1, S1, x1, (Aft.step (R := Rep K cm) q1).mono fun u H2 z => ?_⟩
    obtain ⟨L2, S2, d2, e2, x2, r2, q2⟩ := z
    refine rd_pairs fs x2 ((Aft.step (R := Rep2 K cm) q2).mono fun w H3 z => ?_)
    obtain ⟨L3, S3, d3, e3, x3, r3, q3⟩ := z
    exact q3.give x3 (.cons (r1.mono (e2.trans e3)) (r2.mono e3) r3)
theorem keyPairs_rep : ∀ {ps : List (D × D)} {vs : List (V × V)} {ks : List (Key × D)}, Rep2 K cm L H ps vs → keyPairs ps = some ks → ∃ kvs : List (Key × V), vs = kvs.map (fun kv => (kV kv.1, kv.2)) ∧ RepK K cm L H ks kvs
  | _, _, _, .nil, h => by
    cases h
    exact ⟨[], rfl, .nil⟩
  | _, _, _, .cons r1 r2 t, h => by
    unfold keyPairs at h
    obtain ⟨k, hk, h⟩ := Option.bind_eq_some_iff.mp h
    obtain ⟨ks, hks, rfl⟩ := Option.map_eq_some_iff.mp h
    obtain ⟨kvs, rfl, rr⟩ := keyPairs_rep t hks
    exact ⟨(k, _) :: kvs, by rw [List.map_cons, keyOf_rep r1 hk], .cons r2 rr⟩
theorem merge_rep : ∀ {ms : List (Key × D)} {ns : List (Key × V)} {ks : List (Key × D)} {vs : List (Key × V)}, RepK K cm L H ms ns → RepK K cm L H ks vs → RepK K cm L H (mergeD ks ms) (mergeK vs ns)
  | _, _, _, _, .nil, r => r
  | _, _, ks, vs, .cons (k := k) (d := d) (v := v) r0 t, r => by
    show RepK K cm L H (mergeD (putD ks k d) _) (mergeK (putK vs k v) _)
    exact merge_rep t (repK_put r r0)
theorem e_dict {keys : List (Option Expr)} {values : List Expr} {fs : List (DE × DE)} (h : PPs X pos keys values (trsOf X.K cm W fs)) (hall : keys.all (·.isSome) = true := by rfl) (hl : keys.length = values.length := by rfl) (h0 : keys ≠ [] := by exact fun z => by cases z) (h15 : keys.length ≤ 15 := by decide) :
    PE X (.Dict keys values pos) (rdE X.K cm W (dDict fs)) := weakE (pe_disp h hall hl h0 h15) fun σ H Q q => by
  obtain ⟨L, S, a, q⟩ := q
  intro p hp
  have a1 := a.beside (o := .dK []) hp
  have pf := a.hp.fresh hp
  refine rd_pairs fs a1 ?_
  unfold dDict at q
  generalize hr : evPairs fs S = r at q
  cases r with
  | ok ps S1 =>
    intro L1 H1 vs e1 x1 r1
    obtain ⟨np, h1, w1, ea⟩ := Ext.adopt (o2 := .dK []) hp pf e1 (.inr ⟨[], upd_same⟩)
    refine ⟨h1, ?_⟩
    rw [Res.bind_ok] at q
    split at q
    · rename_i ks hk
      obtain ⟨kvs, rfl, rk⟩ := keyPairs_rep r1 hk
      split at q
      · rename_i hz
        refine ⟨kvs, rfl, by rw [← repK_length rk]; exact hz, ?_⟩
        obtain ⟨_, _, _, eb⟩ := Ext.adopt (o2 := .dK (mergeK [] kvs)) hp pf e1 (.inr ⟨[], upd_same⟩)
        have mw : ExtW X.K L1 H1 (L1 ++ [p]) (upd H1 p (.dK (mergeK [] kvs))) := ExtW.adopt w1
        have hb : HAb X.K cm (L1 ++ [p]) (upd H1 p (.dK (mergeK [] kvs))) (S1.h ++ [.dct (mergeD [] ks)]) := x1.hp.adopt np w1 ⟨_, upd_same, (merge_rep rk .nil).monoW mw⟩
        exact q _ _ _ eb ⟨hb, x1.loc.monoW mw⟩ (.ref x1.hp.newIx)
      · exact q.elim
    · exact q.elim
  | exc u S1 =>
    intro L1 H1 c dx e1 x1 r1
    exact q L1 H1 c dx ((Ext.beside hp).trans e1) x1 r1
  | stuck => exact q
def rSetDk : V → V → V → Hp → (Hp → Prop) → Prop := fun o i v H Q => ∃ a H', o = .ref a ∧ DPut H a i v H' ∧ Q H'
theorem pset_any (hu : X.A.units + 1 < cLine) : PSet X (fun o i v H Q => rSetL o i v H Q ∨ rSetDk o i v H Q) := by
  intro pins s σ H o i v ov iv u Q I ro ri rv h
  rcases h with h | ⟨a, H', rfl, g, q⟩
  · exact set_list pins s σ H o i v ov iv u Q I ro ri rv h
  · cases ro
    exact d_setItem hu I g ri rv fun s' I' => ⟨H', I', q⟩
theorem s_put {pos' : Pos} (hu : X.A.units + 1 < cLine) (hv : PE X e (rdE X.K cm W fa)) (ho : PE X o (rdE X.K cm W fo)) (hi : PE X e2 (rdE X.K cm W fb)) (hs : swapsWithSole [.Subscript o e2 pos'] e pos.line X.env = pure false := by rfl) (hw : swappedStores [.Subscript o e2 pos'] e X.env = pure none := by rfl)
    (h1 : (assignEach [.Subscript o e2 pos'] X.env).map (·.2) = [assign (.Subscript o e2 pos') X.env] := by rfl)
    (ha : ∀ v, assign (.Subscript o e2 pos') X.env v = (do
      let ov ← holding [v] (eval o X.env)
      let iv ← holding [v, ov] (eval e2 X.env)
      standAt pos'
      holding [v, ov, iv] (setItem ov iv v)
      release [v, ov, iv] []) := by intro _; rfl) : PS X (.Assign [.Subscript o e2 pos'] e pos) (rdS X.K cm W (sPut fa fo fb)) := weakS (ps_asg hv (pg_sub ho hi (pset_any hu) ha) hs hw h1) fun E σ H q => by
  obtain ⟨L, S, a, q⟩ := q
  refine ⟨L, S, a, (AftS.step (R := Rep X.K cm) q).mono fun v H1 z => ?_⟩
  obtain ⟨L1, S1, d, e1, x1, r1, q1⟩ := z
  refine ⟨L1, S1, x1, (AftS.step (R := Rep X.K cm) q1).mono fun ov H2 z => ?_⟩
  obtain ⟨L2, S2, d2, e2, x2, r2, q2⟩ := z
  refine ⟨L2, S2, x2, (AftS.step (R := Rep X.K cm) q2).mono fun iv H3 z => ?_⟩
  obtain ⟨L3, S3, d3, e3, x3, r3, q3⟩ := z
  have rv := r1.mono (e2.trans e3)
  have ro := r2.mono e3
  split at q3
  · rename_i S4 h4
    unfold oPut at h4
    split at h4
    · split at h4
      · rename_i xs hx
        obtain ⟨p1, vs1, rfl, g1, h1, rr⟩ := x3.lst ro hx
        split at h4
        · split at h4
          · rename_i j hj
            cases h4
            cases r3
            have ep := Ext.put (o := .lst (vs1.set j v)) x3.hp g1 (.inl ⟨_, h1⟩)
            exact .inl ⟨_, _, _, j, rfl, rfl, h1, by rw [← rr.length]; exact hj, q3 L3 _ σ ep (x3.put g1 (.inl ⟨_, h1⟩) ⟨_, upd_same, ((Reps.set rv j rr).mono ep)⟩)⟩
          · cases h4
        · cases h4
      · rename_i kvs hx
        obtain ⟨p1, vs1, rfl, g1, h1, rr⟩ := x3.dct ro hx
        split at h4
        · rename_i k hk
          split at h4
          · rename_i hz
            cases h4
            have ep := Ext.put (o := .dK (putK vs1 k v)) x3.hp g1 (.inr ⟨_, h1⟩)
            exact .inr ⟨_, _, rfl, .inl ⟨vs1, k, h1, keyOf_rep r3 hk, by rw [← repK_length rr]; exact mx_lt hz, rfl⟩, q3 L3 _ σ ep (x3.put g1 (.inr ⟨_, h1⟩) ⟨_, upd_same, (repK_put rr rv).mono ep⟩)⟩
          · cases h4
        · cases h4
      · cases h4
    · cases h4
  · exact q3.elim
end
end Den

namespace Den
open PySem L2

/-! ### 15. methods of lists and texts -/
def dMt (f : D → List D → DS → Res D) (o : DE) (a : DA) : DE := fun S => (o S).bind fun x S1 => (a S1).bind fun ds S2 => f x ds S2
/-- the receiver a list of ours (or a dict), ahead of the arguments too -/
def isLst (S : DS) : D → Bool
  | .ref n => match S.h[n]? with
    | some (.lst _) => true
    | _ => false
  | _ => false
def dMtL (f : D → List D → DS → Res D) (o : DE) (a : DA) : DE := fun S => (o S).bind fun x S1 => if isLst S1 x then (a S1).bind fun ds S2 => f x ds S2 else .stuck
def isStr : D → Bool
  | .str _ => true
  | _ => false
def dMtS (f : D → List D → DS → Res D) (o : DE) (a : DE) : DE := fun S => (o S).bind fun x S1 => if isStr x then (a S1).bind fun d S2 => f x [d] S2 else .stuck
def dMtS0 (f : D → List D → DS → Res D) (o : DE) : DE := fun S => (o S).bind fun x S1 => if isStr x then f x [] S1 else .stuck
def mAppend : D → List D → DS → Res D := fun x ds S => match x, ds with
  | .ref n, [d] => match S.h[n]? with
    | some (.lst xs) => if xs.length < mxL then .ok .non { S with h := S.h.set n (.lst (xs ++ [d])) } else .stuck
    | _ => .stuck
  | _, _ => .stuck
def mPop : D → List D → DS → Res D := fun x ds S => match x, ds with
  | .ref n, [] => match S.h[n]? with
    | some (.lst xs) => match xs[xs.length - 1]? with
      | some d => .ok d { S with h := S.h.set n (.lst xs.dropLast) }
      | none => .stuck
    | _ => .stuck
  | _, _ => .stuck
def mSplit : D → List D → DS → Res D := fun x ds S => match x, ds with
  | .str a, [.str b] => if b.length ≠ 0 ∧ a.length + 2 ≤ mxL then newO (.lst ((Txt.split a b).map .str)) S else .stuck
  | _, _ => .stuck
def mPart : D → List D → DS → Res D := fun x ds S => match x, ds with
  | .str a, [.str b] => if b.length ≠ 0 ∧ a.length ≤ mxL then .ok (.tup [.str (Txt.partition a b).1, .str (Txt.partition a b).2.1, .str (Txt.partition a b).2.2]) S else .stuck
  | _, _ => .stuck
def mStarts : D → List D → DS → Res D := fun x ds S => match x, ds with
  | .str a, [.str b] => .ok (.bl (Txt.startswith a b)) S
  | _, _ => .stuck
def strsOf : List D → Option (List Str)
  | [] => some []
  | .str x :: r => (strsOf r).map fun ys => x :: ys
  | _ => none
def joinOk (a : Str) (ys : List Str) : Bool := decide ((ys.map (·.length)).sum + ys.length * a.length ≤ mxL)
def mJoin : D → List D → DS → Res D := fun x ds S => match x, ds with
  | .str a, [.tup xs] => match strsOf xs with
    | some ys => if joinOk a ys then .ok (.str (Txt.join a ys)) S else .stuck
    | none => .stuck
  | .str a, [.ref n] => match S.h[n]? with
    | some (.lst xs) => match strsOf xs with
      | some ys => if joinOk a ys then .ok (.str (Txt.join a ys)) S else .stuck
      | none => .stuck
    | _ => .stuck
  | _, _ => .stuck
section
variable {X : Cx} {cm : Str → Value} {W : WX} {e e1 e2 o : Expr} {es : List Expr} {x name : Str} {p pos apos cpos p2 : Pos} {fa fb fo : DE} {ga : DA} {K : PySem.W.Frag} {L : List Addr} {H : Hp} {S : DS} {σ : L2.St}
theorem mo_append : MOp X cm W rAppend mAppend := by
  intro L H S σ x xs d ds Q a r1 r2 q
  unfold mAppend at q
  split at q
  · split at q
    · rename_i hx
      obtain ⟨p1, vs1, rfl, g1, h1, rr⟩ := a.lst r1 hx
      split at q
      · rename_i hz
        cases r2 with
        | cons r2 r3 =>
          cases r3
          have ep := fun v : V => Ext.put (o := .lst (vs1 ++ [v])) a.hp g1 (.inl ⟨_, h1⟩)
          exact ⟨_, _, _, rfl, rfl, h1, by rw [← rr.length]; exact mx_lt hz, q.giveE (ep _) (a.put g1 (.inl ⟨_, h1⟩) ⟨_, upd_same, (rr.append (.cons r2 .nil)).mono (ep _)⟩) .non⟩
      · exact q.elim
    · exact q.elim
  · exact q.elim
theorem mo_pop : MOp X cm W rPop mPop := by
  intro L H S σ x xs d ds Q a r1 r2 q
  unfold mPop at q
  split at q
  · split at q
    · rename_i hx
      obtain ⟨p1, vs1, rfl, g1, h1, rr⟩ := a.lst r1 hx
      split at q
      · rename_i hz
        cases r2
        obtain ⟨v, hv, rv⟩ := rr.get hz
        rw [rr.length] at hv
        have ep := Ext.put (o := .lst vs1.dropLast) a.hp g1 (.inl ⟨_, h1⟩)
        refine ⟨_, _, v, rfl, rfl, h1, hv, q.giveE ep (a.put g1 (.inl ⟨_, h1⟩) ⟨_, upd_same, Reps.mono ep ?_⟩) (rv.mono ep)⟩
        rw [List.dropLast_eq_take, List.dropLast_eq_take, ← rr.length]
        exact rr.take _
      · exact q.elim
    · exact q.elim
  · exact q.elim
theorem strs_reps : ∀ ys : List Str, Reps K cm L H (ys.map D.str) (ys.map V.str)
  | [] => .nil
  | y :: ys => .cons (.str y) (strs_reps ys)
theorem mo_split : MOp X cm W (fun x xs H Q => ∃ a b, x = .str a ∧ xs = [.str b] ∧ (b.length == 0) = false ∧ a.length + 2 ≤ sizeLine ∧ rNewStrs (Txt.split a b) H Q) mSplit := by
  intro L H S σ x xs d ds Q a r1 r2 q
  unfold mSplit at q
  split at q
  · split at q
    · rename_i h
      cases r1
      cases r2 with
      | cons r2 r3 =>
        cases r3; cases r2
        exact ⟨_, _, rfl, rfl, by simpa using h.1, mx_line h.2, fun p hp => give_new a (strs_reps _) q hp⟩
    · exact q.elim
  · exact q.elim
theorem mo_part : MOp X cm W (fun x xs H Q => ∃ a b, x = .str a ∧ xs = [.str b] ∧ (b.length == 0) = false ∧ a.length ≤ sizeLine ∧
    ∀ p, H p = none → Q (.ref p) (upd H p (.tup [.str (Txt.partition a b).1, .str (Txt.partition a b).2.1, .str (Txt.partition a b).2.2]))) mPart := by
  intro L H S σ x xs d ds Q a r1 r2 q
  unfold mPart at q
  split at q
  · split at q
    · rename_i h
      cases r1
      cases r2 with
      | cons r2 r3 =>
        cases r3; cases r2
        exact ⟨_, _, rfl, rfl, by simpa using h.1, mx_line h.2, fun p hp => q.giveE (Ext.beside hp) (a.beside hp) (.tup (.inl (.inl upd_same)) (.cons (.str _) (.cons (.str _) (.cons (.str _) .nil))))⟩
    · exact q.elim
  · exact q.elim
theorem mo_starts : MOp X cm W (fun x xs H Q => ∃ a b, x = .str a ∧ xs = [.str b] ∧ Q (.bl (Txt.startswith a b)) H) mStarts := by
  intro L H S σ x xs d ds Q a r1 r2 q
  unfold mStarts at q
  split at q
  · cases r1
    cases r2 with
    | cons r2 r3 =>
      cases r3; cases r2
      exact ⟨_, _, rfl, rfl, q.give a (.bl _)⟩
  · exact q.elim
theorem strsOf_reps : ∀ {ds : List D} {vs : List V} {ys : List Str}, Reps K cm L H ds vs → strsOf ds = some ys → vs = ys.map V.str
  | _, _, _, .nil, h => by cases h; rfl
  | d :: ds, _, _, .cons r t, h => by
    cases d <;> first
      | (unfold strsOf at h
         obtain ⟨zs, hz, rfl⟩ := Option.map_eq_some_iff.mp h
         cases r
         rw [strsOf_reps t hz]; rfl)
      | (unfold strsOf at h; cases h)
theorem mo_join : MOp X cm W (fun x xs H Q => ∃ a p, ∃ ys : List Str, x = .str a ∧ xs = [.ref p] ∧ (SqL X.K H p (ys.map V.str) ∨ SqT X.K H p (ys.map V.str)) ∧
      (ys.map (·.length)).sum + ys.length * a.length ≤ 16777216 ∧ Q (.str (Txt.join a ys)) H) mJoin := by
  intro L H S σ x xs d ds Q a r1 r2 q
  unfold mJoin at q
  split at q
  · split at q
    · rename_i ys hy
      split at q
      · rename_i h
        cases r1
        cases r2 with
        | cons r2 r3 =>
          cases r3
          cases r2 with
          | tup hs rr => exact ⟨_, _, ys, rfl, rfl, .inr (by rw [← strsOf_reps rr hy]; exact hs), Nat.le_trans (of_decide_eq_true h) (by decide), q.give a (.str _)⟩
      · exact q.elim
    · exact q.elim
  · split at q
    · rename_i hx
      split at q
      · rename_i ys hy
        split at q
        · rename_i h
          cases r1
          cases r2 with
          | cons r2 r3 =>
            cases r3
            obtain ⟨p1, vs1, rfl, g1, h1, rr⟩ := a.lst r2 hx
            exact ⟨_, _, ys, rfl, rfl, .inl (by rw [← strsOf_reps rr hy]; exact SqL.of h1), Nat.le_trans (of_decide_eq_true h) (by decide), q.give a (.str _)⟩
        · exact q.elim
      · exact q.elim
    · exact q.elim
  · exact q.elim
theorem isLst_ty {v : V} {d : D} (a : AbS K cm L H S σ) (r : Rep K cm L H d v) (h : isLst S d = true) : tyV K "list" v H := by
  unfold isLst at h
  split at h
  · split at h
    · rename_i hx
      obtain ⟨p1, vs1, rfl, g1, h1, rr⟩ := a.lst r hx
      exact .inl ⟨rfl, _, SqL.of h1⟩
    · cases h
  · cases h
theorem e_mtL {id : String} {r : V → List V → Hp → VK → Prop} {f : D → List D → DS → Res D} (pa : PlainAttrs "list") (slot : Slot "list" name id) (hty : typeOf (.builtin id) = pure (.type "method_descriptor")) (hm : MtR X id r) (h : MOp X cm W r f)
    (ho : PE X o (rdE X.K cm W fo)) (ha : PA X (e :: es) (rdA X.K cm W ga)) (hbase : attributeBase o name X.env (eval o X.env) = eval o X.env := by rfl)
    (hfew : ((backTo cpos (starEach (e :: es) X.env)).all (fun x => !x.1) && (backToKw cpos (keywordEach [] X.env)).all (fun x => x.1.isSome)
      && decide ((e :: es).length + ([] : List Keyword).length + (if ([] : List Keyword).isEmpty then 0 else 1) < 30)) = true := by rfl)
    (hline : (apos.endLine == cpos.line) = true := by rfl) (hs : starEach (e :: es) X.env = (false, eval e X.env) :: starEach es X.env := by rfl) (hplain : (backTo cpos (starEach es X.env)).any (·.1) = false := by rfl) :
    PE X (.Call (.Attribute o name apos) (e :: es) [] cpos) (rdE X.K cm W (dMtL f fo ga)) := weakE (pe_bm pa slot hty hm ho ha hbase hfew hline hs hplain) fun σ H Q q => by
  obtain ⟨L, S, a, q⟩ := q
  refine ⟨L, S, a, (Aft.step (R := Rep X.K cm) q).mono fun v H1 z => ?_⟩
  obtain ⟨L1, S1, d, e1, x1, r1, q1⟩ := z
  split at q1
  · rename_i hl
    refine ⟨isLst_ty x1 r1 hl, L1, S1, x1, (Aft.step (R := Reps X.K cm) q1).mono fun vs H2 z => ?_⟩
    obtain ⟨L2, S2, d2, e2, x2, r2, q2⟩ := z
    exact h x2 (r1.mono e2) r2 q2
  · exact q1.elim
theorem e_mtL0 {id : String} {r : V → List V → Hp → VK → Prop} {f : D → List D → DS → Res D} (pa : PlainAttrs "list") (slot : Slot "list" name id) (hty : typeOf (.builtin id) = pure (.type "method_descriptor")) (hm : MtR X id r) (h : MOp X cm W r f)
    (ho : PE X o (rdE X.K cm W fo)) (hbase : attributeBase o name X.env (eval o X.env) = eval o X.env := by rfl)
    (hline : (apos.endLine == cpos.line) = true := by rfl) : PE X (.Call (.Attribute o name apos) [] [] cpos) (rdE X.K cm W (dMtL f fo dNil)) := weakE (pe_bm0 pa slot hty hm ho hbase hline) fun σ H Q q => by
  obtain ⟨L, S, a, q⟩ := q
  refine ⟨L, S, a, (Aft.step (R := Rep X.K cm) q).mono fun v H1 z => ?_⟩
  obtain ⟨L1, S1, d, e1, x1, r1, q1⟩ := z
  split at q1
  · rename_i hl
    exact ⟨isLst_ty x1 r1 hl, h x1 r1 .nil q1⟩
  · exact q1.elim
theorem e_mtS {id : String} {r : V → List V → Hp → VK → Prop} {f : D → List D → DS → Res D} (slot : Slot "str" name id) (hty : typeOf (.builtin id) = pure (.type "method_descriptor")) (hm : MtR X id r) (h : MOp X cm W r f) (ho : PE X o (rdE X.K cm W fo)) (ha : PE X e (rdE X.K cm W fa))
    (hs : starEach [e] X.env = [(false, eval e X.env)] := by rfl) (hbase : attributeBase o name X.env (eval o X.env) = eval o X.env := by rfl) (hline : (apos.endLine == pos.line) = true := by rfl) :
    PE X (.Call (.Attribute o name apos) [e] [] pos) (rdE X.K cm W (dMtS f fo fa)) := weakE (pe_m1 slot hty hm ho ha hs hbase hline) fun σ H Q q => by
  obtain ⟨L, S, a, q⟩ := q
  refine ⟨L, S, a, (Aft.step (R := Rep X.K cm) q).mono fun v H1 z => ?_⟩
  obtain ⟨L1, S1, d, e1, x1, r1, q1⟩ := z
  split at q1
  · rename_i hl
    refine ⟨?_, L1, S1, x1, (Aft.step (R := Rep X.K cm) q1).mono fun v2 H2 z => ?_⟩
    · unfold isStr at hl
      split at hl
      · cases r1; exact ⟨_, rfl⟩
      · cases hl
    · obtain ⟨L2, S2, d2, e2, x2, r2, q2⟩ := z
      exact h x2 (r1.mono e2) (.cons r2 .nil) q2
  · exact q1.elim

/-! ### 16. what a for walks -/
def iOf (d : D) (S : DS) : Res Iter0 := match d with
  | .tup xs => .ok (.vals xs) S
  | .ro xs => .ok (.vals xs) S
  | .str x => .ok (.vals (x.cps.toList.map fun c => .str ⟨#[c]⟩)) S
  | .ref n => match S.h[n]? with
    | some (.lst _) => .ok (.dyn (lstIt n)) S
    | _ => .stuck
  | _ => .stuck
def dIter (a : DE) : DS → Res Iter0 := fun S => (a S).bind iOf
def rgD (lo : Int) (n : Nat) : List D := (List.range n).map fun k => D.int (lo + (k : Nat))
def dRng (a : DA) : DS → Res Iter0 := fun S => (a S).bind fun ds S1 => match ds with
  | [.int j] => if -1000000 ≤ j ∧ j ≤ 1000000 then .ok (.vals (rgD 0 j.toNat)) S1 else .stuck
  | [.int i, .int j] => if (-1000000 ≤ i ∧ i ≤ 1000000) ∧ -1000000 ≤ j ∧ j ≤ 1000000 then .ok (.vals (rgD i (j - i).toNat)) S1 else .stuck
  | _ => .stuck
theorem pi_or {tg iter : Expr} {w1 w2 : TI} (h1 : PI X tg iter w1) (h2 : PI X tg iter w2) : PI X tg iter (fun σ H R => w1 σ H R ∨ w2 σ H R) := ⟨fun pins s σ H R I q => by
  rcases q with q | q
  · exact h1.run pins s σ H R I q
  · exact h2.run pins s σ H R I q⟩
theorem weakI {tg iter : Expr} {w w' : TI} (h : PI X tg iter w) (k : ∀ σ H R, w' σ H R → w σ H R) : PI X tg iter w' := ⟨fun pins s σ H R I q => h.run pins s σ H R I (k _ _ _ q)⟩
theorem walk_keep {xs : List D} {J : It} (go : ∀ L' H' i d, Ext K L H L' H' → xs[i]? = some d → J.go i H' ∧ ∀ x H2, J.yld i H' x H2 → H2 = H' ∧ Rep K cm L' H' d x) (st : ∀ L' H', Ext K L H L' H' → J.stop xs.length H') : Walks0 K cm L H xs J :=
  ⟨fun L' H' i d e h => ⟨(go L' H' i d e h).1, fun x H2 y => by
    obtain ⟨rfl, r⟩ := (go L' H' i d e h).2 x H2 y
    exact ⟨Ext.refl, fun _ z => z, r⟩⟩, st⟩
theorem walk_tup {xs : List D} {vs : List V} {a : Addr} (hs : SqT K H a vs) (r : Reps K cm L H xs vs) : Walks0 K cm L H xs (Itt K a) :=
  walk_keep (fun L' H' i d e h => by
    obtain ⟨v, hv, rv⟩ := r.get h
    exact ⟨⟨vs, v, e.tup _ _ hs, hv⟩, fun x H2 y => ⟨y.1, by
      have q := y.2 vs (e.tup _ _ hs)
      rw [hv] at q; cases q
      exact rv.mono e⟩⟩) fun L' H' e => ⟨vs, e.tup _ _ hs, by rw [r.length]; exact Nat.le_refl _⟩
theorem walk_ro {xs : List D} {vs : List V} {a : Addr} (hs : SqR K H a vs) (r : Reps K cm L H xs vs) : Walks0 K cm L H xs (Itl K a) :=
  walk_keep (fun L' H' i d e h => by
    obtain ⟨v, hv, rv⟩ := r.get h
    exact ⟨⟨vs, v, (e.rol _ _ hs).sq, hv⟩, fun x H2 y => ⟨y.1, by
      have q := y.2 vs (e.rol _ _ hs).sq
      rw [hv] at q; cases q
      exact rv.mono e⟩⟩) fun L' H' e => ⟨vs, (e.rol _ _ hs).sq, by rw [r.length]; exact Nat.le_refl _⟩
theorem walk_rng (lo : Int) (n : Nat) : Walks0 K cm L H (rgD lo n) (Itr lo n) :=
  walk_keep (fun L' H' i d e h => by
    unfold rgD at h
    rw [List.getElem?_map] at h
    cases z : (List.range n)[i]? with
    | none => rw [z] at h; cases h
    | some k =>
      rw [z] at h
      cases h
      obtain ⟨hi, rfl⟩ := List.getElem?_eq_some_iff.mp z
      rw [List.length_range] at hi
      refine ⟨hi, fun x H2 y => ⟨y.1, ?_⟩⟩
      rw [y.2, List.getElem_range]
      exact .int _) fun L' H' e => by
    unfold rgD
    rw [List.length_map, List.length_range]
    exact Nat.le_refl _
theorem walk_str (z : Str) : Walks0 K cm L H (z.cps.toList.map fun c => .str ⟨#[c]⟩) (Its z) :=
  walk_keep (fun L' H' i d e h => by
    rw [List.getElem?_map] at h
    cases q : z.cps.toList[i]? with
    | none => rw [q] at h; cases h
    | some c =>
      rw [q] at h
      cases h
      obtain ⟨hi, hc⟩ := List.getElem?_eq_some_iff.mp q
      refine ⟨show i < z.cps.size by simpa using hi, fun x H2 y => ⟨y.1, ?_⟩⟩
      obtain ⟨c', h1, h2⟩ := y.2
      rw [← Array.getElem?_toList, q] at h1
      cases h1
      rw [h2]
      exact .str _) fun L' H' e => by
    rw [List.length_map, Array.length_toList]
    exact Nat.le_refl _
theorem walk_lst {n : Nat} {a : Addr} (hL : L[n]? = some a) : WalksD K cm L H (lstIt n) (Itl K a) :=
  ⟨fun L' H' h i d e hb hf => by
    unfold lstIt at hf
    split at hf
    · rename_i xs hx
      obtain ⟨vs, hH, rr⟩ := hb.obs _ _ _ hx (e.ix hL)
      obtain ⟨v, hv, rv⟩ := rr.get (Option.some.inj hf)
      refine ⟨⟨vs, v, SqL.of hH, hv⟩, fun x H2 y => ?_⟩
      obtain ⟨rfl, hy⟩ := y
      have ev := hy vs (SqL.of hH)
      rw [hv] at ev
      cases ev
      exact ⟨Ext.refl, fun _ z => z, rv⟩
    · exact (nomatch hf), fun L' H' h i e hb hf => by
    unfold lstIt at hf
    split at hf
    · rename_i xs hx
      obtain ⟨vs, hH, rr⟩ := hb.obs _ _ _ hx (e.ix hL)
      refine ⟨vs, SqL.of hH, ?_⟩
      rw [← rr.length]
      exact List.getElem?_eq_none_iff.mp (Option.some.inj hf)
    · cases hf⟩
theorem i_any {tg iter : Expr} (he : PE X iter (rdE X.K cm W fa)) : PI X tg iter (rdI X.K cm W (dIter fa)) := weakI (pi_or (pi_or (pi_list he) (pi_tup he)) (pi_str he)) fun σ H R q => by
  obtain ⟨L, S, a, q⟩ := q
  unfold dIter at q
  generalize hr : fa S = r at q
  cases r with
  | ok d S1 =>
    rw [Res.bind_ok] at q
    unfold iOf at q
    split at q
    · refine .inl (.inr ⟨L, S, a, ?_⟩)
      rw [hr]
      intro L1 H1 v e1 x1 r1
      cases r1 with
      | tup hs rr => exact ⟨_, rfl, ⟨_, hs⟩, q L1 H1 _ e1 x1 (walk_tup hs rr)⟩
    · refine .inl (.inl ⟨L, S, a, ?_⟩)
      rw [hr]
      intro L1 H1 v e1 x1 r1
      cases r1 with
      | ro hs rr => exact ⟨_, rfl, ⟨_, hs.sq⟩, q L1 H1 _ e1 x1 (walk_ro hs rr)⟩
    · refine .inr ⟨L, S, a, ?_⟩
      rw [hr]
      intro L1 H1 v e1 x1 r1
      cases r1
      exact ⟨_, rfl, q L1 H1 _ e1 x1 (walk_str _)⟩
    · split at q
      · rename_i hx
        refine .inl (.inl ⟨L, S, a, ?_⟩)
        rw [hr]
        intro L1 H1 v e1 x1 r1
        obtain ⟨p1, vs1, rfl, g1, h1, rr⟩ := x1.lst r1 hx
        exact ⟨_, rfl, ⟨_, SqL.of h1⟩, q L1 H1 _ e1 x1 (walk_lst g1)⟩
      · exact q.elim
    · exact q.elim
  | exc u S1 =>
    refine .inl (.inl ⟨L, S, a, ?_⟩)
    rw [hr]
    exact q
  | stuck => exact q.elim
theorem rd_rng {ga : DA} {σ : L2.St} {H : Hp} {R : It → Hp → Prop} (q : rdI X.K cm W (dRng ga) σ H R) : rdA X.K cm W ga σ H fun vs H1 => (∀ j, vs = [V.int j] → -(2 ^ 62) ≤ j ∧ j < 2 ^ 62 ∧ R (Itr 0 j.toNat) H1) ∧
    (∀ i j, vs = [V.int i, V.int j] → (-(2 ^ 62) ≤ i ∧ i < 2 ^ 62 ∧ -(2 ^ 62) ≤ j ∧ j < 2 ^ 62) ∧ R (Itr i (j - i).toNat) H1) ∧ ((∃ j, vs = [V.int j]) ∨ ∃ i j, vs = [V.int i, V.int j]) := by
  obtain ⟨L, S, x, q⟩ := q
  refine ⟨L, S, x, (Aft.step (R := Reps X.K cm) q).mono fun v H1 z => ?_⟩
  obtain ⟨L1, S1, d, e1, x1, r1, q1⟩ := z
  split at q1
  · split at q1
    · rename_i h
      cases r1 with
      | cons r1 r2 =>
        cases r2; cases r1
        exact ⟨fun j e => (by cases e; exact ⟨by omega, by omega, q1.give x1 (walk_rng 0 _)⟩), fun i j e => (by cases e), .inl ⟨_, rfl⟩⟩
    · exact q1.elim
  · split at q1
    · rename_i h
      cases r1 with
      | cons r1 r2 =>
        cases r2 with
        | cons r2 r3 =>
          cases r3; cases r2; cases r1
          exact ⟨fun j e => (by cases e), fun i j e => (by cases e; exact ⟨⟨by omega, by omega, by omega, by omega⟩, q1.give x1 (walk_rng _ _)⟩), .inr ⟨_, _, rfl⟩⟩
    · exact q1.elim
  · exact q1.elim
theorem i_rng1 {tg a : Expr} {ga : DA} (hg : Gl X "range") (hm : X.mg "range" = none) (ha : PA X [a] (rdA X.K cm W ga)) (hc : Cnt ga 1) (hs : starEach [a] X.env = [(false, eval a X.env)] := by rfl) : PI X tg (.Call (.Name "range" p) [a] [] pos) (rdI X.K cm W (dRng ga)) :=
  weakI (pi_range1 hg hm ha hs) fun σ H R q => by
  have hl := hc
  obtain ⟨L, S, x, q⟩ := rd_rng q
  refine ⟨L, S, x, ?_⟩
  generalize hr : ga S = r at q
  cases r with
  | ok ds S1 =>
    intro L1 H1 vs e1 x1 r1
    obtain ⟨h1, h2, h3⟩ := q L1 H1 vs e1 x1 r1
    have n1 := hl _ _ _ hr
    rw [r1.length] at n1
    rcases h3 with ⟨j, rfl⟩ | ⟨i, j, rfl⟩
    · exact ⟨j, rfl, h1 j rfl⟩
    · cases n1
  | exc u S1 => exact q
  | stuck => exact q
theorem i_rng2 {tg a b : Expr} {ga : DA} (hg : Gl X "range") (hm : X.mg "range" = none) (ha : PA X [a, b] (rdA X.K cm W ga)) (hc : Cnt ga 2) (hs : starEach [a, b] X.env = [(false, eval a X.env), (false, eval b X.env)] := by rfl) (hs2 : starEach [b] X.env = [(false, eval b X.env)] := by rfl) :
    PI X tg (.Call (.Name "range" p) [a, b] [] pos) (rdI X.K cm W (dRng ga)) := weakI (pi_range2 hg hm ha hs hs2) fun σ H R q => by
  have hl := hc
  obtain ⟨L, S, x, q⟩ := rd_rng q
  refine ⟨L, S, x, ?_⟩
  generalize hr : ga S = r at q
  cases r with
  | ok ds S1 =>
    intro L1 H1 vs e1 x1 r1
    obtain ⟨h1, h2, h3⟩ := q L1 H1 vs e1 x1 r1
    have n1 := hl _ _ _ hr
    rw [r1.length] at n1
    rcases h3 with ⟨j, rfl⟩ | ⟨i, j, rfl⟩
    · cases n1
    · exact ⟨i, j, rfl, h2 i j rfl⟩
  | exc u S1 => exact q
  | stuck => exact q
end
end Den

namespace Den
open PySem L2

/-! ### 17. for k in d, the dict at a name -/
def sForK (i : Nat) (g : DG) (b : DSt) : DSt := fun S => match S.loc[i]? with
  | some (some (.ref n)) => match S.h[n]? with
    | some (.dct kvs) => match forV g b (kvs.map fun kv => keyD kv.1) { S with h := S.h.set n (.fdct kvs) } with
      | .ok f S3 => match S3.h[n]? with
        | some (.fdct _) => .ok f { S3 with h := S3.h.set n (.dct kvs) }
        | _ => .stuck
      | _ => .stuck
    | _ => .stuck
  | _ => .stuck
section
variable {X : Cx} {cm : Str → Value} {W : WX} {e e1 e2 o : Expr} {es : List Expr} {x name : Str} {p pos apos cpos p2 : Pos} {fa fb fo : DE} {ga : DA} {K : PySem.W.Frag} {L : List Addr} {H : Hp} {S : DS} {σ : L2.St}
theorem repK_get {ds : List (Key × D)} {vs : List (Key × V)} (r : RepK K cm L H ds vs) : ∀ {i : Nat} {d : D}, (ds.map fun kv => keyD kv.1)[i]? = some d → ∃ k v, vs[i]? = some (k, v) ∧ d = keyD k := by
  induction r with
  | nil => intro i d h; simp at h
  | @cons k d0 v0 ds vs r t ih =>
    intro i d h
    cases i with
    | zero => simp at h; exact ⟨k, v0, rfl, h.symm⟩
    | succ i =>
      obtain ⟨k', v', h1, h2⟩ := ih (i := i) (by simpa using h)
      exact ⟨k', v', by simpa using h1, h2⟩
theorem keyD_rep (k : Key) : Rep K cm L H (keyD k) (kV k) := by
  cases k with
  | inl i => exact .int i
  | inr x => exact .str x
theorem walk_keys {ds : List (Key × D)} {vs : List (Key × V)} {a : Addr} {o : Obj} (h : H a = some (.frz o (.dK vs))) (r : RepK K cm L H ds vs) : Walks0 K cm L H (ds.map fun kv => keyD kv.1) (Itk a o vs) :=
  walk_keep (fun L' H' i d e hd => by
    obtain ⟨k, v, hv, rfl⟩ := repK_get r hd
    refine ⟨⟨e.frz _ _ _ h, (List.getElem?_eq_some_iff.mp hv).1⟩, fun x H2 y => ⟨y.1, ?_⟩⟩
    obtain ⟨k', v', h1, h2⟩ := y.2
    rw [hv] at h1; cases h1
    rw [h2]
    exact keyD_rep k) fun L' H' e => ⟨e.frz _ _ _ h, by rw [List.length_map, repK_length r]; exact Nat.le_refl _⟩
theorem s_forK {tg : Expr} {body : List Stmt} {i : Nat} {g : DG} {b : DSt} (hp : PassesOwn (model X.prog X.w) X.A X.env X.xe) (hc : X.calm = true) (hN : X.N[i]? = some x) (hv : Vis X.env.scope x) (hg : PG X tg (rdG X.K cm g)) (hb : PSs X body (rdS X.K cm (fun _ _ _ _ => False) b))
    (hd : (x == ("__debug__" : Str)) = false := by decide) (hcd : (x == ("__classdict__" : Str)) = false := by decide) (hs : ∀ y, foldedSetIterable (.Name x p) X.env y = pure y := by intro _; rfl) :
    PS X (.For tg (.Name x p) body [] pos) (rdS X.K cm W (sForK i g b)) := weakS (ps_lock (ps_for hp hc (pi_keys (pe_var hN hv hd hcd)) hg hb hs)) fun E σ H q => by
  obtain ⟨L, S, a, q⟩ := q
  unfold sForK at q
  split at q
  · rename_i n hn
    split at q
    · rename_i kvs hk
      obtain ⟨v, hσ, rv⟩ := a.loc.2 _ _ hn
      obtain ⟨d, vs, rfl, hL, hH, rr⟩ := a.dct rv hk
      refine ⟨d, .dK vs, hH, True.intro, fun od => ?_⟩
      have lk : Ext X.K L H L (upd H d (.frz od (.dK vs))) := Ext.put a.hp hL (.inr ⟨_, hH⟩)
      have a1 : AbS X.K cm L (upd H d (.frz od (.dK vs))) { S with h := S.h.set n (.fdct kvs) } σ := a.put hL (.inr ⟨_, hH⟩) ⟨od, vs, upd_same, rr.mono lk⟩
      refine ⟨_, hσ, d, od, rfl, .inl ⟨vs, upd_same, ?_⟩⟩
      have wk : Walks0 X.K cm L (upd H d (.frz od (.dK vs))) (kvs.map fun kv => keyD kv.1) (Itk d od vs) := walk_keys upd_same (rr.mono lk)
      -- the loop over the locked dict, with the end that unlocks
      have un : ∀ {La : List Addr} {H2 : Hp} {S3 : DS} {σ2 : L2.St} {ks : List (Key × D)}, Ext X.K L (upd H d (.frz od (.dK vs))) La H2 → AbS X.K cm La H2 S3 σ2 → S3.h[n]? = some (.fdct ks) →
          H2 d = some (.frz od (.dK vs)) ∧ Ext X.K L H La (upd H2 d (.dK vs)) ∧ ExtW X.K La H2 La (upd H2 d (.dK vs)) ∧ AbS X.K cm La (upd H2 d (.dK vs)) { S3 with h := S3.h.set n (.dct kvs) } σ2 := by
        intro La H2 S3 σ2 ks e2 x2 h3
        have hd2 := e2.frz d od _ upd_same
        have hL2 := e2.ix hL
        have kw : ∀ b u, H2 b = some u → b ≠ d → upd H2 d (.dK vs) b = some u := fun b u e nb => by rw [upd_ne nb]; exact e
        have nd : ∀ b u, H2 b = some u → (∀ o ks, u ≠ .frz o (.dK ks)) → b ≠ d := fun b u e nk z => by
          rw [z, hd2] at e; cases e; exact nk _ _ rfl
        have ew : ExtW X.K La H2 La (upd H2 d (.dK vs)) := ⟨⟨[], by simp⟩, fun b ws h => by
            rcases h with (h | ⟨o, h⟩) | h
            · exact .inl (.inl (kw _ _ h (nd _ _ h fun _ _ z => nomatch z)))
            · exact .inl (.inr ⟨o, kw _ _ h (nd _ _ h fun _ _ z => nomatch z)⟩)
            · exact .inr h, fun b ws h => by
            rcases h with ⟨o, h⟩ | h
            · exact .inl ⟨o, kw _ _ h (nd _ _ h fun _ _ z => nomatch z)⟩
            · exact .inr h⟩
        have all := lk.trans e2
        refine ⟨hd2, ⟨all.pre, fun b ws h => ew.tup _ _ (all.tup _ _ h), fun b ws h => ew.rol _ _ (all.rol _ _ h), fun b u nb h => ?_, fun b u h => ?_, fun b o u h => ?_⟩, ew, ?_, x2.loc.monoW ew⟩
        · have z : b ≠ d := fun z => nb (z ▸ List.mem_of_getElem? hL)
          rw [upd_ne z]; exact all.oth b u nb h
        · by_cases z : b = d
          · subst z; exact ⟨_, upd_same⟩
          · rw [upd_ne z]; exact all.thr b u h
        · have z : b ≠ d := fun z => by rw [z, hH] at h; cases h
          rw [upd_ne z]; exact all.frz b o u h
        · refine ⟨x2.hp.nd, by rw [List.length_set]; exact x2.hp.len, fun m ob c m1 m2 => ?_⟩
          by_cases hm : m = n
          · subst hm
            rw [hL2] at m2
            cases m2
            have hlt : m < S3.h.length := by rw [← x2.hp.len]; exact (List.getElem?_eq_some_iff.mp hL2).1
            rw [show ({ S3 with h := S3.h.set m (.dct kvs) } : DS).h[m]? = some (.dct kvs) from List.getElem?_set_self hlt] at m1
            cases m1
            exact ⟨vs, upd_same, (rr.mono all).monoW ew⟩
          · rw [show ({ S3 with h := S3.h.set n (.dct kvs) } : DS).h[m]? = S3.h[m]? from List.getElem?_set_ne (Ne.symm hm)] at m1
            have nc : c ≠ d := fun z => by
              subst z
              obtain ⟨h1, q1⟩ := List.getElem?_eq_some_iff.mp m2
              obtain ⟨h2, q2⟩ := List.getElem?_eq_some_iff.mp hL2
              exact hm ((List.getElem_inj x2.hp.nd).mp (q1.trans q2.symm))
            exact (x2.hp.obs m ob c m1 m2).monoW ew fun u h => kw _ _ h nc
      -- the result of the loop, by the plain function
      have fin : AftS X.K cm (fun _ _ _ _ => False) L (upd H d (.frz od (.dK vs))) (forV g b (kvs.map fun kv => keyD kv.1) { S with h := S.h.set n (.fdct kvs) })
          ⟨fun σ' H' => H' d = some (.frz od (.dK vs)) ∧ E.nx σ' (upd H' d (.dK vs)), fun v H' => H' d = some (.frz od (.dK vs)) ∧ E.rt v (upd H' d (.dK vs)), fun σ' H' => H' d = some (.frz od (.dK vs)) ∧ E.bk σ' (upd H' d (.dK vs)), fun σ' H' => H' d = some (.frz od (.dK vs)) ∧ E.ct σ' (upd H' d (.dK vs))⟩ := by
        generalize forV g b (kvs.map fun kv => keyD kv.1) { S with h := S.h.set n (.fdct kvs) } = r at q
        cases r with
        | ok f S3 =>
          dsimp only at q
          split at q
          · rename_i ks h3
            cases f with
            | next =>
              intro L' H' σ' e' x'
              obtain ⟨u1, u2, u3, u4⟩ := un e' x' h3
              exact ⟨u1, q _ _ _ u2 u4⟩
            | brk =>
              intro L' H' σ' e' x'
              obtain ⟨u1, u2, u3, u4⟩ := un e' x' h3
              exact ⟨u1, q _ _ _ u2 u4⟩
            | cont =>
              intro L' H' σ' e' x'
              obtain ⟨u1, u2, u3, u4⟩ := un e' x' h3
              exact ⟨u1, q _ _ _ u2 u4⟩
            | ret dd =>
              intro L' H' σ' v' e' x' r'
              obtain ⟨u1, u2, u3, u4⟩ := un e' x' h3
              exact ⟨u1, q _ _ _ v' u2 u4 (r'.monoW u3)⟩
          · exact q.elim
        | exc u S3 => exact q.elim
        | stuck => exact q.elim
      exact for_vals wk a1 fin
    · exact q.elim
  · exact q.elim
end
end Den

namespace Den
open PySem L2

/-! ### 18. comprehensions -/
section
variable {cm : Str → Value} {K : PySem.W.Frag} {L L1 : List Addr} {H H1 : Hp} {S : DS} {σ : L2.St} {h : List Ob}
theorem ExtW.chg {p : Addr} {o : HO} (hw : Wr H p) : ExtW K L H L (upd H p o) :=
  ⟨⟨[], by simp⟩, (ExtW.adopt (L := L) hw).tup, (ExtW.adopt (L := L) hw).rol⟩
theorem HAb.chg {p : Addr} {o : HO} (x : HAb K cm L H h) (np : p ∉ L) (hw : Wr H p) : HAb K cm L (upd H p o) h :=
  ⟨x.nd, x.len, fun n ob a e1 e2 => (x.obs n ob a e1 e2).monoW (ExtW.chg hw) fun u q => by rw [upd_ne (fun z : a = p => np (by rw [← z]; exact List.mem_of_getElem? e2))]; exact q⟩
theorem AbS.chg {p : Addr} {o : HO} (x : AbS K cm L H S σ) (np : p ∉ L) (hw : Wr H p) : AbS K cm L (upd H p o) S σ := ⟨x.hp.chg np hw, x.loc.monoW (ExtW.chg hw)⟩
theorem Ext.chg {p : Addr} {o : HO} (hp : H p = none) (e : Ext K L H L1 H1) (hw : Wr H1 p) : Ext K L H L1 (upd H1 p o) := by
  have w : ExtW K L1 H1 L1 (upd H1 p o) := ExtW.chg hw
  have ne : ∀ a u, H a = some u → a ≠ p := fun a u q z => by rw [z, hp] at q; cases q
  exact ⟨e.pre, fun a vs q => w.tup a vs (e.tup a vs q), fun a vs q => w.rol a vs (e.rol a vs q), fun a u na q => by rw [upd_ne (ne a u q)]; exact e.oth a u na q, fun a u q => by rw [upd_ne (ne a u q)]; exact e.thr a u q, fun a u v q => by rw [upd_ne (ne a _ q)]; exact e.frz a u v q⟩
theorem Ext.out {p : Addr} {u : HO} (e : Ext K L H L1 H1) (np : p ∉ L) (hp : H p = some u) : p ∉ L1 ∧ H1 p = some u := by
  refine ⟨fun q => ?_, e.oth p u np hp⟩
  obtain ⟨M, e1, nM⟩ := e.pre
  rw [e1] at q
  rcases List.mem_append.mp q with q | q
  · exact np q
  · rw [nM p q] at hp; cases hp
theorem upd_id {p : Addr} {o : HO} (hp : H p = some o) : upd H p o = H := by
  funext b
  by_cases z : b = p
  · subst z; rw [upd_same, hp]
  · rw [upd_ne z]
theorem Ext.own {p : Addr} (e : Ext K L H L1 H1) (hp : H p = none) : Ext K L H (L1 ++ [p]) H1 := by
  obtain ⟨M, e1, nM⟩ := e.pre
  refine ⟨⟨M ++ [p], by rw [e1, List.append_assoc], fun a ha => ?_⟩, e.tup, e.rol, e.oth, e.thr, e.frz⟩
  rcases List.mem_append.mp ha with z | z
  · exact nM a z
  · rw [List.mem_singleton.mp z]; exact hp
end
def Res.only {α β : Type} (r : Res α) (k : α → DS → Res β) : Res β := match r with
  | .ok a S => k a S
  | _ => .stuck
@[simp] theorem Res.only_ok {α β : Type} (a : α) (S : DS) (k : α → DS → Res β) : (Res.ok a S).only k = k a S := rfl
/-- one turn's test and element -/
def compT (t : DT) (e : DE) (S : DS) (acc : List D) : Res (List D) := (t S).only fun c S1 => if c then (e S1).only fun y S2 => if acc.length < mxL then .ok (acc ++ [y]) S2 else .stuck else .ok acc S1
def compV (g : DG) (t : DT) (e : DE) (w : List (Option D)) : List D → List D → List Ob → Res (List D)
  | [], acc, h => .ok acc ⟨w, h⟩
  | d :: ds, acc, h => match g d ⟨w, h⟩ with
    | some S0 => (compT t e S0 acc).only fun acc2 S1 => compV g t e w ds acc2 S1.h
    | none => .stuck
def compO (it : List Ob → Nat → Option (Option D)) (g : DG) (t : DT) (e : DE) (w : List (Option D)) : Nat → Nat → List D → List Ob → Res (List D)
  | 0, _, _, _ => .stuck
  | k + 1, i, acc, h => match it h i with
    | some none => .ok acc ⟨w, h⟩
    | some (some d) => match g d ⟨w, h⟩ with
      | some S0 => (compT t e S0 acc).only fun acc2 S1 => compO it g t e w k (i + 1) acc2 S1.h
      | none => .stuck
    | none => .stuck
def wipeD (ls : List (Option D)) : List Nat → List (Option D)
  | [] => ls
  | v :: vs => (wipeD ls vs).set v none
def dComp (vs : List Nat) (it : DS → Res Iter0) (g : DG) (t : DT) (e : DE) : DE := fun S => (it S).bind fun I S1 => match (match I with
    | .vals xs => compV g t e (wipeD S1.loc vs) xs [] S1.h
    | .dyn f => compO f g t e (wipeD S1.loc vs) 100000 0 [] S1.h) with
  | .ok acc S2 => newO (.lst acc) ⟨S1.loc, S2.h⟩
  | _ => .stuck
def tTrue : DT := fun S => .ok true S
section
variable {X : Cx} {cm : Str → Value} {W : WX} {K : PySem.W.Frag} {L : List Addr} {H : Hp} {S : DS} {σ : L2.St}
theorem loc_wipe {ls : List (Option D)} (r : LocR K cm L H ls σ) : ∀ vs : List Nat, LocR K cm L H (wipeD ls vs) (wipe σ vs)
  | [] => r
  | v :: vs => by
    have ih := loc_wipe r vs
    unfold wipeD wipe
    refine ⟨by rw [List.length_set, List.length_set]; exact ih.1, fun i d q => ?_⟩
    by_cases hi : v = i
    · subst hi
      by_cases hl : v < (wipeD ls vs).length
      · rw [List.getElem?_set_self hl] at q; cases q
      · rw [List.getElem?_eq_none (by rw [List.length_set]; omega)] at q; cases q
    · rw [List.getElem?_set_ne hi] at q
      rw [List.getElem?_set_ne hi]
      exact ih.2 i d q
/-- the target of a comprehension, by its slots -/
def TgOk (K : PySem.W.Frag) (cm : Str → Value) (vs : List Nat) (g : TG) (f : DG) : Prop := ∀ {L : List Addr} {H : Hp} {S : DS} {σ : L2.St} {d : D} {x : V} {S0 : DS} {Q : L2.St → Hp → Prop}, AbS K cm L H S (wipe σ vs) → Rep K cm L H d x → f d S = some S0 →
  (∀ σ2, AbS K cm L H S0 σ2 → wipe σ2 vs = wipe σ vs → Q σ2 H) → g x (wipe σ vs) H Q
theorem tg_one (i : Nat) : TgOk K cm [i] (gName i) (gN i) := fun {L H S σ d x S0 Q} a r e k => by
  cases e
  refine k _ (a.set r i) ?_
  show ((σ.set i none).set i (some x)).set i none = σ.set i none
  rw [List.set_set, List.set_set]
theorem tg_two (i j : Nat) (hij : i ≠ j) : TgOk K cm [i, j] (L2.gTup K 2 (L2.gCons (gName i) (L2.gCons (gName j) L2.gNil))) (gTup 2 (gCons (gN i) (gCons (gN j) gNil))) := fun {L H S σ d x S0 Q} a r e k => by
  unfold gTup at e
  split at e
  · rename_i xs
    split at e
    · rename_i hl
      cases r with
      | @tup xs vs p hs rr =>
        cases rr with
        | nil => cases hl
        | @cons d1 ds v1 vs r1 rr =>
          cases rr with
          | nil => cases hl
          | @cons d2 ds v2 vs r2 rr =>
            cases rr with
            | cons _ _ => cases hl
            | nil =>
              refine ⟨p, _, rfl, hs, rfl, v1, _, rfl, v2, _, rfl, rfl, ?_⟩
              cases e
              refine k _ ((a.set r1 i).set r2 j) ?_
              show ((((((σ.set j none).set i none).set i (some v1)).set j (some v2))).set j none).set i none = (σ.set j none).set i none
              rw [List.set_set, List.set_comm _ _ hij, List.set_comm none (some v1) (Ne.symm hij)]
              simp only [List.set_set, List.set_comm _ _ hij]
    · cases e
  · cases e
/-- what stands in the middle of a comprehension -/
structure Mid (K : PySem.W.Frag) (cm : Str → Value) (L1 : List Addr) (H1 : Hp) (p : Addr) (w : List (Option D)) (σw : L2.St) (La : List Addr) (Ha : Hp) (acc : List D) (h : List Ob) : Prop where
  ab : AbS K cm La Ha ⟨w, h⟩ σw
  ext : Ext K L1 H1 La Ha
  out : p ∉ La
  acc : ∃ vs, Ha p = some (.lst vs) ∧ Reps K cm La Ha acc vs
def W0 : WX := fun _ _ _ _ => False
theorem only_ok {α β : Type} {r : Res α} {k : α → DS → Res β} {y : β} {S' : DS} (h : r.only k = .ok y S') : ∃ a S, r = .ok a S ∧ k a S = .ok y S' := by
  cases r with
  | ok a S => exact ⟨a, S, rfl, h⟩
  | exc e S => cases h
  | stuck => cases h
/-- the test and the element of one turn -/
theorem turn_ok {tt : DT} {fe : DE} {L1 La : List Addr} {H1 Ha : Hp} {p : Addr} {w : List (Option D)} {σw σ2 : L2.St} {acc acc2 : List D} {S0 S1 : DS} (hp : H1 p = none) (e0 : Ext K L1 H1 La Ha) (out : p ∉ La) (ha : ∃ vs, Ha p = some (.lst vs) ∧ Reps K cm La Ha acc vs) (a : AbS K cm La Ha S0 σ2) (hl : LocR K cm La Ha w σw)
    (h : compT tt fe S0 acc = .ok acc2 S1) {Q : Hp → Prop} (q : ∀ Lb Hb, Mid K cm L1 H1 p w σw Lb Hb acc2 S1.h → Q Hb) :
    rdT K cm W0 tt σ2 Ha fun b H3 => if b = true then rdE K cm W0 fe σ2 H3 fun y H4 => ∃ ac, H4 p = some (.lst ac) ∧ ac.length < sizeLine ∧ Q (upd H4 p (.lst (ac ++ [y]))) else Q H3 := by
  obtain ⟨vs, hv, rv⟩ := ha
  obtain ⟨c, S2, h1, h2⟩ := only_ok h
  refine ⟨La, S0, a, ?_⟩
  rw [h1]
  rintro L3 H3 b e3 x3 rfl
  obtain ⟨out3, hv3⟩ := e3.out out hv
  cases c with
  | true =>
    rw [if_pos rfl] at h2 ⊢
    obtain ⟨y, S3, h3, h4⟩ := only_ok h2
    refine ⟨L3, S2, x3, ?_⟩
    rw [h3]
    intro L4 H4 v e4 x4 r4
    obtain ⟨out4, hv4⟩ := e4.out out3 hv3
    split at h4
    · rename_i hz
      cases h4
      refine ⟨vs, hv4, by rw [← rv.length]; exact mx_lt hz, q L4 _ ⟨?_, Ext.chg hp ((e0.trans e3).trans e4) (.inl ⟨vs, hv4⟩), out4, _, upd_same, ?_⟩⟩
      · have x5 : AbS K cm L4 H4 ⟨w, S1.h⟩ σw := ⟨x4.hp, hl.mono (e3.trans e4)⟩
        exact x5.chg out4 (.inl ⟨vs, hv4⟩)
      · exact ((rv.mono (e3.trans e4)).append (.cons r4 .nil)).monoW (ExtW.chg (.inl ⟨vs, hv4⟩))
    · cases h4
  | false =>
    rw [if_neg (by decide)] at h2 ⊢
    cases h2
    exact q L3 H3 ⟨⟨x3.hp, hl.mono e3⟩, e0.trans e3, out3, vs, hv3, rv.mono e3⟩
/-- the whole -/
theorem comp_core {it : DS → Res Iter0} {g : TG} {f : DG} {tt : DT} {fe : DE} {vs : List Nat} (tg : TgOk X.K cm vs g f) {σ : L2.St} {H : Hp} {Q : VK} (q : rdE X.K cm W (dComp vs it f tt fe) σ H Q) :
    tLc (rdI X.K cm W it) g (rdT X.K cm W0 tt) (rdE X.K cm W0 fe) vs σ H Q := by
  obtain ⟨L, S, a, q⟩ := q
  refine ⟨L, S, a, (Aft.step (R := ItR X.K cm) q).mono fun J H1 z => ?_⟩
  obtain ⟨L1, S1, I, e1, x1, r1, q1⟩ := z
  intro p hp
  have hl := loc_wipe x1.loc vs
  have mid0 : Mid X.K cm L1 H1 p (wipeD S1.loc vs) (wipe σ vs) L1 (upd H1 p (.lst [])) [] S1.h :=
    ⟨⟨x1.hp.beside hp, hl.mono (Ext.beside hp)⟩, Ext.beside hp, x1.hp.fresh hp, [], upd_same, .nil⟩
  -- the end
  have fin : ∀ {acc : List D} {S2 : DS} {La : List Addr} {Ha : Hp}, Mid X.K cm L1 H1 p (wipeD S1.loc vs) (wipe σ vs) La Ha acc S2.h → Aft X.K cm W (Rep X.K cm) L1 σ H1 (newO (.lst acc) ⟨S1.loc, S2.h⟩) Q → Q (.ref p) Ha := fun {acc S2 La Ha} m q => by
    obtain ⟨ws, hv, rv⟩ := m.acc
    have eo := m.ext.own hp
    have ew : ExtW X.K La Ha (La ++ [p]) (upd Ha p (.lst ws)) := ExtW.adopt (.inl ⟨ws, hv⟩)
    have hb := m.ab.hp.adopt (ob := .lst acc) m.out (.inl ⟨ws, hv⟩) ⟨ws, upd_same, rv.monoW ew⟩
    rw [upd_id hv] at hb
    exact q _ _ _ eo ⟨hb, x1.loc.mono eo⟩ (.ref m.ab.hp.newIx)
  cases I with
  | vals xs =>
    have wk : Walks0 X.K cm L1 H1 xs J := r1
    dsimp only at q1
    refine ⟨fun i m Ha => m = xs.length - i ∧ i ≤ xs.length ∧ ∃ La acc h S2 acc2, Mid X.K cm L1 H1 p (wipeD S1.loc vs) (wipe σ vs) La Ha acc h ∧ compV f tt fe (wipeD S1.loc vs) (xs.drop i) acc h = .ok acc2 S2 ∧ Aft X.K cm W (Rep X.K cm) L1 σ H1 (newO (.lst acc2) ⟨S1.loc, S2.h⟩) Q, ?_, ?_⟩
    · generalize hr : compV f tt fe (wipeD S1.loc vs) xs [] S1.h = r at q1
      cases r with
      | ok acc2 S2 => exact ⟨xs.length, by simp, Nat.zero_le _, L1, [], S1.h, S2, acc2, mid0, by simpa using hr, q1⟩
      | exc u S2 => exact q1.elim
      | stuck => exact q1.elim
    · rintro i m Ha ⟨rfl, hi, La, acc, h, S2, acc2, md, hc, qf⟩
      by_cases hlt : i < xs.length
      · obtain ⟨go, yl⟩ := wk.go La Ha i xs[i] md.ext (by simp [hlt])
        rw [List.drop_eq_getElem_cons hlt] at hc
        unfold compV at hc
        split at hc
        · rename_i S0 h0
          obtain ⟨acc3, S3, h3, h4⟩ := only_ok hc
          refine .inr ⟨go, fun Hb => i + 1 ≤ xs.length ∧ ∃ Lb, Mid X.K cm L1 H1 p (wipeD S1.loc vs) (wipe σ vs) Lb Hb acc3 S3.h, fun Hb ⟨z1, Lb, z2⟩ => ⟨xs.length - (i + 1), by omega, rfl, z1, Lb, acc3, S3.h, S2, acc2, z2, h4, qf⟩, fun x Hb y => ?_⟩
          obtain ⟨eb, hb, rx⟩ := yl x Hb y
          obtain ⟨ws, hv, rv⟩ := md.acc
          obtain ⟨outb, hvb⟩ := eb.out md.out hv
          have lb := md.ab.loc.mono eb
          refine tg ⟨hb _ md.ab.hp, lb⟩ rx h0 fun σ2 a2 ew => ⟨ew, ?_⟩
          exact turn_ok hp (md.ext.trans eb) outb ⟨ws, hvb, rv.mono eb⟩ a2 lb h3 fun Lb Hc mc => ⟨hlt, Lb, mc⟩
        · cases hc
      · have e0 : i = xs.length := by omega
        subst e0
        rw [List.drop_length] at hc
        cases hc
        exact .inl ⟨wk.stop La Ha md.ext, fin (S2 := ⟨wipeD S1.loc vs, h⟩) md qf⟩
  | dyn n =>
    have wk : WalksD X.K cm L1 H1 n J := r1
    dsimp only at q1
    refine ⟨fun i m Ha => ∃ La acc h S2 acc2, Mid X.K cm L1 H1 p (wipeD S1.loc vs) (wipe σ vs) La Ha acc h ∧ compO n f tt fe (wipeD S1.loc vs) m i acc h = .ok acc2 S2 ∧ Aft X.K cm W (Rep X.K cm) L1 σ H1 (newO (.lst acc2) ⟨S1.loc, S2.h⟩) Q, ?_, ?_⟩
    · generalize hr : compO n f tt fe (wipeD S1.loc vs) 100000 0 [] S1.h = r at q1
      cases r with
      | ok acc2 S2 => exact ⟨100000, L1, [], S1.h, S2, acc2, mid0, hr, q1⟩
      | exc u S2 => exact q1.elim
      | stuck => exact q1.elim
    · rintro i m Ha ⟨La, acc, h, S2, acc2, md, hc, qf⟩
      cases m with
      | zero => cases hc
      | succ m =>
        unfold compO at hc
        split at hc
        · rename_i hn
          cases hc
          exact .inl ⟨wk.stop La Ha _ i md.ext md.ab.hp hn, fin (S2 := ⟨wipeD S1.loc vs, h⟩) md qf⟩
        · rename_i d hd
          obtain ⟨go, yl⟩ := wk.go La Ha _ i d md.ext md.ab.hp hd
          split at hc
          · rename_i S0 h0
            obtain ⟨acc3, S3, h3, h4⟩ := only_ok hc
            refine .inr ⟨go, fun Hb => ∃ Lb, Mid X.K cm L1 H1 p (wipeD S1.loc vs) (wipe σ vs) Lb Hb acc3 S3.h, fun Hb ⟨Lb, z2⟩ => ⟨m, Nat.lt_succ_self _, Lb, acc3, S3.h, S2, acc2, z2, h4, qf⟩, fun x Hb y => ?_⟩
            obtain ⟨eb, hb, rx⟩ := yl x Hb y
            obtain ⟨ws, hv, rv⟩ := md.acc
            obtain ⟨outb, hvb⟩ := eb.out md.out hv
            have lb := md.ab.loc.mono eb
            refine tg ⟨hb _ md.ab.hp, lb⟩ rx h0 fun σ2 a2 ew => ⟨ew, ?_⟩
            exact turn_ok hp (md.ext.trans eb) outb ⟨ws, hvb, rv.mono eb⟩ a2 lb h3 fun Lb Hc mc => ⟨Lb, mc⟩
          · cases hc
        · cases hc
variable {elt tg iter : Expr} {ifs : List Expr} {scope : Scope} {own : List (Str × Nat)} {pos p : Pos}
theorem ts_nil : PTs X [] (rdT X.K cm W tTrue) := ⟨fun pins s σ H Q I q => pts_nil.run pins s σ H Q I (by
  obtain ⟨L, S, a, q⟩ := q
  exact q.give a rfl)⟩
theorem ts_one {c : Expr} {t : DT} (h : PT X c (rdT X.K cm W t)) : PTs X [c] (rdT X.K cm W t) := pts_one h
theorem e_comp {it : DS → Res Iter0} {g : TG} {f : DG} {tt : DT} {fe : DE} (hc : X.calm = true) (hN : X.N.Nodup) (hi : PI X tg iter (rdI X.K cm W it)) (ok : BlkOk X.N X.env.scope scope own) (tgo : TgOk X.K cm (own.map (·.2)) g f)
    (hg : ∀ (s : Shared) (H : Hp) (C : Addr) (cl : List (Str × Addr)) (fp : List Addr), PG (X.blk s H scope (compEnvC scope cl C X.env) fp) tg g)
    (ht : ∀ (s : Shared) (H : Hp) (C : Addr) (cl : List (Str × Addr)) (fp : List Addr), PTs (X.blk s H scope (compEnvC scope cl C X.env) fp) ifs (rdT X.K cm W0 tt))
    (he : ∀ (s : Shared) (H : Hp) (C : Addr) (cl : List (Str × Addr)) (fp : List Addr), PE (X.blk s H scope (compEnvC scope cl C X.env) fp) elt (rdE X.K cm W0 fe)) (hs : ∀ x, foldedSetIterable iter X.env x = pure x := by intro _; rfl) :
    PE X (.ListComp elt [⟨tg, iter, ifs, 0⟩] scope pos) (rdE X.K cm W (dComp (own.map (·.2)) it f tt fe)) := weakE (pe_lc hc hN hi ok hg ht he hs) fun _ _ _ => comp_core tgo
/-- name = [..] on one line -/
theorem s_setC {i : Nat} {y : Str} {py spos : Pos} {it : DS → Res Iter0} {g : TG} {f : DG} {tt : DT} {fe : DE} (hc : X.calm = true) (hN : X.N.Nodup) (hy : X.N[i]? = some y) (hyl : X.env.scope.names.lookup y = some .local)
    (hsw : swapsWith (.ListComp elt [⟨tg, iter, ifs, 0⟩] scope pos) (some (.Name y py)) spos.line X.env = pure true) (hi : PI X tg iter (rdI X.K cm W it)) (ok : BlkOk X.N X.env.scope scope own) (tgo : TgOk X.K cm (own.map (·.2)) g f)
    (hg : ∀ (s : Shared) (H : Hp) (C : Addr) (cl : List (Str × Addr)) (fp : List Addr), PG (X.blk s H scope (compEnvC scope cl C X.env) fp) tg g)
    (ht : ∀ (s : Shared) (H : Hp) (C : Addr) (cl : List (Str × Addr)) (fp : List Addr), PTs (X.blk s H scope (compEnvC scope cl C X.env) fp) ifs (rdT X.K cm W0 tt))
    (he : ∀ (s : Shared) (H : Hp) (C : Addr) (cl : List (Str × Addr)) (fp : List Addr), PE (X.blk s H scope (compEnvC scope cl C X.env) fp) elt (rdE X.K cm W0 fe)) (hs : ∀ x, foldedSetIterable iter X.env x = pure x := by intro _; rfl) :
    PS X (.Assign [.Name y py] (.ListComp elt [⟨tg, iter, ifs, 0⟩] scope pos) spos) (rdS X.K cm W (sAsg (dComp (own.map (·.2)) it f tt fe) (gN i))) := weakS (ps_setLc hc hN hy hyl hsw hi ok hg ht he hs) fun E σ H q => by
  obtain ⟨L, S, a, q⟩ := q
  refine comp_core tgo ⟨L, S, a, (AftS.step (R := Rep X.K cm) q).mono fun v H1 z => ?_⟩
  obtain ⟨L1, S1, d, e1, x1, r1, q1⟩ := z
  exact q1 L1 H1 _ Ext.refl (x1.set r1 i)
end
end Den

namespace Den
open PySem L2

/-! ### 18. raise -/
/-- an __init__ that keeps its one value -/
def spI (K : PySem.W.Frag) (C : Addr) (f : Str) : Sp := fun vs H Q _ => ∃ a v, vs = [.ref a, v] ∧ OexC K C ∧ PySem.W.findIn K (.ref C) f = some none ∧ H a = some (exo a C none) ∧ ∀ dx, H dx = none → dx ≠ a → Q .non (upd (upd H dx (exd dx [(f, v)])) a (exo a C (some dx)))
def sRaise1 (cls f : Str) (a : DA) : DSt := fun S => (a S).bind fun ds S1 => match ds with
  | [d] => .exc ⟨cls, [(f, d)]⟩ S1
  | _ => .stuck
def sRaise0 (cls : Str) : DSt := fun S => .exc ⟨cls, []⟩ S
section
variable {X : Cx} {cm : Str → Value} {W : WX} {e : Expr} {x f cls : Str} {p p2 pos pos2 : Pos} {ga : DA} {C fI : Addr} {k : Nat} {fd : FuncData} {K : PySem.W.Frag} {L : List Addr} {H : Hp} {S : DS} {σ : L2.St}
theorem spI_len {n0 n1 : Str} : ∀ vs H Q E, spI K C f vs H Q E → vs.length = [n0, n1].length := fun _ _ _ _ h => by
  obtain ⟨_, _, rfl, _⟩ := h
  rfl
theorem spI_body {X : Cx} {D : Ends} {vs : List V} {H : Hp} {Q : VK} {E : XK} (h : spI X.K C f vs H Q E) (hD : D.nx = fun _ H' => Q .non H') : tOst X.K f (tVar 0) (tVar 1) D (vs.map some) H := by
  obtain ⟨a, v, rfl, T, hno, ea, q⟩ := h
  refine ⟨v, rfl, .ref a, rfl, a, C, rfl, T, hno, .inl ⟨ea, fun dx h1 h2 => ?_⟩⟩
  rw [hD]
  exact q dx h1 h2
theorem look_one {α : Type} {f g : Str} {y : α} : List.lookup g [(f, y)] = if g = f then some y else none := by
  by_cases h : g = f
  · subst h; simp [List.lookup]
  · have e : (g == f) = false := by simpa using h
    rw [if_neg h]; simp [List.lookup, e]
theorem s_raise1 {n0 n1 : Str} (hc : X.calm = true) (tk : Takes X W) (T : OexC X.K C) (hno : PySem.W.findIn X.K (.ref C) f = some none) (hcl : cm cls = .ref C) (iC : PySem.W.findIn X.K (.ref C) "__init__" = some (some (.ref fI))) (tI : PySem.W.typeIn X.K (.ref fI) = some (.type "function"))
    (F1 : FnOk X.prog X.w X.K X.mg X.base (L2.CX X.prog X.w) k fI fd [n0, n1] (spI X.K C f)) (hr : Room (k + 1) X.A) (hb : Binds X.K fd [n0, n1] []) (hg : Gl X x) (hm : X.mg x = some (.ref C)) (ha : PA X [e] (rdA X.K cm W ga))
    (hdb : (x == ("__debug__" : Str)) = false := by decide) (he : starEach [e] X.env = (false, eval e X.env) :: starEach [] X.env := by rfl) (hpl : (backTo pos (starEach [] X.env)).any (·.1) = false := by rfl) :
    PS X (.Raise (some (.Call (.Name x p) [e] [] pos)) none pos2) (rdS X.K cm W (sRaise1 cls f ga)) := weakS (ps_raise hc tk (pmk_oex (dvs := []) T iC tI F1 hr hb .nil passL hg hm ha hdb he hpl)) fun E σ H q => by
  obtain ⟨L, S, a, q⟩ := q
  refine ⟨L, S, a, (AftS.step (R := Reps X.K cm) q).mono fun vs H1 z => ?_⟩
  obtain ⟨L1, S1, ds, e1, x1, r1, q1⟩ := z
  split at q1
  · rename_i d
    cases r1 with
    | cons r1 r2 =>
      cases r2
      rename_i v
      refine ⟨by show 1 ≤ 1000; omega, fun o ho => ⟨o, v, rfl, T, hno, upd_same, fun dx h1 h2 => ⟨rfl, dx, [(f, v)], upd_same, ?_, ?_, ?_⟩⟩⟩
      · rw [upd_ne h2, upd_same]
      · rw [upd_ne h2] at h1; exact h1
      · rw [upd_ne h2] at h1
        have eq : upd (del (upd (upd (upd H1 o (exo o C none)) dx (exd dx [(f, v)])) o (exo o C (some dx))) o) dx (HO.xd [(f, v)]) = upd H1 dx (.xd [(f, v)]) := by
          funext b
          by_cases z1 : b = dx
          · subst z1; rw [upd_same, upd_same]
          · rw [upd_ne z1, upd_ne z1]
            by_cases z2 : b = o
            · subst z2; rw [del_same, ho]
            · rw [del_ne z2, upd_ne z2, upd_ne z1, upd_ne z2]
        rw [eq]
        refine q1 L1 _ σ (.ref C) (some dx) (Ext.beside h1) (x1.beside h1) ⟨hcl.symm, .inr ⟨dx, [(f, v)], rfl, upd_same, fun g y hy => ?_⟩⟩
        rw [look_one] at hy ⊢
        split at hy
        · rename_i hg; cases hy
          exact ⟨v, by rw [if_pos hg], r1.mono (Ext.beside h1)⟩
        · cases hy
  · exact q1.elim
/-- C(), C without an own __init__ -/
theorem pmk_own0 {bmB : List Value} {B newId initId : String} (F : ExcBaseFacts B newId initId bmB) (q : PySem.W.excIn X.K C bmB newId = true) (gC : X.mg x = some (.ref C)) (kC : PySem.W.keepIn X.K (.ref C) = true) (r : Raises X (.ref C)) (hg : Gl X x)
    (hdb : (x == ("__debug__" : Str)) = false := by decide) : PMk X (.Call (.Name x p) [] [] pos) (fun _ H Q => Q (.ref C) none H) := by
  intro pins s σ H Q I h
  apply wpAny_Call_Name_kw
  apply ld_glob I hg gC _ hdb
  apply PySem.W.callWith_K0 I.kIn kC
  show wpAny _ _ (call (.ref C) []) _ _ _
  obtain ⟨bm, N, nm, qn, bs, hdct, sn, sub, ab, col, dd, k0, k1, k2, k3, k5, mN, hC, hN, hni, T⟩ := exc_obj I.kIn q
  apply wpAny_call_exc_subT F T hC hN hni
  · intro h' o hm
    exact mk_of I hm r h (I.hok.gone hm.new)
theorem s_raise0 (hc : X.calm = true) (tk : Takes X W) (hcl : cm cls = .ref C) (h : PMk X e (fun _ H Q => Q (.ref C) none H)) : PS X (.Raise (some e) none pos2) (rdS X.K cm W (sRaise0 cls)) := weakS (ps_raise hc tk h) fun E σ H q => by
  obtain ⟨L, S, a, q⟩ := q
  exact q L H σ (.ref C) none Ext.refl a ⟨hcl.symm, .inl ⟨rfl, rfl⟩⟩
end

/-! ### 19. try -/
def sTry1 (sub : Str → Option Bool) (b : DSt) (h : Xn → DSt) : DSt := fun S => match b S with
  | .exc e S1 => match sub e.cls with
    | some true => match h e S1 with
      | .ok f S2 => .ok f S2
      | _ => .stuck
    | some false => .exc e S1
    | none => .stuck
  | r => r
def sRetX (i : Nat) (f : Xn → DE) : Xn → DSt := fun e S => if i < S.loc.length then sRet (f e) { S with loc := S.loc.set i none } else .stuck
section
variable (K : PySem.W.Frag) (cm : Str → Value) (i : Nat) (a : Addr) (cls : Value) (dx : Option Addr)
/-- a reading in an except suite, over the exception at a, whose name is slot i's -/
def rdX {α β : Type} (R : List Addr → Hp → α → β → Prop) (f : Xn → DS → Res α) : L2.St → Hp → (β → Hp → Prop) → Prop := fun σ H Q =>
  σ[i]? = some (some (.ref a)) ∧ ∃ L S e, AbS K cm L H S σ ∧ XnR K cm L H e cls dx ∧ Aft K cm W0 R L σ H (f e S) Q
end
def xFld (cn f : Str) : Xn → DE := fun e S => if e.cls = cn then match e.fs.lookup f with
  | some d => .ok d S
  | none => .stuck else .stuck
def xIsi (cn : Str) (b : Bool) : Xn → DE := fun e S => if e.cls = cn then .ok (.bl b) S else .stuck
def xC (f : DE) : Xn → DE := fun _ => f
def xNil : Xn → DA := fun _ => dNil
def xCons (f : Xn → DE) (g : Xn → DA) : Xn → DA := fun e => dCons (f e) (g e)
def xLst (g : Xn → DA) : Xn → DE := fun e => dLst (g e)
theorem XnR.mono {K : PySem.W.Frag} {cm : Str → Value} {L L1 : List Addr} {H H1 : Hp} {S : DS} {σ : L2.St} {e : Xn} {c : Value} {dx : Option Addr} (x : XnR K cm L H e c dx) (a : AbS K cm L H S σ) (ex : Ext K L H L1 H1) : XnR K cm L1 H1 e c dx := by
  obtain ⟨h1, h2⟩ := x
  refine ⟨h1, ?_⟩
  rcases h2 with h2 | ⟨d, vs, rfl, hd, hf⟩
  · exact .inl h2
  · refine .inr ⟨d, vs, rfl, ex.oth d _ (fun hm => ?_) hd, fun f y hy => ?_⟩
    · obtain ⟨n, hn, en⟩ := List.getElem_of_mem hm
      have hl : n < S.h.length := by rw [← a.hp.len]; exact hn
      have q := a.hp.obs n S.h[n] d (by simp [hl]) (by rw [List.getElem?_eq_getElem hn, en])
      generalize S.h[n] = ob at q
      cases ob with
      | lst ds => obtain ⟨vs, e, _⟩ := q; rw [hd] at e; cases e
      | dct ds => obtain ⟨vs, e, _⟩ := q; rw [hd] at e; cases e
      | fdct ds => obtain ⟨o, vs, e, _⟩ := q; rw [hd] at e; cases e
    · obtain ⟨v, hv, r⟩ := hf f y hy
      exact ⟨v, hv, r.mono ex⟩
section
variable {X : Cx} {cm : Str → Value} {W : WX} {i : Nat} {a C : Addr} {cls : Value} {dx : Option Addr} {oe : Obj} {pn : List (Addr × Obj)} {e : Expr} {es : List Expr} {pos p np pos' : Pos} {n x cn f : Str} {L : List Addr} {H : Hp} {S : DS} {σ : L2.St}
theorem rdX.at {K : PySem.W.Frag} {α β : Type} {R : List Addr → Hp → α → β → Prop} {f : Xn → DS → Res α} {Q : β → Hp → Prop} (h : rdX K cm i a cls dx R f σ H Q) : tVar i σ H fun v H1 => v = .ref a ∧ H1 = H := ⟨_, h.1, rfl, rfl⟩
theorem x_of {f : DE} (h : PE (X.suite a pn) e (rdE X.K cm W0 f)) : PE (X.suite a pn) e (rdX X.K cm i a cls dx (Rep X.K cm) (xC f)) := weakE h fun σ H Q q => by
  obtain ⟨_, L, S, e, ab, _, q⟩ := q
  exact ⟨L, S, ab, q⟩
theorem x_fld (T : XfC X.K C) (hcn : cm cn = .ref C) (hno : PySem.W.findIn X.K (.ref C) f = some none) (hz : Zc cls dx oe) (hf : ∃ vs, oe.data = .fields vs) (hN : X.N[i]? = some n := by rfl) (hv : Vis X.env.scope n := by first | exact Or.inl rfl | exact Or.inr (Or.inl rfl) | exact Or.inr (Or.inr rfl))
    (hd : (n == ("__debug__" : Str)) = false := by decide) (hcd : (n == ("__classdict__" : Str)) = false := by decide) (hb : attributeBase (.Name n p) f X.env (eval (.Name n p) X.env) = eval (.Name n p) X.env := by rfl) :
    PE (X.suite a ((a, oe) :: pn)) (.Attribute (.Name n p) f pos) (rdX X.K cm i a cls dx (Rep X.K cm) (xFld cn f)) := weakE (pe_xf (X := X) T hno hz hf (pe_var (X := X.suite a ((a, oe) :: pn)) hN hv hd hcd) hb) fun σ H Q q => by
  obtain ⟨hs, L, S, e, ab, xr, q⟩ := q
  refine ⟨_, hs, rfl, ?_⟩
  unfold xFld at q
  split at q
  · rename_i hc
    split at q
    · rename_i d hl
      obtain ⟨e1, e2⟩ := xr
      refine ⟨by rw [e1, hc, hcn], ?_⟩
      rcases e2 with ⟨e2, _⟩ | ⟨dd, vs, rfl, hdd, hfs⟩
      · rw [e2] at hl; cases hl
      · obtain ⟨v, hv, r⟩ := hfs f d hl
        exact ⟨dd, vs, v, rfl, hdd, hv, q.give ab r⟩
    · exact q.elim
  · exact q.elim
/-- isinstance of the exception -/
def rIsX (K : PySem.W.Frag) (a : Addr) (cls : Value) (dx : Option Addr) (D : Addr) (cv : Value) (b : Bool) : List V → Hp → VK → Prop := fun xs H Q => ∃ c, xs = [.ref a, c] ∧ (∀ u, RelV c u → u = cv) ∧ cls = .ref D ∧ (dx = none ∨ ∃ dd fs, dx = some dd ∧ H dd = some (.xd fs)) ∧ Q (.bl b) H
structure IsC (K : PySem.W.Frag) (D : Addr) : Prop where
  cl : (PySem.W.clsIn K D).isSome = true
  ga : PySem.W.findIn K (.ref D) "__getattribute__" = some (some (.builtin "BaseException.__getattribute__"))
  gt : PySem.W.findIn K (.ref D) "__getattr__" = some none
  sub : PySem.W.subIn K (.ref D) (.type "BaseException") = some true
  cc : PySem.W.findIn K (.ref D) "__class__" = some (some (.builtin "object.__class__"))
  nn : PySem.W.specialIn K (.builtin "object.__class__") "__get__" = some (some (.builtin "getset_descriptor.__get__"))
  tk : PySem.W.takesIn K (.builtin "object.__class__") = some true
  mo : PySem.W.mroIn K D (.type "object") = some true
theorem call_isX {D : Addr} {cv : Value} {b : Bool} (I0 : IsC X.K D) (kb : PySem.W.kitOne X.K (.ref D) cv = some b) (hz : Zc cls dx oe) (hf : ∃ vs, oe.data = .fields vs) : CallR (X.suite a ((a, oe) :: pn)) (.builtin "isinstance") (rIsX X.K a cls dx D cv b) := by
  intro pins s σ H xs us Q I r h
  obtain ⟨c, rfl, hcv, rfl, hdx, q⟩ := h
  cases r with
  | cons rx rr =>
    cases rr with
    | cons rt rr =>
      cases rr
      cases rx
      have ec := hcv _ rt
      subst ec
      obtain ⟨hget, _⟩ := I.pin (a, oe) (List.mem_append.mpr (.inl List.mem_cons_self))
      obtain ⟨vs, hv⟩ := hf
      obtain ⟨od, J⟩ : ∃ od, PySem.W.InstAt s.heap a oe D od := by
        rcases hdx with rfl | ⟨dd, fs, rfl, hdd⟩
        · exact ⟨none, hget, hz.1, by unfold PySem.W.notCls; rw [hv] <;> rfl, by rw [hz.2]; trivial⟩
        · have hx : ObjOk X.prog X.w H s.heap dd (.xd fs) := I.hok dd _ hdd
          obtain ⟨mA, ⟨o, es, ep, ho, hr⟩, _⟩ := hx
          exact ⟨some o, hget, hz.1, by unfold PySem.W.notCls; rw [hv] <;> rfl, by rw [hz.2]; exact ho⟩
      exact PySem.W.kia_one (PySem.W.kitx_exc I0.cl I0.ga I0.gt I0.sub I0.cc I0.nn I0.tk I0.mo) I.kIn J kb (fun z => nomatch z) fun tk => ⟨.bl b, H, I.kept (t' := tk) fun _ _ z => z, rfl, q⟩
theorem x_isi {cv : Value} {b : Bool} {D : Addr} {y : Str} {p1 p2 p3 : Pos} {v : V} (I0 : IsC X.K D) (kb : PySem.W.kitOne X.K (.ref D) cv = some b) (hcn : cm cn = .ref D) (hz : Zc cls dx oe) (hf : ∃ vs, oe.data = .fields vs) (hg : Gl X "isinstance") (hm : X.mg "isinstance" = none)
    (hgy : Gl X y) (hmy : X.mg y = some cv) (rv : RelV v cv) (hv1 : ∀ u, RelV v u → u = cv) (hy : (y == ("__debug__" : Str)) = false := by decide) (hN : X.N[i]? = some n := by rfl) (hv : Vis X.env.scope n := by first | exact Or.inl rfl | exact Or.inr (Or.inl rfl) | exact Or.inr (Or.inr rfl))
    (hd : (n == ("__debug__" : Str)) = false := by decide) (hcd : (n == ("__classdict__" : Str)) = false := by decide) :
    PE (X.suite a ((a, oe) :: pn)) (.Call (.Name "isinstance" p1) [.Name n p2, .Name y p3] [] pos) (rdX X.K cm i a cls dx (Rep X.K cm) (xIsi cn b)) :=
  weakE (pe_callB (X := X.suite a ((a, oe) :: pn)) (call_isX I0 kb hz hf) hg hm rfl (pa_cons (pe_var (X := X.suite a ((a, oe) :: pn)) hN hv hd hcd) (pa_cons (pe_glob (X := X.suite a ((a, oe) :: pn)) hgy hmy rv hy) pa_nil)) (by decide) (by decide)) fun σ H Q q => by
    obtain ⟨hs, L, S, e, ab, xr, q⟩ := q
    unfold xIsi at q
    split at q
    · rename_i hc
      obtain ⟨e1, e2⟩ := xr
      refine ⟨_, hs, v, rfl, hv1, by rw [e1, hc, hcn], ?_, q.give ab (.bl b)⟩
      rcases e2 with ⟨_, e2⟩ | ⟨dd, vs, e2, hdd, _⟩
      · exact .inl e2
      · exact .inr ⟨dd, vs, e2, hdd⟩
    · exact q.elim
theorem xa_nil : PA (X.suite a pn) [] (rdX X.K cm i a cls dx (Reps X.K cm) xNil) := weakA pa_nil fun σ H Q q => by
  obtain ⟨_, L, S, e, ab, _, q⟩ := q
  exact q.give ab .nil
theorem xa_cons {ff : Xn → DE} {gg : Xn → DA} (h : PE (X.suite a pn) e (rdX X.K cm i a cls dx (Rep X.K cm) ff)) (hr : PA (X.suite a pn) es (rdX X.K cm i a cls dx (Reps X.K cm) gg)) (hs : starEach (e :: es) X.env = (false, eval e X.env) :: starEach es X.env := by rfl) :
    PA (X.suite a pn) (e :: es) (rdX X.K cm i a cls dx (Reps X.K cm) (xCons ff gg)) := weakA (pa_cons h hr hs) fun σ H Q q => by
  obtain ⟨hs, L, S, e, ab, xr, q⟩ := q
  refine ⟨hs, L, S, e, ab, xr, (Aft.step (R := Rep X.K cm) q).mono fun v H1 z => ?_⟩
  obtain ⟨L1, S1, d, e1, x1, r1, q1⟩ := z
  refine ⟨hs, L1, S1, e, x1, xr.mono ab e1, (Aft.step (R := Reps X.K cm) q1).mono fun u H2 z => ?_⟩
  obtain ⟨L2, S2, d2, e2, x2, r2, q2⟩ := z
  exact q2.give x2 (.cons (r1.mono e2) r2)
theorem x_lst {gg : Xn → DA} (h : PA (X.suite a pn) es (rdX X.K cm i a cls dx (Reps X.K cm) gg)) : PE (X.suite a pn) (.List es pos) (rdX X.K cm i a cls dx (Rep X.K cm) (xLst gg)) := weakE (pe_lst h) fun σ H Q q => by
  obtain ⟨hs, L, S, e, ab, xr, q⟩ := q
  refine ⟨hs, L, S, e, ab, xr, (Aft.step (R := Reps X.K cm) q).mono fun v H1 z => ?_⟩
  obtain ⟨L1, S1, d, e1, x1, r1, q1⟩ := z
  split at q1
  · rename_i h
    exact ⟨mx_line (by rw [← r1.length]; exact h), fun p hp => give_new x1 r1 q1 hp⟩
  · exact q1.elim
theorem LocR.unset {K : PySem.W.Frag} {ls : List (Option D)} {v : Option V} (r : LocR K cm L H ls σ) (i : Nat) : LocR K cm L H (ls.set i none) (σ.set i v) := by
  refine ⟨by rw [List.length_set, List.length_set]; exact r.1, fun j d q => ?_⟩
  by_cases hi : i = j
  · subst hi
    by_cases hl : i < ls.length
    · rw [List.getElem?_set_self hl] at q; cases q
    · rw [List.getElem?_eq_none (by rw [List.length_set]; omega)] at q; cases q
  · rw [List.getElem?_set_ne hi] at q
    rw [List.getElem?_set_ne hi]
    exact r.2 j d q
theorem s_try_as {c : Value} {sub : Str → Option Bool} {body : List Stmt} {e0 : Expr} {pr : Pos} {b : DSt} {ff : Xn → DE} (hs : X.stack = X.env :: X.outer) (hf : X.env.frame = some X.env.locals) (hN : X.N.Nodup) (hi : X.N[i]? = some n) (hln : X.env.kindOf n = some .local) (hc : Names X x c) (tk : Takes X W)
    (hsub : ∀ m r, sub m = some r → PySem.W.exmOne X.K (cm m) c = some r)
    (hb : ∀ (W : WX) (pn : List (Addr × Obj)) (xe : Value → Shared → Prop), Takes (X.tr pn xe) W → PassesOwn (model X.prog X.w) X.A X.env xe → PSs (X.tr pn xe) body (rdS X.K cm W b))
    (hsu : ∀ (a : Addr) (oe : Obj) (cls : Value) (d : Option Addr) (pn : List (Addr × Obj)), Zc cls d oe → (∃ vs, oe.data = .fields vs) → PE (X.suite a ((a, oe) :: pn)) e0 (rdX X.K cm i a cls d (Rep X.K cm) ff)) :
    PS X (.Try body [.ExceptHandler (some (.Name x np)) (some n) [.Return (some e0) pr] pos'] [] [] pos) (rdS X.K cm W (sTry1 sub b (sRetX i ff))) :=
  weakS (ps_try_as (ts := fun a cls d => tRet (rdX X.K cm i a cls d (Rep X.K cm) ff)) hs hf hN hi hln hc tk hb fun a oe cls d pn h1 h2 => pss_one (ps_ret (hsu a oe cls d pn h1 h2))) fun D σ H q => by
    obtain ⟨L, S, ab, q⟩ := q
    refine ⟨L, S, ab, ?_⟩
    unfold sTry1 at q
    generalize b S = r at q
    cases r with
    | ok f S1 => cases f <;> exact q
    | stuck => exact q
    | exc u S1 =>
      dsimp only at q
      intro L1 H1 σ1 cl dx e1 x1 xr
      split at q
      · rename_i hsb
        refine ⟨true, ?_, fun _ a ha => ?_, fun z => by cases z⟩
        · rw [xr.1]; exact hsub _ _ hsb
        · have q1 := AftS.ext e1 q
          unfold sRetX sRet at q1
          by_cases hlt : i < S1.loc.length
          · rw [if_pos hlt] at q1
            refine ⟨by rw [List.getElem?_set_self (by rw [← x1.loc.1]; exact hlt)], L1, { S1 with loc := S1.loc.set i none }, u, ⟨x1.hp, x1.loc.unset i⟩, xr, ?_⟩
            generalize ff u { S1 with loc := S1.loc.set i none } = w at q1
            cases w with
            | ok d S2 => exact fun L' H' v ex xx rr => q1 L' H' (σ1.set i (some (.ref a))) v ex xx rr
            | exc _ _ => exact q1.elim
            | stuck => exact q1.elim
          · rw [if_neg hlt] at q1
            exact q1.elim
      · rename_i hsb
        refine ⟨false, ?_, fun z => (by cases z), fun _ => ?_⟩
        · rw [xr.1]; exact hsub _ _ hsb
        · exact (AftS.ext e1 q) L1 H1 σ1 cl dx Ext.refl x1 xr
      · exact q.elim
end
end Den

namespace Den
open PySem L2

/-! ### 20. x[::-1] -/
def revS (z : Str) : Str := ⟨z.cps.reverse⟩
def oRev : D → DS → Res D := fun x S => match x with
  | .str z => if z.length ≤ mxL then .ok (.str (revS z)) S else .stuck
  | .ro xs => newO (.lst xs.reverse) S
  | .ref n => match S.h[n]? with
    | some (.lst xs) => newO (.lst xs.reverse) S
    | _ => .stuck
  | _ => .stuck
def dRev (a : DE) : DE := fun S => (a S).bind oRev
def tRevA (K : PySem.W.Frag) (te : TE) : TE := fun σ H Q => te σ H fun x H1 => (∃ z, x = .str z ∧ z.length ≤ sizeLine ∧ Q (.str (revS z)) H1) ∨ ∃ a xs, x = .ref a ∧ SqL K H1 a xs ∧ ∀ p, H1 p = none → Q (.ref p) (upd H1 p (.lst xs.reverse))
theorem rev_ix (n : Nat) : Builtin.Str.strSliceIndices none none (-1) n = (List.range n).reverse := by
  rw [← PySem.W.krv_range, ← PySem.W.krv_sliceRange]
  rfl
section
variable {X : Cx} {cm : Str → Value} {W : WX} {e : Expr} {fa : DE} {te : TE} {k : Nat} {p1 p2 p3 pos : Pos}
theorem revS_size (z : Str) : (revS z).length = z.length := by
  show (z.cps.reverse).size = z.cps.size
  exact Array.size_reverse
theorem pe_revA (he : PE X e te) : PE X (.Subscript e (.Slice none none (some (.UnaryOp .USub (.Constant (.int 1) k p1) p2)) p3) pos) (tRevA X.K te) := by
  constructor
  intro pins s σ H Q I hh
  apply PyProof.Rows.Subscript_
  apply thn (he.run pins s σ H _ I hh)
  rintro v s1 ⟨x, H1, I1, rx, hq⟩
  have step1 : PO X (some (.UnaryOp .USub (.Constant (.int 1) k p1) p2)) (tPart (tUn (rU fun i => .int (-i)) (tC (.int 1)))) := po_some (pe_un un_neg pe_int)
  apply wpAny_Slice
  apply thn (po_none.run pins s1 σ H1 (fun o G => o = none ∧ G = H1) I1 ⟨rfl, rfl⟩)
  rintro vl s2 ⟨l, H2, I2, pl, rfl, rfl⟩
  apply thn (po_none.run pins s2 σ H2 (fun o G => o = none ∧ G = H2) I2 ⟨rfl, rfl⟩)
  rintro vu s3 ⟨u, H3, I3, pu, rfl, rfl⟩
  apply thn (step1.run pins s3 σ H3 (fun o G => o = some (-1) ∧ G = H3) I3 ⟨1, rfl, -1, rfl, rfl, rfl⟩)
  rintro vs s4 ⟨o, H4, I4, ps, rfl, rfl⟩
  have J : Inv X pins σ H4 { s4 with heap := s4.heap.push { cls := .type "slice", data := .fields #[vl, vu, vs] } } := I4.kept (t' := s4.toks) fun b ob q => Heap.get?_push_of_some _ q
  rcases hq with ⟨z, rfl, hz, hq⟩ | ⟨a, xs, rfl, hx, hq⟩
  · obtain ⟨t, rfl⟩ := rx
    obtain ⟨l, rfl, hl⟩ := IsPart.raw pl
    obtain ⟨u, rfl, hu⟩ := IsPart.raw pu
    obtain ⟨st, rfl, hst⟩ := IsPart.raw ps
    show wpAny (model X.prog X.w) X.A (PyProof.Rows.subscriptTail e (.Slice none none (some (.UnaryOp .USub (.Constant (.int 1) k p1) p2)) p3) (.str z t) (.ref s4.heap.objs.size)) (EP X pins σ Q) X.xe { s4 with heap := s4.heap.push { cls := .type "slice", data := .fields #[partValue l, partValue u, partValue st] } }
    apply PyProof.Rows.tail_any (T := "str") (ops := [.str z t, .ref s4.heap.objs.size]) (typeIs_str _ z t) F.slot_str_getitem.lookup _ (by with_unfolding_all rfl)
    apply wpAny_getItem_str_slice (l := l) (u := u) (st := st) ⟨_, Heap.get?_push_size _ rfl, rfl, rfl⟩ (by rw [hst]; rfl)
    have e0 : slicePicked z l u st = (List.range z.length).reverse := by
      unfold slicePicked
      rw [hl, hu, hst]
      exact rev_ix z.length
    have c0 : ((st.map (·.1)).getD 1 == 1 && (slicePicked z l u st).length == z.length) = false := by rw [hst]; rfl
    unfold sliceMade
    rw [if_neg (by rw [c0]; decide), e0]
    have e1 : (⟨((List.range z.length).reverse.filterMap (z.cps[·]?)).toArray⟩ : Str) = revS z := by
      unfold revS
      rw [List.filterMap_reverse, show z.length = z.cps.size from rfl, PySem.W.krv_all, ← Array.toList_reverse]
    rw [e1]
    exact ⟨by rw [revS_size]; exact hz, .str _, H4, J.tok _, ⟨_, rfl⟩, hq⟩
  · cases rx
    obtain ⟨its, r, ht, hz⟩ := J.list hx
    have hn := r.length
    show wpAny (model X.prog X.w) X.A (PyProof.Rows.subscriptTail e (.Slice none none (some (.UnaryOp .USub (.Constant (.int 1) k p1) p2)) p3) (.ref a) (.ref s4.heap.objs.size)) (EP X pins σ Q) X.xe { s4 with heap := s4.heap.push { cls := .type "slice", data := .fields #[vl, vu, vs] } }
    apply PyProof.Rows.tail_any (ops := [.ref a, .ref s4.heap.objs.size]) ht.isList.typeIs PySem.slot_list_getitem.lookup _ (by with_unfolding_all rfl)
    apply wpAny_getItem_list_slice ht.isList (Heap.IsSliceOf.new _ vl vu vs) pl pu ps (by decide) _ (by rw [List.size_toArray]; omega)
    rw [PySem.W.krv_pick]
    exact ⟨.ref _, _, J.laid (t' := s4.toks) (o := .lst xs.reverse) (fun b ob q => Heap.get?_push_of_some _ q) (Nat.le_refl _) ⟨by rw [List.length_reverse]; exact hz, _, 0, r.reverse, Heap.get?_push_size _ rfl⟩, rfl, hq _ (J.hok.fresh (Nat.le_refl _))⟩
theorem reps_rev {K : PySem.W.Frag} {L : List Addr} {H : Hp} : ∀ {ds : List D} {vs : List V}, Reps K cm L H ds vs → Reps K cm L H ds.reverse vs.reverse
  | _, _, .nil => .nil
  | _, _, .cons r t => by
    rw [List.reverse_cons, List.reverse_cons]
    exact (reps_rev t).append (.cons r .nil)
theorem e_rev (he : PE X e (rdE X.K cm W fa)) : PE X (.Subscript e (.Slice none none (some (.UnaryOp .USub (.Constant (.int 1) k p1) p2)) p3) pos) (rdE X.K cm W (dRev fa)) := weakE (pe_revA he) fun σ H Q q => by
  obtain ⟨L, S, a, q⟩ := q
  refine ⟨L, S, a, (Aft.step (R := Rep X.K cm) q).mono fun v H1 z => ?_⟩
  obtain ⟨L1, S1, d, e1, x1, r1, q1⟩ := z
  unfold oRev at q1
  split at q1
  · split at q1
    · rename_i h
      cases r1
      exact .inl ⟨_, rfl, mx_line h, q1.give x1 (.str _)⟩
    · exact q1.elim
  · cases r1 with
    | ro hs rr => exact .inr ⟨_, _, rfl, hs.sq, fun p hp => give_new x1 (reps_rev rr) q1 hp⟩
  · split at q1
    · rename_i hx
      obtain ⟨p1, vs1, rfl, g1, e1, rr⟩ := x1.lst r1 hx
      exact .inr ⟨_, _, rfl, SqL.of e1, fun p hp => give_new x1 (reps_rev rr) q1 hp⟩
    · exact q1.elim
  · exact q1.elim

/-! ### 21. {} and x * n -/
def dNew0 : DE := newO (.dct [])
theorem e_dict0 : PE X (.Dict [] [] pos) (rdE X.K cm W dNew0) := weakE pe_dnewK fun σ H Q q => by
  obtain ⟨L, S, a, q⟩ := q
  exact fun p hp => q.giveE (Ext.new hp) (a.new hp ⟨[], upd_same, .nil⟩) (.ref a.hp.newIx)
def repS (z : Str) (n : Int) : Str := if n < 1 then Str.empty else if (n == 1 || z.length == 0) = true then z else ⟨(List.replicate n.toNat z.cps).foldl (· ++ ·) #[]⟩
def oMulA : D → D → DS → Res D := fun x y S => match x, y with
  | .int i, .int j => if (-(2 ^ 64) < i ∧ i < 2 ^ 64) ∨ (-(2 ^ 64) < j ∧ j < 2 ^ 64) then .ok (.int (i * j)) S else .stuck
  | .str z, .int j => if -1000000 ≤ j ∧ j ≤ 1000000 ∧ z.length * j.toNat ≤ mxL ∧ (repS z j).length ≤ mxL then .ok (.str (repS z j)) S else .stuck
  | .ref n, .int j => match S.h[n]? with
    | some (.lst xs) => if -1000000 ≤ j ∧ j ≤ 1000000 ∧ xs.length * j.toNat ≤ mxL then newO (.lst (List.replicate j.toNat xs).flatten) S else .stuck
    | _ => .stuck
  | _, _ => .stuck
def rStrRep : R2 := fun x y H Q => ∃ z j, x = .str z ∧ y = .int j ∧ -1000000 ≤ j ∧ j ≤ 1000000 ∧ z.length * j.toNat ≤ mxL ∧ (repS z j).length ≤ mxL ∧ Q (.str (repS z j)) H
theorem op_strRep : OpR X (binaryOp .Mult) rStrRep := by
  intro pins s σ H x y v u Q I rx ry h
  obtain ⟨z, j, rfl, rfl, h1, h2, h3, h4, q⟩ := h
  obtain ⟨t, rfl⟩ := rx
  obtain ⟨t2, rfl⟩ := ry
  apply PySem.P.mul_str
  · rw [decide_eq_false (by omega), decide_eq_false (by omega)]; rfl
  · intro a1 a2 a3
    have hj : (z.length : Int) * j ≤ 2 ^ 63 - 1 := by
      have e : (z.length : Int) * j = ((z.length * j.toNat : Nat) : Int) := by rw [Int.natCast_mul, Int.toNat_of_nonneg (by omega)]
      rw [e]
      unfold mxL at h3
      omega
    have := (Int.le_ediv_iff_mul_le (by omega : 0 < j)).mpr hj
    omega
  · intro _ _
    exact decide_eq_false (by have := mx_line h3; omega)
  · unfold repS at q h4
    split
    · rename_i c
      rw [if_pos c] at q
      exact ⟨by decide, .str _, H, I.tok _, ⟨_, rfl⟩, q⟩
    · rename_i c
      rw [if_neg c] at q h4
      split
      · rename_i c2
        rw [if_pos c2] at q
        exact ⟨.str _, H, I, ⟨_, rfl⟩, q⟩
      · rename_i c2
        rw [if_neg c2] at q h4
        exact ⟨mx_line h4, .str _, H, I.tok _, ⟨_, rfl⟩, q⟩
theorem reps_repl {K : PySem.W.Frag} {L : List Addr} {H : Hp} {ds : List D} {vs : List V} (r : Reps K cm L H ds vs) : ∀ n : Nat, Reps K cm L H (List.replicate n ds).flatten (List.replicate n vs).flatten
  | 0 => .nil
  | n + 1 => by
    rw [List.replicate_succ, List.replicate_succ, List.flatten_cons, List.flatten_cons]
    exact r.append (reps_repl r n)
theorem ro_mulA : ROp X cm W (fun x y H Q => (rI CMul (fun i j => .int (i * j)) x y H Q ∨ rStrRep x y H Q) ∨ rRep x y H Q) oMulA := by
  intro L H S σ x y d e Q a r1 r2 q
  unfold oMulA at q
  split at q
  · split at q
    · rename_i h
      cases r1; cases r2
      exact .inl (.inl ⟨_, _, rfl, rfl, h, q.give a (.int _)⟩)
    · exact q.elim
  · split at q
    · rename_i h
      cases r1; cases r2
      exact .inl (.inr ⟨_, _, rfl, rfl, h.1, h.2.1, h.2.2.1, h.2.2.2, q.give a (.str _)⟩)
    · exact q.elim
  · split at q
    · rename_i hx
      split at q
      · rename_i h
        obtain ⟨p1, vs1, rfl, g1, e1, rr⟩ := a.lst r1 hx
        cases r2
        refine .inr ⟨_, _, _, rfl, rfl, e1, by omega, by omega, mx_line (by rw [← rr.length]; exact h.2.2), fun p hp => give_new a ?_ q hp⟩
        exact reps_repl rr _
      · exact q.elim
    · exact q.elim
  · exact q.elim
end
end Den

namespace Den
open PySem L2 PySem.Spec PyProof.Rows

/-! ### 22. the law's call, the walk -/
theorem guards_caller : callerA.guards = some [] := rfl
theorem bare_start {K : PySem.W.Frag} {cm : Str → Value} {H : Hp} : AbS K cm [] H ⟨[], []⟩ [] :=
  ⟨⟨List.nodup_nil, rfl, fun n ob a h _ => by simp at h⟩, rfl, fun i d h => by simp at h⟩
section
variable {P : Program} {w : World} {K : PySem.W.Frag} {mg mb : Str → Option Value} {k : Nat} {fa a : Addr} {fd : FuncData} {x : Str} {s1 : Shared} {vs : List Value} {ns : List Int} {cm : Str → Value}
/-- what a def gives in the caller's place, over a heap in which nothing but the script may be tracked -/
theorem call_from {F0 : Fn} {S' : DS} {H : Hp} (KX : K.In s1.heap) (nm : s1.heap.Ns mainGlobals mg) (nb : s1.heap.Ns builtinsNs mb) (hb : ∀ y : Str, y ≠ "__name__" → mb y = bootBuiltins y) (lim : s1.heap.NoLimit) (g0 : s1.gens = #[]) (hr : Room k callerA)
    (F : ∀ base : Heap, K.In base → FnG P w K mg base k fa fd [x] (spD K cm 1 F0)) (bd : ∀ (s : Shared) (u : Value), BindsTo s fd ⟨[u], []⟩ [(x, u)]) (hF : F0 [.ro (ns.map D.int)] [] = .ok (.bl true) S')
    (hS : SqR K H a (ns.map V.int)) (hok : HOk P w H s1.heap) (only : ∀ b, H b = none ∨ (b = a ∧ K.lookup b = none ∧ ∃ o xs, H b = some (.frz o (.lst xs)) ∧ ∃ c n sl, o = (⟨.type "list", none, .seq c n, sl⟩ : Obj))) :
    codeAny (model P w) callerA (.call (.ref fa) ⟨[.ref a], []⟩) (fun r s' => r = .ok (.ret (.bool true)) ∧ OldK s1.heap s'.heap ∧ s'.os = s1.os ∧ AllBare s'.gens) s1 := by
  -- the base: what isn't tracked
  have seen : ∀ {b : Addr} {o : Obj}, s1.heap.get? b = some o → H b = none → (hidT s1.heap H).get? b = some o := fun e n => hidT_get e n
  have free : ∀ {b : Addr} {o : Obj} {es : Array DictEntry} {ep : Nat}, s1.heap.get? b = some o → o.data = .dict es ep → H b = none := by
    intro b o es ep e d
    rcases only b with n | ⟨_, _, o2, xs, h2, c, m, sl, rfl⟩
    · exact n
    · obtain ⟨e2, _⟩ := hok b _ h2
      rw [e] at e2
      cases e2
      cases d
  have ns' : ∀ {b : Addr} {m : Str → Option Value}, s1.heap.Ns b m → (hidT s1.heap H).Ns b m := by
    rintro b m ⟨o, es, ep, e, d, r⟩
    exact ⟨o, es, ep, seen e (free e d), d, r⟩
  have inB : K.In (hidT s1.heap H) := by
    intro b o e
    rcases only b with n | ⟨_, hk, _⟩
    · exact seen (KX b o e) n
    · rw [hk] at e; cases e
  have M : Mod K mg (hidT s1.heap H) := ⟨inB, ns' nm, ⟨mb, ns' nb, hb⟩, by obtain ⟨mc, q1, q2⟩ := lim; exact ⟨mc, ns' q1, q2⟩⟩
  have E0 : Env0 P w K mg (hidT s1.heap H) callerA [] s1 H := ⟨rfl, M, fun b o e => of_hidT e, Nat.le_of_eq (hidT_size _ _), trivial, fun b hb => absurd (show b ∈ ([] : List Addr) from hb) (by simp), hok, .of_eq g0⟩
  have promise : spD K cm 1 F0 [.ref a] H (fun v _ => v = .bl true) fun _ _ _ => False := by
    refine ⟨[], [.ro (ns.map D.int)], [], bare_start, .cons (.ro hS (ints_reps ns)) .nil, rfl, ?_⟩
    rw [hF]
    intro L' H' v _ _ r
    cases r
    rfl
  apply codeAny_mono ((F _ inB).run callerA [] s1 H ⟨[.ref a], []⟩ [.ref a] [.ref a] _ _ hr guards_caller E0 (bd s1 (.ref a)) (.cons rfl .nil) promise)
  intro r s' h
  cases r with
  | error e =>
    obtain ⟨_, _, _, _, _, _, _, _, _, _, _, _, z⟩ := h
    exact z.elim
  | ok fl =>
    cases fl with
    | next => exact h.elim
    | brk => exact h.elim
    | cont => exact h.elim
    | ret u =>
      obtain ⟨v, H', os, bare, un, hok', rv, rfl⟩ := h
      obtain rfl : u = Value.bool true := rv
      refine ⟨rfl, OldK.of_keep ?_, os, bare⟩
      intro b o e
      rcases only b with n | ⟨_, _, o2, xs, h2, _⟩
      · exact un.keep b o e n (fun z => absurd (show b ∈ ([] : List Addr) from z) (by simp)) (by simp)
      · obtain ⟨e1, _⟩ := hok b _ h2
        obtain ⟨e2, _⟩ := hok' b _ (un.frzs b _ _ h2)
        rw [e] at e1
        cases e1
        exact e2
theorem call_law {F0 : Fn} {S' : DS} (KX : K.In s1.heap) (nm : s1.heap.Ns mainGlobals mg) (nb : s1.heap.Ns builtinsNs mb) (hb : ∀ y : Str, y ≠ "__name__" → mb y = bootBuiltins y) (lim : s1.heap.NoLimit) (g0 : s1.gens = #[]) (hr : Room k callerA)
    (ha : s1.heap.get? a = some { cls := .type "list", data := .seq vs.toArray }) (hi : IntsAre vs ns) (hl : ns.length ≤ sizeLine)
    (F : ∀ base : Heap, K.In base → FnG P w K mg base k fa fd [x] (spD K cm 1 F0)) (bd : ∀ (s : Shared) (u : Value), BindsTo s fd ⟨[u], []⟩ [(x, u)]) (hF : F0 [.ro (ns.map D.int)] [] = .ok (.bl true) S') :
    codeAny (model P w) callerA (.call (.ref fa) ⟨[.ref a], []⟩) (fun r s' => r = .ok (.ret (.bool true)) ∧ OldK s1.heap s'.heap ∧ s'.os = s1.os ∧ AllBare s'.gens) s1 := by
  have rv := vals_ints hi
  have same : vs.length = ns.length := hi.length
  cases hk : K.lookup a with
  | some o =>
    have e := KX a o hk
    rw [ha] at e
    cases e
    apply call_from (H := fun _ => none) KX nm nb hb lim g0 hr F bd hF
    · exact .inr ⟨_, vs.toArray, _, hk, rfl, rfl, rfl, by rw [List.size_toArray, same]; exact hl, by simpa using rv⟩
    · intro b u z; cases z
    · exact fun b => .inl rfl
  | none =>
    have at_ : ∀ b, b = a → (fun b => if b = a then some (HO.frz { cls := .type "list", data := .seq vs.toArray } (.lst (ns.map V.int))) else none) b = some (HO.frz { cls := .type "list", data := .seq vs.toArray } (.lst (ns.map V.int))) := fun b h => if_pos h
    apply call_from (H := fun b => if b = a then some (.frz { cls := .type "list", data := .seq vs.toArray } (.lst (ns.map V.int))) else none) KX nm nb hb lim g0 hr F bd hF
    · exact .inl ⟨_, at_ a rfl⟩
    · intro b u z
      by_cases e : b = a
      · rw [at_ b e] at z
        cases z
        subst e
        exact ⟨ha, by rw [List.length_map]; exact hl, vs, _, rv, ha⟩
      · rw [show (fun b => if b = a then some (HO.frz { cls := .type "list", data := .seq vs.toArray } (.lst (ns.map V.int))) else none) b = none from if_neg e] at z
        cases z
    · intro b
      by_cases e : b = a
      · subst e
        exact .inr ⟨rfl, hk, _, _, at_ b rfl, _, _, _, rfl⟩
      · exact .inl (if_neg e)
end
theorem walk_den {l : PySem.W.OpenLaw} {n k : Nat} {q : Program} {loose : List Str} {XP : (Str → Option Value) → Heap → Prop} {YP : World → Heap → Prop} {d : DefRec} {K : Params → PySem.W.Frag} {x : Str} {F0 : Fn}
    (hn : l.most = some n) (hn2 : n ≤ sizeLine) (hd0 : d.params.defaults = []) (hr : Room k callerA) (hY : ∀ (w : World) (h : Heap), YP w h → (K w.params).In h)
    (F : ∀ (w : World) (mg : Str → Option Value) (fa : Addr) (h : Heap), (K w.params).In h → h.Ns mainGlobals mg → mg d.name = some (.ref fa) →
      ∃ (fd : FuncData) (cm : Str → Value), (∀ (s : Shared) (u : Value), BindsTo s fd ⟨[u], []⟩ [(x, u)]) ∧ ∀ base : Heap, (K w.params).In base → FnG l.prog w (K w.params) mg base k fa fd [x] (spD (K w.params) cm 1 F0))
    (hF : ∀ ns : List Int, ns.length ≤ n → ∃ S', F0 [.ro (ns.map D.int)] [] = .ok (.bl true) S') :
    PySem.W.WalkO q loose XP YP l.row.toRowW d [] (fun f vs => PySem.call f vs) := by
  apply Att.attach_call hn hd0
  intro w s0 s1 mg mb fa o pm cd doc a vs ns G Y ho hd hcd hmg hobj hints hlen hg
  obtain ⟨fd, cm, bd, hG⟩ := F w mg fa _ (hY w _ Y) G.T.g hmg
  obtain ⟨S', hS⟩ := hF ns hlen
  exact call_law (hY w _ Y) G.T.g G.T.b G.T.builtins G.T.nolimit hg hr hobj hints (Nat.le_trans hlen hn2) hG bd hS
end Den

namespace Den
open PySem L2

/-! ### 23. short forms -/
theorem kit_true {K : PySem.W.Frag} {C D : Addr} (cl : PySem.W.isClsIn K D = true) (ty : PySem.W.typeIn K (.ref D) = some (.type "type")) (h : PySem.W.subIn K (.ref C) (.ref D) = some true) : PySem.W.kitOne K (.ref C) (.ref D) = some true := by
  unfold PySem.W.kitOne
  split
  · rfl
  · show (if ((PySem.W.clsIn K D).isSome && PySem.W.typeIn K (.ref D) == some (.type "type")) = true then PySem.W.subIn K (.ref C) (.ref D) else none) = some true
    have c : (PySem.W.clsIn K D).isSome = true := cl
    rw [c, ty, if_pos (by rfl)]
    exact h
section
variable {X : Cx} {cm : Str → Value} {W : WX} {a b : Expr} {pos : Pos} {fa fb : DE}
theorem hu66 {A : Around} {k : Nat} (r : Room k A) : A.units + 66 < cLine := by have := r.un; omega
theorem hu1 {A : Around} {k : Nat} (r : Room k A) : A.units + 1 < cLine := by have := r.un; omega
theorem hu64 {A : Around} {k : Nat} (r : Room k A) : A.units + 64 < cLine := by have := r.un; omega
theorem b_add (ha : PE X a (rdE X.K cm W fa)) (hb : PE X b (rdE X.K cm W fb)) : PE X (.BinOp a .Add b pos) (rdE X.K cm W (dBin oAdd fa fb)) := e_op ((op_add.or op_add_str).or (op_catA.or op_cat)) ro_add ha hb
theorem b_sub (ha : PE X a (rdE X.K cm W fa)) (hb : PE X b (rdE X.K cm W fb)) : PE X (.BinOp a .Sub b pos) (rdE X.K cm W (dBin oSub fa fb)) := e_op op_sub ro_sub ha hb
theorem b_mul (ha : PE X a (rdE X.K cm W fa)) (hb : PE X b (rdE X.K cm W fb)) : PE X (.BinOp a .Mult b pos) (rdE X.K cm W (dBin oMulA fa fb)) := e_op ((op_mul.or op_strRep).or op_rep) ro_mulA ha hb
theorem b_mod (ha : PE X a (rdE X.K cm W fa)) (hb : PE X b (rdE X.K cm W fb)) : PE X (.BinOp a .Mod b pos) (rdE X.K cm W (dBin oMod fa fb)) := e_op op_mod ro_mod ha hb
theorem b_div (ha : PE X a (rdE X.K cm W fa)) (hb : PE X b (rdE X.K cm W fb)) : PE X (.BinOp a .FloorDiv b pos) (rdE X.K cm W (dBin oDiv fa fb)) := e_op op_fdiv ro_div ha hb
theorem b_pow (ha : PE X a (rdE X.K cm W fa)) (hb : PE X b (rdE X.K cm W fb)) : PE X (.BinOp a .Pow b pos) (rdE X.K cm W (dBin oPow fa fb)) := e_op op_pow ro_pow ha hb
theorem c_eq {k : Nat} (r : Room k X.A) (ha : PE X a (rdE X.K cm W fa)) (hb : PE X b (rdE X.K cm W fb)) : PE X (.Compare a [.Eq] [b] pos) (rdE X.K cm W (dBin oEq fa fb)) := e_cmp (op_eqD (hu64 r)) ro_eq (nomark _) ha hb
theorem c_ne {k : Nat} (r : Room k X.A) (ha : PE X a (rdE X.K cm W fa)) (hb : PE X b (rdE X.K cm W fb)) : PE X (.Compare a [.NotEq] [b] pos) (rdE X.K cm W (dBin oNe fa fb)) := e_cmp (op_neD (hu64 r)) ro_ne (nomark _) ha hb
theorem c_lt (ha : PE X a (rdE X.K cm W fa)) (hb : PE X b (rdE X.K cm W fb)) : PE X (.Compare a [.Lt] [b] pos) (rdE X.K cm W (dBin oLt fa fb)) := e_cmp op_lt ro_lt (nomark _) ha hb
theorem c_le (ha : PE X a (rdE X.K cm W fa)) (hb : PE X b (rdE X.K cm W fb)) : PE X (.Compare a [.LtE] [b] pos) (rdE X.K cm W (dBin oLe fa fb)) := e_cmp op_le ro_le (nomark _) ha hb
theorem c_gt (ha : PE X a (rdE X.K cm W fa)) (hb : PE X b (rdE X.K cm W fb)) : PE X (.Compare a [.Gt] [b] pos) (rdE X.K cm W (dBin oGt fa fb)) := e_cmp op_gt ro_gt (nomark _) ha hb
theorem c_ge (ha : PE X a (rdE X.K cm W fa)) (hb : PE X b (rdE X.K cm W fb)) : PE X (.Compare a [.GtE] [b] pos) (rdE X.K cm W (dBin oGe fa fb)) := e_cmp op_ge ro_ge (nomark _) ha hb
theorem c_is (ha : PE X a (rdE X.K cm W fa)) (hb : PE X b (rdE X.K cm W fb)) : PE X (.Compare a [.Is] [b] pos) (rdE X.K cm W (dBin oIsN fa fb)) := e_cmp op_isN ro_isN (nomark _) ha hb
theorem c_isn (ha : PE X a (rdE X.K cm W fa)) (hb : PE X b (rdE X.K cm W fb)) : PE X (.Compare a [.IsNot] [b] pos) (rdE X.K cm W (dBin oNotN fa fb)) := e_cmp op_notN ro_notN (nomark _) ha hb
theorem c_in {k : Nat} (r : Room k X.A) (ha : PE X a (rdE X.K cm W fa)) (hb : PE X b (rdE X.K cm W fb)) (hm : behindInMarks .In b = false := by rfl) : PE X (.Compare a [.In] [b] pos) (rdE X.K cm W (dBin oIn fa fb)) := e_cmp (op_inA (hu66 r)) ro_in hm ha hb
theorem c_nin {k : Nat} (r : Room k X.A) (ha : PE X a (rdE X.K cm W fa)) (hb : PE X b (rdE X.K cm W fb)) (hm : behindInMarks .NotIn b = false := by rfl) : PE X (.Compare a [.NotIn] [b] pos) (rdE X.K cm W (dBin oNotIn fa fb)) := e_cmp (op_notInA (hu66 r)) ro_notIn hm ha hb
theorem t_eq {k : Nat} (r : Room k X.A) (ha : PE X a (rdE X.K cm W fa)) (hb : PE X b (rdE X.K cm W fb)) : PT X (.Compare a [.Eq] [b] pos) (rdT X.K cm W (tV (dBin oEq fa fb))) := t_cmp (op_eqD (hu64 r)) ro_eq (nomark _) ha hb
theorem t_ne {k : Nat} (r : Room k X.A) (ha : PE X a (rdE X.K cm W fa)) (hb : PE X b (rdE X.K cm W fb)) : PT X (.Compare a [.NotEq] [b] pos) (rdT X.K cm W (tV (dBin oNe fa fb))) := t_cmp (op_neD (hu64 r)) ro_ne (nomark _) ha hb
theorem t_lt (ha : PE X a (rdE X.K cm W fa)) (hb : PE X b (rdE X.K cm W fb)) : PT X (.Compare a [.Lt] [b] pos) (rdT X.K cm W (tV (dBin oLt fa fb))) := t_cmp op_lt ro_lt (nomark _) ha hb
theorem t_le (ha : PE X a (rdE X.K cm W fa)) (hb : PE X b (rdE X.K cm W fb)) : PT X (.Compare a [.LtE] [b] pos) (rdT X.K cm W (tV (dBin oLe fa fb))) := t_cmp op_le ro_le (nomark _) ha hb
theorem t_gt (ha : PE X a (rdE X.K cm W fa)) (hb : PE X b (rdE X.K cm W fb)) : PT X (.Compare a [.Gt] [b] pos) (rdT X.K cm W (tV (dBin oGt fa fb))) := t_cmp op_gt ro_gt (nomark _) ha hb
theorem t_ge (ha : PE X a (rdE X.K cm W fa)) (hb : PE X b (rdE X.K cm W fb)) : PT X (.Compare a [.GtE] [b] pos) (rdT X.K cm W (tV (dBin oGe fa fb))) := t_cmp op_ge ro_ge (nomark _) ha hb
theorem t_is (ha : PE X a (rdE X.K cm W fa)) (hb : PE X b (rdE X.K cm W fb)) : PT X (.Compare a [.Is] [b] pos) (rdT X.K cm W (tV (dBin oIsN fa fb))) := t_cmp op_isN ro_isN (nomark _) ha hb
theorem t_isn (ha : PE X a (rdE X.K cm W fa)) (hb : PE X b (rdE X.K cm W fb)) : PT X (.Compare a [.IsNot] [b] pos) (rdT X.K cm W (tV (dBin oNotN fa fb))) := t_cmp op_notN ro_notN (nomark _) ha hb
theorem t_in {k : Nat} (r : Room k X.A) (ha : PE X a (rdE X.K cm W fa)) (hb : PE X b (rdE X.K cm W fb)) (hm : behindInMarks .In b = false := by rfl) : PT X (.Compare a [.In] [b] pos) (rdT X.K cm W (tV (dBin oIn fa fb))) := t_cmp (op_inA (hu66 r)) ro_in hm ha hb
theorem t_nin {k : Nat} (r : Room k X.A) (ha : PE X a (rdE X.K cm W fa)) (hb : PE X b (rdE X.K cm W fb)) (hm : behindInMarks .NotIn b = false := by rfl) : PT X (.Compare a [.NotIn] [b] pos) (rdT X.K cm W (tV (dBin oNotIn fa fb))) := t_cmp (op_notInA (hu66 r)) ro_notIn hm ha hb
theorem e_ixR {k : Nat} (r : Room k X.A) (ha : PE X a (rdE X.K cm W fa)) (hb : PE X b (rdE X.K cm W fb)) (hs : PlainIx b := by exact fun _ _ => rfl) : PE X (.Subscript a b pos) (rdE X.K cm W (dBin oIx fa fb)) := e_ix (hu1 r) ha hb hs
/-- a tuple of the module -/
theorem ro_line {K : PySem.W.Frag} {p : Addr} {c : Nat} {its : List Value} {sl : Array (Option Value)} {ds : List D} {vs : List V} (h : K.lookup p = some ⟨.type "tuple", none, .seq its.toArray c, sl⟩) (rv : Vals vs its) (hz : its.length ≤ sizeLine) (r : ∀ L H, Reps K cm L H ds vs) (L : List Addr) (H : Hp) : Rep K cm L H (.tup ds) (.ref p) :=
  .tup (.inr ⟨_, its.toArray, c, h, rfl, rfl, by rw [List.size_toArray]; exact hz, by simpa using rv⟩) (r L H)

/-- a, b = x, y -/
def sPar (i j : Nat) (a : DA) : DSt := fun S => (a S).bind fun ds S1 => match ds with
  | [d, e] => .ok .next { S1 with loc := (S1.loc.set i (some d)).set j (some e) }
  | _ => .stuck
def sPar3 (i j l : Nat) (a : DA) : DSt := fun S => (a S).bind fun ds S1 => match ds with
  | [d, e, f] => .ok .next { S1 with loc := ((S1.loc.set i (some d)).set j (some e)).set l (some f) }
  | _ => .stuck
variable {c : Expr} {ga : DA} {x y z : Str} {px py pz pt : Pos}
theorem s_par {i j : Nat} {kt k2 pt2} (hc : X.calm = true) (hN : X.N.Nodup) (hi : X.N[i]? = some x) (hj : X.N[j]? = some y) (hij : i ≠ j) (hx : X.env.scope.names.lookup x = some .local) (hy : X.env.scope.names.lookup y = some .local) (ha : PA X [a, b] (rdA X.K cm W ga))
    (hw : swappedStores [.Tuple [.Name x px, .Name y py] kt pt] (.Tuple [a, b] k2 pt2) X.env = pure (some [x, y]) := by rfl) (hs : swapsWithSole [.Tuple [.Name x px, .Name y py] kt pt] (.Tuple [a, b] k2 pt2) pos.line X.env = pure false := by rfl) :
    PS X (.Assign [.Tuple [.Name x px, .Name y py] kt pt] (.Tuple [a, b] k2 pt2) pos) (rdS X.K cm W (sPar i j ga)) := weakS (ps_par hc hN hi hj hij hx hy ha hw hs) fun E σ H q => by
  obtain ⟨L, S, ab, q⟩ := q
  refine ⟨L, S, ab, (AftS.step (R := Reps X.K cm) q).mono fun vs H1 z => ?_⟩
  obtain ⟨L1, S1, ds, e1, x1, r1, q1⟩ := z
  split at q1
  · cases r1 with
    | cons r1 r2 =>
      cases r2 with
      | cons r2 r3 =>
        cases r3
        exact ⟨_, _, rfl, q1 L1 H1 _ Ext.refl ((x1.set r1 i).set r2 j)⟩
  · exact q1.elim
theorem s_par3 {i j l : Nat} {kt k2 pt2} (hc : X.calm = true) (hN : X.N.Nodup) (hi : X.N[i]? = some x) (hj : X.N[j]? = some y) (hl : X.N[l]? = some z) (hij : i ≠ j) (hil : i ≠ l) (hjl : j ≠ l) (hx : X.env.scope.names.lookup x = some .local) (hy : X.env.scope.names.lookup y = some .local) (hz : X.env.scope.names.lookup z = some .local)
    (ha : PA X [a, b, c] (rdA X.K cm W ga)) (hw : swappedStores [.Tuple [.Name x px, .Name y py, .Name z pz] kt pt] (.Tuple [a, b, c] k2 pt2) X.env = pure (some [x, y, z]) := by rfl) (hs : swapsWithSole [.Tuple [.Name x px, .Name y py, .Name z pz] kt pt] (.Tuple [a, b, c] k2 pt2) pos.line X.env = pure false := by rfl) :
    PS X (.Assign [.Tuple [.Name x px, .Name y py, .Name z pz] kt pt] (.Tuple [a, b, c] k2 pt2) pos) (rdS X.K cm W (sPar3 i j l ga)) := weakS (ps_par3 hc hN hi hj hl hij hil hjl hx hy hz ha hw hs) fun E σ H q => by
  obtain ⟨L, S, ab, q⟩ := q
  refine ⟨L, S, ab, (AftS.step (R := Reps X.K cm) q).mono fun vs H1 z => ?_⟩
  obtain ⟨L1, S1, ds, e1, x1, r1, q1⟩ := z
  split at q1
  · cases r1 with
    | cons r1 r2 =>
      cases r2 with
      | cons r2 r3 =>
        cases r3 with
        | cons r3 r4 =>
          cases r4
          exact ⟨_, _, _, rfl, q1 L1 H1 _ Ext.refl (((x1.set r1 i).set r2 j).set r3 l)⟩
  · exact q1.elim
end
end Den

namespace Den
open PySem L2

/-! ### 30. truth, chains, all, any, sum, str, int of a text, extend, a tuple times a number -/
def toTru : D → DS → Res Bool := fun d S => match d with
  | .non => .ok false S
  | .bl b => .ok b S
  | .int i => .ok (i != 0) S
  | .str y => if y.length ≤ mxL then .ok ((y.length : Int) != 0) S else .stuck
  | .tup xs => .ok (!xs.isEmpty) S
  | .ro xs => .ok (!xs.isEmpty) S
  | .ref n => match S.h[n]? with
    | some (.lst xs) => .ok (!xs.isEmpty) S
    | some (.dct kvs) => .ok (!kvs.isEmpty) S
    | _ => .stuck
  | _ => .stuck
def tTr (a : DE) : DT := fun S => (a S).bind toTru
def dChain (f g : D → D → DS → Res D) (a b c : DE) : DE := fun S => (a S).bind fun x S1 => (b S1).bind fun y S2 => (f x y S2).bind fun k S3 => (toB k S3).bind fun k S4 => if k then (c S4).bind fun z S5 => g y z S5 else .ok (.bl false) S4
def blsOf : List D → Option (List Bool)
  | [] => some []
  | .bl b :: r => (blsOf r).map fun bs => b :: bs
  | _ => none
def intsOf : List D → Option (List Int)
  | [] => some []
  | .int b :: r => (intsOf r).map fun bs => b :: bs
  | _ => none
def cAll : List D → DS → Res D := fun ds S => match ds with
  | [.ref n] => match S.h[n]? with
    | some (.lst xs) => match blsOf xs with
      | some bs => .ok (.bl (bs.all id)) S
      | none => .stuck
    | _ => .stuck
  | _ => .stuck
def cAny : List D → DS → Res D := fun ds S => match ds with
  | [.ref n] => match S.h[n]? with
    | some (.lst xs) => match blsOf xs with
      | some bs => .ok (.bl (bs.any id)) S
      | none => .stuck
    | _ => .stuck
  | _ => .stuck
def cSum : List D → DS → Res D := fun ds S => match ds with
  | [.ref n] => match S.h[n]? with
    | some (.lst xs) => match intsOf xs with
      | some bs => .ok (.int bs.sum) S
      | none => .stuck
    | _ => .stuck
  | _ => .stuck
def cStr : List D → DS → Res D := fun ds S => match ds with
  | [.int i] => if i.natAbs.log2 < 1920 then .ok (.str (toString i)) S else .stuck
  | [.str x] => .ok (.str x) S
  | _ => .stuck
def cIntA : List D → DS → Res D := fun ds S => match ds with
  | [.int i] => .ok (.int i) S
  | [.bl b] => .ok (.int (if b then 1 else 0)) S
  | [.str a] => if a.length ≤ 640 then match PySem.intText? a with
    | some n => .ok (.int n) S
    | none => .stuck else .stuck
  | _ => .stuck
def mExtend : D → List D → DS → Res D := fun x ds S => match x, ds with
  | .ref n, [.ref m] => match S.h[n]?, S.h[m]? with
    | some (.lst xs), some (.lst zs) => if xs.length + zs.length ≤ mxL then .ok .non { S with h := S.h.set n (.lst (xs ++ zs)) } else .stuck
    | _, _ => .stuck
  | _, _ => .stuck
def oMulB : D → D → DS → Res D := fun x y S => match x, y with
  | .tup xs, .int j => if xs ≠ [] ∧ 2 ≤ j ∧ j ≤ 1000 ∧ xs.length ≤ 1000 then .ok (.tup (List.replicate j.toNat xs).flatten) S else .stuck
  | x, y => oMulA x y S
def dNeg (a : DE) : DE := fun S => (a S).bind fun d S1 => match d with
  | .int i => .ok (.int (-i)) S1
  | _ => .stuck
section
variable {X : Cx} {cm : Str → Value} {W : WX} {e e1 e2 a b c o : Expr} {es : List Expr} {x : Str} {p pos apos cpos : Pos} {fa fb fc : DE} {ga : DA} {K : PySem.W.Frag} {L : List Addr} {H : Hp} {S : DS} {σ : L2.St}
theorem t_tr (he : PE X e (rdE X.K cm W fa)) (hp : ∀ whole, isTrue e X.env whole = (do let v ← whole; standAt e.pos; holding [v] (truthy v)) := by intro _; rfl) : PT X e (rdT X.K cm W (tTr fa)) := weakT (pt_truth he hp) fun σ H Q q => by
  obtain ⟨L, S, a, q⟩ := q
  refine ⟨L, S, a, (Aft.step (R := Rep X.K cm) q).mono fun v H1 z => ?_⟩
  obtain ⟨L1, S1, d, e1, x1, r1, q1⟩ := z
  unfold toTru at q1
  split at q1
  · cases r1; exact ⟨_, rfl, q1.give x1 rfl⟩
  · cases r1; exact ⟨_, rfl, q1.give x1 rfl⟩
  · cases r1; exact ⟨_, rfl, q1.give x1 rfl⟩
  · split at q1
    · rename_i h
      cases r1; exact ⟨_, ⟨mx_line h, rfl⟩, q1.give x1 rfl⟩
    · exact q1.elim
  · cases r1 with
    | tup hs rr =>
      refine ⟨_, .inr (.inl ⟨_, hs, ?_⟩), q1.give x1 rfl⟩
      cases rr <;> rfl
  · cases r1 with
    | ro hs rr =>
      refine ⟨_, .inl ⟨_, hs.sq, ?_⟩, q1.give x1 rfl⟩
      cases rr <;> rfl
  · split at q1
    · rename_i hx
      obtain ⟨p1, vs1, rfl, g1, h1, rr⟩ := x1.lst r1 hx
      refine ⟨_, .inl ⟨_, SqL.of h1, ?_⟩, q1.give x1 rfl⟩
      cases rr <;> rfl
    · rename_i hx
      obtain ⟨p1, vs1, rfl, g1, h1, rr⟩ := x1.dct r1 hx
      refine ⟨_, .inr (.inr ⟨_, h1, ?_⟩), q1.give x1 rfl⟩
      cases rr <;> rfl
    · exact q1.elim
  · exact q1.elim
theorem rd_chain {r r' : R2} {f g : D → D → DS → Res D} (h : ROp X cm W r f) (h' : ROp X cm W r' g) {σ : L2.St} {H : Hp} {Q : VK} (q : rdE X.K cm W (dChain f g fa fb fc) σ H Q) : tChain r r' (rdE X.K cm W fa) (rdE X.K cm W fb) (rdE X.K cm W fc) σ H Q := by
  obtain ⟨L, S, a, q⟩ := q
  refine ⟨L, S, a, (Aft.step (R := Rep X.K cm) q).mono fun v H1 z => ?_⟩
  obtain ⟨L1, S1, d, e1, x1, r1, q1⟩ := z
  refine ⟨L1, S1, x1, (Aft.step (R := Rep X.K cm) q1).mono fun u H2 z => ?_⟩
  obtain ⟨L2, S2, d2, e2, x2, r2, q2⟩ := z
  refine h x2 (r1.mono e2) r2 ((Aft.step (R := Rep X.K cm) q2).mono fun k H3 z => ?_)
  obtain ⟨L3, S3, d3, e3, x3, r3, q3⟩ := z
  unfold toB at q3
  split at q3
  · rename_i kb
    cases r3
    refine ⟨_, rfl, ?_⟩
    rw [Res.bind_ok] at q3
    cases kb with
    | true =>
      rw [if_pos rfl] at q3 ⊢
      refine ⟨L3, S3, x3, (Aft.step (R := Rep X.K cm) q3).mono fun w H4 z => ?_⟩
      obtain ⟨L4, S4, d4, e4, x4, r4, q4⟩ := z
      exact h' x4 (r2.mono (e3.trans e4)) r4 q4
    | false =>
      rw [if_neg (by decide)] at q3 ⊢
      exact q3.give x3 (.bl false)
  · exact q3.elim
theorem e_chain {op op' : CmpOp} {r r' : R2} {f g : D → D → DS → Res D} (ho : OpR X (compareOp op) r) (ho' : OpR X (compareOp op') r') (h : ROp X cm W r f) (h' : ROp X cm W r' g) (ha : PE X a (rdE X.K cm W fa)) (hb : PE X b (rdE X.K cm W fb)) (hc : PE X c (rdE X.K cm W fc))
    (hm : lastMarks [op, op'] [b, c] = false := by with_unfolding_all rfl) : PE X (.Compare a [op, op'] [b, c] pos) (rdE X.K cm W (dChain f g fa fb fc)) := weakE (pe_chain ho ho' ha hb hc hm) fun _ _ _ => rd_chain h h'
theorem t_chain {op op' : CmpOp} {r r' : R2} {f g : D → D → DS → Res D} (ho : OpR X (compareOp op) r) (ho' : OpR X (compareOp op') r') (h : ROp X cm W r f) (h' : ROp X cm W r' g) (ha : PE X a (rdE X.K cm W fa)) (hb : PE X b (rdE X.K cm W fb)) (hc : PE X c (rdE X.K cm W fc))
    (hm : lastMarks [op, op'] [b, c] = false := by with_unfolding_all rfl) : PT X (.Compare a [op, op'] [b, c] pos) (rdT X.K cm W (tV (dChain f g fa fb fc))) := weakT (pt_chain ho ho' ha hb hc hm) fun _ _ _ => rd_test fun _ _ _ => rd_chain h h'
theorem bls_reps : ∀ {ds : List D} {vs : List V} {bs : List Bool}, Reps K cm L H ds vs → blsOf ds = some bs → vs = bs.map V.bl
  | _, _, _, .nil, h => by cases h; rfl
  | d :: _, _, _, .cons r t, h => by
    cases d <;> simp only [blsOf, Option.map_eq_some_iff] at h <;> first | cases h; done | skip
    obtain ⟨bs', h1, rfl⟩ := h
    cases r
    rw [List.map_cons, bls_reps t h1]
theorem ints_repsOf : ∀ {ds : List D} {vs : List V} {bs : List Int}, Reps K cm L H ds vs → intsOf ds = some bs → vs = bs.map V.int
  | _, _, _, .nil, h => by cases h; rfl
  | d :: _, _, _, .cons r t, h => by
    cases d <;> simp only [intsOf, Option.map_eq_some_iff] at h <;> first | cases h; done | skip
    obtain ⟨bs', h1, rfl⟩ := h
    cases r
    rw [List.map_cons, ints_repsOf t h1]
theorem co_all : COp X cm W (rAll X.K) cAll := by
  intro L H S σ xs ds Q a r q
  unfold cAll at q
  split at q
  · split at q
    · rename_i hx
      split at q
      · rename_i bs hb
        cases r with
        | cons r1 r2 =>
          cases r2
          obtain ⟨p1, vs1, rfl, g1, h1, rr⟩ := a.lst r1 hx
          exact ⟨p1, bs, rfl, by rw [← bls_reps rr hb]; exact SqL.of h1, q.give a (.bl _)⟩
      · exact q.elim
    · exact q.elim
  · exact q.elim
theorem co_any : COp X cm W (rAny X.K) cAny := by
  intro L H S σ xs ds Q a r q
  unfold cAny at q
  split at q
  · split at q
    · rename_i hx
      split at q
      · rename_i bs hb
        cases r with
        | cons r1 r2 =>
          cases r2
          obtain ⟨p1, vs1, rfl, g1, h1, rr⟩ := a.lst r1 hx
          exact ⟨p1, bs, rfl, by rw [← bls_reps rr hb]; exact SqL.of h1, q.give a (.bl _)⟩
      · exact q.elim
    · exact q.elim
  · exact q.elim
theorem co_sum : COp X cm W (rSum X.K) cSum := by
  intro L H S σ xs ds Q a r q
  unfold cSum at q
  split at q
  · split at q
    · rename_i hx
      split at q
      · rename_i bs hb
        cases r with
        | cons r1 r2 =>
          cases r2
          obtain ⟨p1, vs1, rfl, g1, h1, rr⟩ := a.lst r1 hx
          exact ⟨p1, bs, rfl, by rw [← ints_repsOf rr hb]; exact SqL.of h1, q.give a (.int _)⟩
      · exact q.elim
    · exact q.elim
  · exact q.elim
theorem co_str : COp X cm W (fun xs H Q => (∃ i, xs = [.int i] ∧ i.natAbs.log2 < 1920 ∧ Q (.str (toString i)) H) ∨ ∃ a, xs = [.str a] ∧ Q (.str a) H) cStr := by
  intro L H S σ xs ds Q a r q
  unfold cStr at q
  split at q
  · split at q
    · rename_i h
      cases r with
      | cons r1 r2 => cases r2; cases r1; exact .inl ⟨_, rfl, h, q.give a (.str _)⟩
    · exact q.elim
  · cases r with
    | cons r1 r2 => cases r2; cases r1; exact .inr ⟨_, rfl, q.give a (.str _)⟩
  · exact q.elim
theorem call_strA : CallR X (.type "str") (fun xs H Q => (∃ i, xs = [.int i] ∧ i.natAbs.log2 < 1920 ∧ Q (.str (toString i)) H) ∨ ∃ a, xs = [.str a] ∧ Q (.str a) H) := callR_or call_str_int SkE.call_str_str
theorem co_intA : COp X cm W (fun xs H Q => ((∃ i, xs = [.int i] ∧ Q (.int i) H) ∨ ∃ k, xs = [.bl k] ∧ Q (.int (if k then 1 else 0)) H) ∨ ∃ a n, xs = [.str a] ∧ PySem.intText? a = some n ∧ a.length ≤ 640 ∧ Q (.int n) H) cIntA := by
  intro L H S σ xs ds Q a r q
  unfold cIntA at q
  split at q
  · cases r with
    | cons r1 r2 => cases r2; cases r1; exact .inl (.inl ⟨_, rfl, q.give a (.int _)⟩)
  · cases r with
    | cons r1 r2 => cases r2; cases r1; exact .inl (.inr ⟨_, rfl, q.give a (.int _)⟩)
  · split at q
    · rename_i hl
      split at q
      · rename_i n hn
        cases r with
        | cons r1 r2 => cases r2; cases r1; exact .inr ⟨_, _, rfl, hn, hl, q.give a (.int _)⟩
      · exact q.elim
    · exact q.elim
  · exact q.elim
theorem call_intA : CallR X (.type "int") (fun xs H Q => ((∃ i, xs = [.int i] ∧ Q (.int i) H) ∨ ∃ k, xs = [.bl k] ∧ Q (.int (if k then 1 else 0)) H) ∨ ∃ a n, xs = [.str a] ∧ PySem.intText? a = some n ∧ a.length ≤ 640 ∧ Q (.int n) H) := callR_or call_int1 call_int_str
theorem mo_extend : MOp X cm W rExtend mExtend := by
  intro L H S σ x xs d ds Q a r1 r2 q
  unfold mExtend at q
  split at q
  · split at q
    · rename_i hx hz
      obtain ⟨p1, vs1, rfl, g1, h1, rr⟩ := a.lst r1 hx
      split at q
      · rename_i hl
        cases r2 with
        | cons r2 r3 =>
          cases r3
          obtain ⟨p2, vs2, rfl, g2, h2, rr2⟩ := a.lst r2 hz
          have ep := Ext.put (o := .lst (vs1 ++ vs2)) a.hp g1 (.inl ⟨_, h1⟩)
          exact ⟨_, _, _, _, rfl, rfl, h1, h2, by rw [← rr.length, ← rr2.length]; exact mx_line hl, q.giveE ep (a.put g1 (.inl ⟨_, h1⟩) ⟨_, upd_same, (rr.append rr2).mono ep⟩) .non⟩
      · exact q.elim
    · exact q.elim
  · exact q.elim
theorem ro_mulB : ROp X cm W (fun x y H Q => ((rI CMul (fun i j => .int (i * j)) x y H Q ∨ rStrRep x y H Q) ∨ rRep x y H Q) ∨ rRepT X.K x y H Q) oMulB := by
  intro L H S σ x y d e Q a r1 r2 q
  unfold oMulB at q
  split at q
  · split at q
    · rename_i h
      obtain ⟨h0, h1, h2, h3⟩ := h
      cases r2
      cases r1 with
      | tup hs rr =>
        refine .inr ⟨_, _, _, rfl, rfl, hs, fun z => ?_, h1, h2, by rw [← rr.length]; exact h3, fun p hp => q.giveE (Ext.beside hp) (a.beside hp) (.tup (.inl (.inl upd_same)) ((reps_repl rr _).mono (Ext.beside hp)))⟩
        subst z
        cases rr
        exact h0 rfl
    · exact q.elim
  · exact .inl (ro_mulA a r1 r2 q)
theorem b_mulB (ha : PE X a (rdE X.K cm W fa)) (hb : PE X b (rdE X.K cm W fb)) : PE X (.BinOp a .Mult b pos) (rdE X.K cm W (dBin oMulB fa fb)) := e_op (((op_mul.or op_strRep).or op_rep).or op_repT) ro_mulB ha hb
theorem e_neg (ha : PE X a (rdE X.K cm W fa)) : PE X (.UnaryOp .USub a pos) (rdE X.K cm W (dNeg fa)) := weakE (pe_un un_neg ha) fun σ H Q q => by
  obtain ⟨L, S, a, q⟩ := q
  refine ⟨L, S, a, (Aft.step (R := Rep X.K cm) q).mono fun v H1 z => ?_⟩
  obtain ⟨L1, S1, d, e1, x1, r1, q1⟩ := z
  split at q1
  · cases r1
    exact ⟨_, rfl, q1.give x1 (.int _)⟩
  · exact q1.elim
end
end Den

namespace Den
open PySem L2

/-! ### 31. enumerate of a list, with a start -/
def numIt (k : Int) (f : List Ob → Nat → Option (Option D)) : List Ob → Nat → Option (Option D) := fun h i => match f h i with
  | some (some d) => some (some (.tup [.int (k + (i : Nat)), d]))
  | some none => some none
  | none => none
def enumOf (k : Int) (d : D) (S : DS) : Res Iter0 := match d with
  | .ref n => match S.h[n]? with
    | some (.lst _) => .ok (.dyn (numIt k (lstIt n))) S
    | _ => .stuck
  | _ => .stuck
def dEnum (a : DA) : DS → Res Iter0 := fun S => (a S).bind fun ds S1 => match ds with
  | [d] => enumOf 0 d S1
  | _ => .stuck
def dEnumS (a z : DA) : DS → Res Iter0 := fun S => (a S).bind fun ds S1 => (z S1).bind fun es S2 => match ds, es with
  | [d], [.int k] => if -1000000 ≤ k ∧ k ≤ 1000000 then enumOf k d S2 else .stuck
  | _, _ => .stuck
def IteK (K : PySem.W.Frag) (a : Addr) (k : Int) : It :=
  ⟨fun i H => ∃ (xs : List V) (x : V), SqL K H a xs ∧ xs[i]? = some x, fun i H v H' => ∃ T x, v = .ref T ∧ H T = none ∧ H' = upd H T (.tup [.int (k + (i : Nat)), x]) ∧ ∀ xs, SqL K H a xs → xs[i]? = some x, fun i H => ∃ xs : List V, SqL K H a xs ∧ xs.length ≤ i⟩
section
variable {prog : Program} {w : World} {A : Around} {E : Value → Shared → Prop} {s : Shared}
theorem enum_end_at {e it l : Addr} {i : Nat} {c : Int} {items : Array Value} {old : Value} {Q : Option Value → Shared → Prop} (hh : A.handled = none)
    (he : IsEnum s.heap e it c old) (hit : s.heap.IsListIter it l i) (hl : s.heap.IsList l items) (hx : items[i]? = none)
    (hQ : ∀ h', Heap.ExtBut it s.heap h' → Q none { s with heap := h' }) : wpAny (model prog w) A (pyNext (.ref e)) Q E s := by
  have hT : s.TypeIs (.ref e) "enumerate" := ⟨_, he, rfl⟩
  unfold pyNext
  refine wpAny_bind (wpAny_attempt (wpAny_callSpecial?_slot (name := Str.ofString "__next__") hT F.slot_enumerate_next
    (wpAny_call_entry F.slot_enumerate_next hT F.entry_enumerate_next ?_ (F.args_enumerate_next_1 _))))
  show wpAny _ _ (field (.ref e) 2 >>= _) _ _ _
  refine wpAny_bind (wpAny_field he rfl (x := .ref it) rfl ?_)
  refine wpAny_bind (wpAny_nextOf_list_end hh hit hl hx fun h' x he' hx' => ?_)
  obtain ⟨o, ho, hc⟩ := hx'
  refine wpAny_bind (wpAny_isInstance (T := "StopIteration") (b := true) ⟨o, ho, hc⟩ isSubtype_stop ?_)
  exact wpAny_pure (hQ _ he')
open PyProof.Rows in
theorem callWith_typeK {M : Model} {env : Env} {pos : Pos} {T : String} {e : Expr} {rest : List Expr} {kws : List Keyword} {Q : Value → Shared → Prop}
    (h : wpAny M A (spliced (backTo pos (starEach (e :: rest) env))) (fun vs s₁ => wpAny M A (evalAll ((backToKw pos (keywordEach kws env)).map (·.2)))
      (fun kvs s₂ => wpAny M A (call (.type T) vs (((backToKw pos (keywordEach kws env)).filterMap (·.1)).zip kvs)) Q E s₂) E s₁) E s)
    (he : backTo pos (starEach (e :: rest) env) = (false, eval e env) :: backTo pos (starEach rest env))
    (hplain : (backTo pos (starEach (e :: rest) env)).any (·.1) = false)
    (hall : (backToKw pos (keywordEach kws env)).all (·.1.isSome) = true)
    (hkw : (backToKw pos (keywordEach kws env)).any (·.1.isNone) = false) :
    wpAny M A (callWith pos (.type T) [] (backTo pos (starEach (e :: rest) env)) (backToKw pos (keywordEach kws env))) Q E s := by
  unfold callWith
  have h2 : wpAny M A (evalArgs (.type T) true (backTo pos (starEach (e :: rest) env)) (backToKw pos (keywordEach kws env))) (fun a s₁ => wpAny M A (call (.type T) ([] ++ a.pos) a.kw) Q E s₁) E s := by
    rw [he] at h ⊢
    exact evalArgs_kwB hall h
  refine wpAny_bind (wpAny_holding (wpAny_mono h2 (fun a s₁ h₁ => wpAny_bind (wpAny_standAt ?_)) fun _ _ x => x))
  simp only [hplain, hkw, Bool.or_false]
  refine wpAny_bind (wpAny_pure ?_)
  exact wpAny_bind (wpAny_mono h₁ (fun r s₂ hr => wpAny_bind (wpAny_holding (wpAny_point (wpAny_pure hr)))) fun _ _ x => x)
end
section
variable {X : Cx} {cm : Str → Value} {W : WX} {e e1 e2 o tg : Expr} {es : List Expr} {x : Str} {p pos apos cpos tpos : Pos} {fa fb fo : DE} {ga gz : DA} {K : PySem.W.Frag} {L : List Addr} {H : Hp} {S : DS} {σ : L2.St}
theorem turn_enumK {P : Program} {w : World} {K : PySem.W.Frag} {elts : List Expr} {kk : Nat} {tpos : Pos} (a e it : Addr) (k : Int) :
    Turn P w K (.Tuple elts kk tpos) (IteK K a k) [e, it] e (fun i h => (∃ old, IsEnum h e it (k + ((i : Nat) : Int)) old) ∧ h.IsListIter it a i ∧ e ≠ it) where
  mem := by simp
  obj := fun i h st b hb => by
    obtain ⟨⟨old, he⟩, ⟨o, ho, hc, hd⟩, _⟩ := st
    have e' : b = e ∨ b = it := by simpa using hb
    rcases e' with z | z
    · rw [z]; exact ⟨_, he, fun v q => nomatch q⟩
    · rw [z]; exact ⟨o, ho, fun v q => by rw [hd] at q; cases q⟩
  keep := fun i h h' st k => let ⟨⟨old, he⟩, hi, hne⟩ := st; ⟨⟨old, k e (by simp) _ he⟩, hi.at fun o q => k it (by simp) o q, hne⟩
  item := by
    intro X hP hw hK hc i pins s σ H E I hf st hg
    subst hP hw hK
    obtain ⟨⟨old, he⟩, hit, hne⟩ := st
    obtain ⟨xs, x, hq, hx⟩ := hg
    obtain ⟨its, rv, p, hz⟩ := I.list hq
    obtain ⟨u, hu, ru⟩ := rv.get hx
    have hel : e < s.heap.objs.size := Heap.lt_size he
    have hil : it < s.heap.objs.size := by obtain ⟨_, q, _⟩ := hit; exact Heap.lt_size q
    have hae : e ≠ a := fun q => by
      obtain ⟨o, ho, hc', _⟩ := p.isList
      rw [← q, he] at ho; cases ho
      injection hc' with hc'; exact absurd hc' (by decide)
    have hai : a ≠ it := fun q => by
      obtain ⟨o, ho, hc', _⟩ := p.isList
      obtain ⟨o2, ho2, hc2, _⟩ := hit
      rw [q, ho2] at ho; cases ho
      rw [hc2] at hc'
      injection hc' with hc'; exact absurd hc' (by decide)
    have hlt : i < its.toArray.size := by rw [List.size_toArray]; exact (List.getElem?_eq_some_iff.mp hu).1
    refine wpAny_pyNext_enum_itemC (Draws.list (A := X.A.in1) (I.ok.hd hc) it a hai its.toArray) he ⟨hit, p.isList⟩ hlt hne (by simp [hne, hae]) fun x' h' tk hP ho hst' hT hsz hk => ?_
    have ex' : x' = u := by
      have hP' : its.toArray[i]? = some x' := hP
      rw [List.getElem?_toArray, hu] at hP'
      exact (Option.some.inj hP').symm
    subst ex'
    obtain ⟨hit', _⟩ := hst'
    refine ⟨_, rfl, wpAny_letOwnedTupleGo_enum (s := { s with heap := h', toks := tk + 1 }) ho fun h'' he' sb => ?_⟩
    have hT2 : h''.get? s.heap.objs.size = some { cls := .type "tuple", data := .seq #[.int (k + ((i : Nat) : Int)) tk, x'] } := (sb.2 _ (Nat.ne_of_gt hel)).trans hT
    have new : ObjOk X.prog X.w (upd H s.heap.objs.size (.tup [.int (k + (i : Nat)), x])) h'' s.heap.objs.size (.tup [.int (k + (i : Nat)), x]) :=
      ⟨by show 2 ≤ sizeLine; rw [sizeLine_eq]; decide, [.int (k + ((i : Nat) : Int)) tk, x'], .cons ⟨_, rfl⟩ (.cons ru .nil), ⟨_, hT2, rfl, _, rfl⟩⟩
    have I1 : Inv X pins σ (upd H s.heap.objs.size (.tup [.int (k + (i : Nat)), x])) { s with heap := h'', toks := tk + 1 } :=
      I.turnedNew (ch := [e, it]) (fun b ob hb q => (sb.2 b (fun z => hb (by simp [z]))).trans (hk b ob (fun z => hb (by simp [z])) (fun z => hb (by simp [z])) q)) hf (Nat.le_refl _) new
    refine ⟨.ref s.heap.objs.size, _, I1, rfl, ⟨_, x, rfl, I.hok.fresh (Nat.le_refl _), rfl, fun ys hy => by rw [I.list_inj hy hq]; exact hx⟩, ⟨⟨x', ?_⟩, hit'.at fun o q => (sb.2 it (Ne.symm hne)).trans q, hne⟩, fun b hb => ?_⟩
    · have e1 : k + ((i + 1 : Nat) : Int) = k + (i : Int) + 1 := by omega
      rw [e1]; exact he'
    · have hb' : b < s.heap.objs.size := by
        have e' : b = e ∨ b = it := by simpa using hb
        rcases e' with z | z
        · rw [z]; exact hel
        · rw [z]; exact hil
      rw [upd_ne (Nat.ne_of_lt hb')]
      exact (hf b hb).1
  done := by
    intro X hP hw hK hc i pins s σ H E I hf st hg
    subst hP hw hK
    obtain ⟨⟨old, he⟩, hit, hne⟩ := st
    obtain ⟨xs, hq, hx⟩ := hg
    obtain ⟨its, rv, p, hz⟩ := I.list hq
    obtain ⟨f0, f1, f2, f3, f4, f5⟩ := hf it (by simp)
    have hl := rv.length
    exact enum_end_at (I.ok.hd hc) he hit p.isList (by simp; omega) fun h' eb => ⟨rfl, I.turned (t' := s.toks) (fun b o hb q => eb b o hb q) f0 f1 f3 f4 f5⟩
  self := fun A i s Q E st h => let ⟨⟨_, he⟩, _⟩ := st; wpAny_pyIter_enum he h
def iEnumS (K : PySem.W.Frag) (ta tk : TA) : TI := fun σ H R => ta σ H fun vs H1 => tk σ H1 fun zs H2 => ∃ a xs k, vs = [.ref a] ∧ zs = [.int k] ∧ -(2 ^ 63) ≤ k ∧ k < 2 ^ 63 ∧ SqL K H2 a xs ∧ R (IteK K a k) H2
theorem pi_enumS {e : Expr} {ta tk : TA} {kws : List Keyword} {elts : List Expr} {kk : Nat} (hg : Gl X "enumerate") (hm : X.mg "enumerate" = none) (ha : PA X [e] ta) (hk : PK X kws tk)
    (he : backTo pos (starEach [e] X.env) = (false, eval e X.env) :: backTo pos (starEach [] X.env) := by rfl) (hpl : (backTo pos (starEach [e] X.env)).any (·.1) = false := by rfl)
    (hall : (backToKw pos (keywordEach kws X.env)).all (·.1.isSome) = true := by rfl) (hnone : (backToKw pos (keywordEach kws X.env)).any (·.1.isNone) = false := by rfl) (hks : (backToKw pos (keywordEach kws X.env)).filterMap (·.1) = [Str.ofString "start"] := by rfl) :
    PI X (.Tuple elts kk tpos) (.Call (.Name "enumerate" p) [e] kws pos) (iEnumS X.K ta tk) := by
  refine ⟨fun pins s σ H R I h => ?_⟩
  refine wpAny_Call_Name_kw (ld_blt I hg hm PyProof.Rows.boot_enumerate ?_)
  refine callWith_typeK (thn (ha.run pos pins s σ H _ I h) fun us s1 ⟨vs, H1, I1, r1, q1⟩ => thn (hk.run pos pins s1 σ H1 _ I1 q1) fun ws s2 ⟨zs, H2, I2, r2, q2⟩ => ?_) he hpl hall hnone
  rw [hks]
  obtain ⟨a, xs, k, rfl, rfl, k0, k1, hq, q⟩ := q2
  cases r1 with
  | cons r rr =>
    cases rr
    cases r
    cases r2 with
    | cons r rr =>
      cases rr
      obtain ⟨t, rfl⟩ := r
      obtain ⟨its, rv, p', hz⟩ := I2.list hq
      refine enum_begins_start (begins_list a its.toArray) p'.isList k0 k1 fun h' he' hit hsz hkp => wpAny_pyIter_enum he' ?_
      have I3 : Inv X pins σ H2 { s2 with heap := h' } := I2.kept (t' := s2.toks) hkp
      refine ⟨s2.heap.objs.size + 1, [s2.heap.objs.size + 1, s2.heap.objs.size], _, _, H2, rfl, I3, turn_enumK a (s2.heap.objs.size + 1) s2.heap.objs.size k, ⟨⟨.none, by simpa using he'⟩, ⟨_, hit, rfl, rfl⟩, Nat.succ_ne_self _⟩, fun b hb => ?_, q⟩
      have e' : b = s2.heap.objs.size + 1 ∨ b = s2.heap.objs.size := by simpa using hb
      have hle : s2.heap.objs.size ≤ b := by
        rcases e' with z | z
        · rw [z]; exact Nat.le_add_right _ _
        · rw [z]; exact Nat.le_refl _
      exact I2.fpOk hle (I2.hok.fresh hle)
theorem numIt_obs {K : PySem.W.Frag} {h : List Ob} {n i : Nat} {k : Int} {a : Addr} {d : D} (hb : HAb K cm L H h) (hL : L[n]? = some a) (hf : numIt k (lstIt n) h i = some (some d)) : ∃ vs v d0, H a = some (.lst vs) ∧ vs[i]? = some v ∧ Rep K cm L H d0 v ∧ d = .tup [.int (k + (i : Nat)), d0] := by
  unfold numIt at hf
  split at hf
  · rename_i d0 h0
    unfold lstIt at h0
    split at h0
    · rename_i xs hx
      obtain ⟨vs, hH, rr⟩ := hb.obs _ _ _ hx hL
      obtain ⟨v, hv, rv⟩ := rr.get (Option.some.inj h0)
      cases hf
      exact ⟨vs, v, d0, hH, hv, rv, rfl⟩
    · cases h0
  · cases hf
  · cases hf
theorem numIt_stop {K : PySem.W.Frag} {h : List Ob} {n i : Nat} {k : Int} {a : Addr} (hb : HAb K cm L H h) (hL : L[n]? = some a) (hf : numIt k (lstIt n) h i = some none) : ∃ vs : List V, H a = some (.lst vs) ∧ vs.length ≤ i := by
  unfold numIt at hf
  split at hf
  · cases hf
  · rename_i h0
    unfold lstIt at h0
    split at h0
    · rename_i xs hx
      obtain ⟨vs, hH, rr⟩ := hb.obs _ _ _ hx hL
      refine ⟨vs, hH, ?_⟩
      rw [← rr.length]
      exact List.getElem?_eq_none_iff.mp (Option.some.inj h0)
    · cases h0
  · cases hf
theorem pair_new {K : PySem.W.Frag} {T : Addr} {i : Int} {d0 : D} {v : V} (hT : H T = none) (rv : Rep K cm L H d0 v) : Ext K L H L (upd H T (.tup [.int i, v])) ∧ (∀ h', HAb K cm L H h' → HAb K cm L (upd H T (.tup [.int i, v])) h') ∧ Rep K cm L (upd H T (.tup [.int i, v])) (.tup [.int i, d0]) (.ref T) :=
  ⟨Ext.beside hT, fun h' x => x.beside hT, .tup (.inl (.inl upd_same)) (.cons (.int _) (.cons (rv.mono (Ext.beside hT)) .nil))⟩
theorem walk_enumK {n : Nat} {a : Addr} {k : Int} (hL : L[n]? = some a) : WalksD K cm L H (numIt k (lstIt n)) (IteK K a k) :=
  ⟨fun L' H' h i d e hb hf => by
    obtain ⟨vs, v, d0, hH, hv, rv, rfl⟩ := numIt_obs hb (e.ix hL) hf
    refine ⟨⟨vs, v, SqL.of hH, hv⟩, fun x H2 y => ?_⟩
    obtain ⟨T, x0, rfl, hT, rfl, hy⟩ := y
    have ev := hy vs (SqL.of hH)
    rw [hv] at ev
    cases ev
    exact pair_new hT rv, fun L' H' h i e hb hf => by
    obtain ⟨vs, hH, hl⟩ := numIt_stop hb (e.ix hL) hf
    exact ⟨vs, SqL.of hH, hl⟩⟩
theorem walk_enum0 {n : Nat} {a : Addr} (hL : L[n]? = some a) : WalksD K cm L H (numIt 0 (lstIt n)) (Ite K a) :=
  ⟨fun L' H' h i d e hb hf => by
    obtain ⟨vs, v, d0, hH, hv, rv, rfl⟩ := numIt_obs hb (e.ix hL) hf
    refine ⟨⟨vs, v, SqL.of hH, hv⟩, fun x H2 y => ?_⟩
    obtain ⟨T, x0, rfl, hT, rfl, hy⟩ := y
    have ev := hy vs (SqL.of hH)
    rw [hv] at ev
    cases ev
    rw [Int.zero_add]
    exact pair_new hT rv, fun L' H' h i e hb hf => by
    obtain ⟨vs, hH, hl⟩ := numIt_stop hb (e.ix hL) hf
    exact ⟨vs, SqL.of hH, hl⟩⟩
theorem i_enum {elts : List Expr} {kk : Nat} (hg : Gl X "enumerate") (hm : X.mg "enumerate" = none) (ha : PA X [e] (rdA X.K cm W ga)) (hs : starEach [e] X.env = [(false, eval e X.env)] := by rfl) :
    PI X (.Tuple elts kk tpos) (.Call (.Name "enumerate" p) [e] [] pos) (rdI X.K cm W (dEnum ga)) := weakI (pi_enum hg hm ha hs) fun σ H R q => by
  obtain ⟨L, S, a, q⟩ := q
  refine ⟨L, S, a, (Aft.step (R := Reps X.K cm) q).mono fun v H1 z => ?_⟩
  obtain ⟨L1, S1, d, e1, x1, r1, q1⟩ := z
  split at q1
  · cases r1 with
    | cons r1 r2 =>
      cases r2
      unfold enumOf at q1
      split at q1
      · split at q1
        · rename_i hx
          obtain ⟨p1, vs1, rfl, g1, h1, rr⟩ := x1.lst r1 hx
          exact ⟨_, _, rfl, SqL.of h1, q1.give x1 (walk_enum0 g1)⟩
        · exact q1.elim
      · exact q1.elim
  · exact q1.elim
theorem i_enumS {elts : List Expr} {kk : Nat} {kws : List Keyword} (hg : Gl X "enumerate") (hm : X.mg "enumerate" = none) (ha : PA X [e] (rdA X.K cm W ga)) (hk : PK X kws (rdA X.K cm W gz))
    (he : backTo pos (starEach [e] X.env) = (false, eval e X.env) :: backTo pos (starEach [] X.env) := by rfl) (hpl : (backTo pos (starEach [e] X.env)).any (·.1) = false := by rfl)
    (hall : (backToKw pos (keywordEach kws X.env)).all (·.1.isSome) = true := by rfl) (hnone : (backToKw pos (keywordEach kws X.env)).any (·.1.isNone) = false := by rfl) (hks : (backToKw pos (keywordEach kws X.env)).filterMap (·.1) = [Str.ofString "start"] := by rfl) :
    PI X (.Tuple elts kk tpos) (.Call (.Name "enumerate" p) [e] kws pos) (rdI X.K cm W (dEnumS ga gz)) := weakI (pi_enumS hg hm ha hk he hpl hall hnone hks) fun σ H R q => by
  obtain ⟨L, S, a, q⟩ := q
  refine ⟨L, S, a, (Aft.step (R := Reps X.K cm) q).mono fun v H1 z => ?_⟩
  obtain ⟨L1, S1, ds, e1, x1, r1, q1⟩ := z
  refine ⟨L1, S1, x1, (Aft.step (R := Reps X.K cm) q1).mono fun v H2 z => ?_⟩
  obtain ⟨L2, S2, ds2, e2, x2, r2, q2⟩ := z
  split at q2
  · cases r1 with
    | cons r1 r3 =>
      cases r3
      cases r2 with
      | cons r2 r4 =>
        cases r4
        cases r2
        split at q2
        · rename_i hk
          unfold enumOf at q2
          split at q2
          · split at q2
            · rename_i hx
              obtain ⟨p1, vs1, rfl, g1, h1, rr⟩ := x2.lst (r1.mono e2) hx
              exact ⟨_, _, _, rfl, rfl, by omega, by omega, SqL.of h1, q2.give x2 (walk_enumK g1)⟩
            · exact q2.elim
          · exact q2.elim
        · exact q2.elim
  · exact q2.elim
end

/-! ### 32. TABLE.get(x), a dict of the module -/
def dKGet (tbl : List (Str × D)) (a : DE) : DE := fun S => (a S).bind fun d S1 => match d with
  | .str x => .ok ((tbl.lookup x).getD .non) S1
  | _ => .stuck
def KVal (K : PySem.W.Frag) (cm : Str → Value) (r : Option Value) (e : Option D) : Prop := match r, e with
  | some u, some e => ∃ v, RelV v u ∧ ∀ L H, Rep K cm L H e v
  | none, none => True
  | _, _ => False
structure KTab (K : PySem.W.Frag) (w : World) (cm : Str → Value) (d : Addr) (tbl : List (Str × D)) : Prop where
  ex : ∃ es n, KDict K w d es n ∧ ∀ x, ∃ r, PySem.W.nsIn K d x = some r ∧ KVal K cm r (tbl.lookup x)
inductive KRows (K : PySem.W.Frag) (w : World) (cm : Str → Value) : List DictEntry → List (Str × D) → Prop
  | nil : KRows K w cm [] []
  | cons {x : Str} {t : Tok} {u : Value} {v : V} {e : D} {es : List DictEntry} {tbl : List (Str × D)} : RelV v u → (∀ L H, Rep K cm L H e v) → KRows K w cm es tbl → KRows K w cm (⟨PyData.keyHash w.params x, .str x t, u⟩ :: es) ((x, e) :: tbl)
section
variable {K : PySem.W.Frag} {w : World} {cm : Str → Value}
theorem KRows.lit : ∀ {es : List DictEntry} {tbl : List (Str × D)}, KRows K w cm es tbl → PySem.W.KeysLit w.params es
  | _, _, .nil => trivial
  | _, _, .cons _ _ r => ⟨⟨_, _, rfl, rfl⟩, r.lit⟩
theorem KRows.find : ∀ {es : List DictEntry} {tbl : List (Str × D)}, KRows K w cm es tbl → ∀ x : Str, KVal K cm ((es.find? (·.key.isStr x)).map (·.val)) (tbl.lookup x) ∧ es.any (·.refKey) = false
  | _, _, .nil, x => ⟨trivial, rfl⟩
  | _, _, .cons (x := y) (t := t) (u := u) (v := v) (e := e) (es := es) (tbl := tbl) hv hr r, x => by
    obtain ⟨h1, h2⟩ := r.find x
    refine ⟨?_, ?_⟩
    · rw [List.find?_cons, List.lookup_cons]
      show KVal K cm (Option.map _ (match y == x with | true => _ | false => _)) _
      by_cases h : y = x
      · subst h
        rw [beq_self_eq_true]
        exact ⟨v, hv, hr⟩
      · rw [show (y == x) = false from by simpa using h, show (x == y) = false from by simpa using Ne.symm h]
        exact h1
    · rw [List.any_cons, h2, Bool.or_false]
      rfl
theorem ktab_of {d : Addr} {es : List DictEntry} {n : Nat} {tbl : List (Str × D)} (h : K.lookup d = some ⟨.type "dict", none, .dict es.toArray n, #[]⟩) (low : (d == sysModules) = false) (r : KRows K w cm es tbl) : KTab K w cm d tbl := by
  refine ⟨es.toArray, n, ⟨h, by simpa using r.lit, low⟩, fun x => ?_⟩
  obtain ⟨h1, h2⟩ := r.find x
  refine ⟨_, ?_, h1⟩
  unfold PySem.W.nsIn
  rw [h]
  dsimp only
  cases z : es.find? (·.key.isStr x) with
  | some e => simp [z]
  | none => simp [z, h2]
end
section
variable {X : Cx} {cm : Str → Value} {W : WX} {e : Expr} {nm : Str} {p apos cpos : Pos} {fa : DE} {d : Addr} {tbl : List (Str × D)}
theorem e_kget (T : KTab X.K X.w cm d tbl) (hg : Gl X nm) (hm : X.mg nm = some (.ref d)) (he : PE X e (rdE X.K cm W fa)) (hdb : (nm == ("__debug__" : Str)) = false := by decide)
    (base : attributeBase (.Name nm p) "get" X.env (eval (.Name nm p) X.env) = eval (.Name nm p) X.env := by rfl)
    (few : ((backTo cpos (starEach [e] X.env)).all (fun x => !x.1) && (backToKw cpos (keywordEach [] X.env)).all (fun x => x.1.isSome)
      && decide (([e] : List Expr).length + ([] : List Keyword).length + (if ([] : List Keyword).isEmpty then 0 else 1) < 30)) = true := by rfl)
    (line : (apos.endLine == cpos.line) = true := by rfl) (trees : backTo cpos (starEach [e] X.env) = [(false, eval e X.env)] := by rfl) :
    PE X (.Call (.Attribute (.Name nm p) "get" apos) [e] [] cpos) (rdE X.K cm W (dKGet tbl fa)) := by
  obtain ⟨es, n, D, hl⟩ := T.ex
  refine ⟨fun pins s σ H Q I h => ?_⟩
  refine wpAny_Call_method base few line PySem.F.plainAttrs_dict PySem.F.slot_dict_get PySem.F.type_dict_get (ld_glob I hg hm ?_ hdb)
  refine ⟨kd_type D I, fun b z => by cases z; exact ⟨_, I.kIn _ _ D.at_, rfl⟩, ?_⟩
  rw [trees]
  obtain ⟨L, S, a, q⟩ := h
  refine Calls.callWith_builtin rfl (Calls.evalArgs_plain (Calls.spliced_cons (thn (he.run pins s σ H _ I ⟨L, S, a, Aft.step (R := Rep X.K cm) q⟩) fun iv s2 ⟨y, H2, I2, ry, z⟩ => Calls.spliced_nil ?_)))
  obtain ⟨L1, S1, dd, e1, x1, r1, q1⟩ := z
  split at q1
  · rename_i x
    cases r1
    obtain ⟨t, rfl⟩ := ry
    obtain ⟨r, hr, hv⟩ := hl x
    refine call_meetsIn PySem.F.slot_dict_get (kd_type D I2) PySem.F.entry_dict_get (PySem.F.args_dict_get_2 _ _) (meets_dict_get (strKind X.prog X.w) d (strKind_is X.prog X.w x t) D.low) ⟨_, PySem.W.mapOf_K (prog := X.prog) I2.kIn D.at_ D.lit, ?_⟩
    rw [PySem.W.find_K D.at_ hr]
    unfold KVal at hv
    split at hv
    · rename_i u e' he'
      obtain ⟨v, rv, rr⟩ := hv
      rw [he'] at q1
      exact ⟨v, H2, I2.tok _, rv, q1.give x1 (rr _ _)⟩
    · rename_i he'
      rw [he'] at q1
      exact ⟨.non, H2, I2.tok _, rfl, q1.give x1 .non⟩
    · exact hv.elim
  · exact q1.elim
end
end Den

namespace Den
open PySem L2

/-! ### 24. running plain functions -/
theorem runB_ret {n : Nat} {b : DSt} {ds : List D} {h : List Ob} {d : D} {S : DS} (e : b ⟨ds.map some ++ List.replicate (n - ds.length) none, h⟩ = .ok (.ret d) S) : runB n b ds h = .ok d ⟨[], S.h⟩ := by
  unfold runB; rw [e]
theorem runB_exc {n : Nat} {b : DSt} {ds : List D} {h : List Ob} {x : Xn} {S : DS} (e : b ⟨ds.map some ++ List.replicate (n - ds.length) none, h⟩ = .exc x S) : runB n b ds h = .exc x ⟨[], S.h⟩ := by
  unfold runB; rw [e]
/-- a for over values, with an invariant that each turn keeps -/
theorem forV_inv {g : DG} {b : DSt} {I : DS → Prop} : ∀ (xs : List D) (S : DS), I S → (∀ d ∈ xs, ∀ S, I S → ∃ S1, g d S = some S1 ∧ ∃ f S2, b S1 = .ok f S2 ∧ (f = .next ∨ f = .cont) ∧ I S2) → ∃ S', forV g b xs S = .ok .next S' ∧ I S'
  | [], S, i, _ => ⟨S, rfl, i⟩
  | d :: ds, S, i, h => by
    obtain ⟨S1, e1, f, S2, e2, hf, i2⟩ := h d (by simp) S i
    obtain ⟨S', e3, i3⟩ := forV_inv ds S2 i2 fun x hx => h x (List.mem_cons_of_mem _ hx)
    refine ⟨S', ?_, i3⟩
    unfold forV
    rw [e1]
    dsimp only
    rw [e2]
    rcases hf with rfl | rfl <;> exact e3
/-- a for over a list that stays as it is -/
theorem forO_inv {g : DG} {b : DSt} {I : Nat → DS → Prop} {it : List Ob → Nat → Option (Option D)} {xs : List D} (hh : ∀ i S, I i S → it S.h i = some xs[i]?) (step : ∀ i d S, xs[i]? = some d → I i S → ∃ S1, g d S = some S1 ∧ ∃ f S2, b S1 = .ok f S2 ∧ (f = .next ∨ f = .cont) ∧ I (i + 1) S2) :
    ∀ (k i : Nat) (S : DS), xs.length < i + k → i ≤ xs.length → I i S → ∃ S', forO it g b k i S = .ok .next S' ∧ I xs.length S'
  | 0, i, S, h, h2, _ => by omega
  | k + 1, i, S, h, h2, ii => by
    unfold forO
    rw [hh i S ii]
    cases e : xs[i]? with
    | none =>
      have : xs.length ≤ i := List.getElem?_eq_none_iff.mp e
      obtain rfl : i = xs.length := by omega
      exact ⟨S, rfl, ii⟩
    | some d =>
      obtain ⟨S1, e1, f, S2, e2, hf, i2⟩ := step i d S e ii
      have lt := (List.getElem?_eq_some_iff.mp e).1
      obtain ⟨S', e3, i3⟩ := forO_inv hh step k (i + 1) S2 (by omega) (by omega) i2
      refine ⟨S', ?_, i3⟩
      dsimp only
      rw [e1]
      dsimp only
      rw [e2]
      rcases hf with rfl | rfl <;> exact e3
/-! heaps -/
/-- h' has all that h has but at n and m -/
def Kp (n m : Nat) (h h' : List Ob) : Prop := ∀ (k : Nat) (ob : Ob), k ≠ n → k ≠ m → h[k]? = some ob → h'[k]? = some ob
def Kp0 (h h' : List Ob) : Prop := ∀ (k : Nat) (ob : Ob), h[k]? = some ob → h'[k]? = some ob
theorem Kp.refl (n m : Nat) (h : List Ob) : Kp n m h h := fun _ _ _ _ e => e
theorem Kp.trans {n m : Nat} {h h1 h2 : List Ob} (a : Kp n m h h1) (b : Kp n m h1 h2) : Kp n m h h2 := fun k ob x y e => b k ob x y (a k ob x y e)
theorem Kp0.refl (h : List Ob) : Kp0 h h := fun _ _ e => e
theorem Kp0.trans {h h1 h2 : List Ob} (a : Kp0 h h1) (b : Kp0 h1 h2) : Kp0 h h2 := fun k ob e => b k ob (a k ob e)
theorem Kp0.kp {h h1 : List Ob} (a : Kp0 h h1) (n m : Nat) : Kp n m h h1 := fun k ob _ _ e => a k ob e
theorem Kp0.app (h t : List Ob) : Kp0 h (h ++ t) := fun k ob e => by
  rw [List.getElem?_append_left (List.getElem?_eq_some_iff.mp e).1]; exact e
theorem lt_of_at {h : List Ob} {k : Nat} {ob : Ob} (e : h[k]? = some ob) : k < h.length := (List.getElem?_eq_some_iff.mp e).1
theorem at_new (h : List Ob) (ob : Ob) : (h ++ [ob])[h.length]? = some ob := by
  rw [List.getElem?_append_right (Nat.le_refl _)]; simp
theorem at_old {h t : List Ob} {k : Nat} {ob : Ob} (e : h[k]? = some ob) : (h ++ t)[k]? = some ob := Kp0.app h t k ob e
/-! data -/
theorem toPy_ints (h : List Ob) (n : Nat) : ∀ xs : List Int, (xs.map D.int).mapM (toPy h n) = some (xs.map PyData.int)
  | [] => rfl
  | x :: xs => by
    rw [List.map_cons, List.mapM_cons, toPy_ints h n xs]
    cases n <;> rfl
theorem toPy_strs (h : List Ob) (n : Nat) : ∀ xs : List Str, (xs.map D.str).mapM (toPy h n) = some (xs.map PyData.str)
  | [] => rfl
  | x :: xs => by
    rw [List.map_cons, List.mapM_cons, toPy_strs h n xs]
    cases n <;> rfl
theorem shaped_int (i : Int) : SeqAt.shaped (.int i) = true := rfl
theorem canLay_ints : ∀ xs : List Int, PyData.canLayAll0 (xs.map PyData.int) = true
  | [] => rfl
  | x :: xs => by
    show (true && PyData.canLayAll0 (xs.map PyData.int)) = true
    rw [canLay_ints xs]; rfl
theorem depth_ints : ∀ xs : List Int, PyData.depthAll (xs.map PyData.int) = 0
  | [] => rfl
  | x :: xs => by
    show max 0 (PyData.depthAll (xs.map PyData.int)) = 0
    rw [depth_ints xs]; rfl
theorem shaped_ints (xs : List Int) : SeqAt.shaped (.list (xs.map PyData.int)) = true := by
  unfold SeqAt.shaped
  show (PyData.canLayAll0 (xs.map PyData.int) && decide (PyData.depthAll (xs.map PyData.int) + 1 ≤ 64)) = true
  rw [canLay_ints, depth_ints]; rfl
/-- signs -/
def Good (x : Str) : Prop := ∀ c ∈ x.cps.toList, c < 256
theorem Good.shaped {x : Str} (g : Good x) : SeqAt.shaped (.str x) = true := by
  unfold SeqAt.shaped
  show (PyData.strOk x && decide (0 ≤ 64)) = true
  have : PyData.strOk x = true := by
    unfold PyData.strOk
    rw [Array.all_eq_true_iff_forall_mem]
    intro c hc
    have := g c (by simpa using hc)
    simp; omega
  rw [this]; rfl

/-- r comes to a value of which Q holds -/
def Ok {α : Type} (r : Res α) (Q : α → DS → Prop) : Prop := match r with
  | .ok a S => Q a S
  | _ => False
@[simp] theorem Ok_ok {α : Type} (a : α) (S : DS) (Q : α → DS → Prop) : Ok (.ok a S) Q ↔ Q a S := Iff.rfl
theorem Ok.ex {α : Type} {r : Res α} {Q : α → DS → Prop} (h : Ok r Q) : ∃ a S, r = .ok a S ∧ Q a S := by
  cases r with
  | ok a S => exact ⟨a, S, rfl, h⟩
  | exc e S => exact h.elim
  | stuck => exact h.elim
theorem ok_runB {n : Nat} {b : DSt} {ds : List D} {h : List Ob} {Q : D → DS → Prop} (e : Ok (b ⟨ds.map some ++ List.replicate (n - ds.length) none, h⟩) fun f S => match f with
    | .ret d => Q d ⟨[], S.h⟩
    | .next => Q .non ⟨[], S.h⟩
    | _ => False) : Ok (runB n b ds h) Q := by
  obtain ⟨f, S, e1, q⟩ := e.ex
  unfold runB
  rw [e1]
  cases f <;> first | exact q | exact q.elim
theorem ok_dyn {g : DG} {b : DSt} {K : Fl → DS → Res Fl} {Q : Fl → DS → Prop} {it : List Ob → Nat → Option (Option D)} {S : DS} (I : Nat → DS → Prop) (xs : List D) (hl : xs.length < 100000) (i0 : I 0 S) (hh : ∀ i S, I i S → it S.h i = some xs[i]?)
    (step : ∀ i d S, xs[i]? = some d → I i S → ∃ S1, g d S = some S1 ∧ Ok (b S1) fun f S2 => (f = .next ∨ f = .cont) ∧ I (i + 1) S2) (k : ∀ S', I xs.length S' → Ok (K .next S') Q) : Ok ((forO it g b 100000 0 S).bind K) Q := by
  obtain ⟨S', e, i'⟩ := forO_inv (g := g) (b := b) hh (fun i d S e ii => by
    obtain ⟨S1, e1, o⟩ := step i d S e ii
    obtain ⟨f, S2, e2, hf, i2⟩ := o.ex
    exact ⟨S1, e1, f, S2, e2, hf, i2⟩) 100000 0 S (by omega) (Nat.zero_le _) i0
  rw [e]
  exact k S' i'
theorem lstIt_of {h : List Ob} {n : Nat} {xs : List D} (e : h[n]? = some (.lst xs)) (i : Nat) : lstIt n h i = some xs[i]? := by
  unfold lstIt; rw [e]
theorem ok_forO {g : DG} {b : DSt} {K : Fl → DS → Res Fl} {Q : Fl → DS → Prop} {n : Nat} {S : DS} (I : Nat → DS → Prop) (xs : List D) (hl : xs.length < 100000) (i0 : I 0 S) (hh : ∀ i S, I i S → S.h[n]? = some (.lst xs))
    (step : ∀ i d S, xs[i]? = some d → I i S → ∃ S1, g d S = some S1 ∧ Ok (b S1) fun f S2 => (f = .next ∨ f = .cont) ∧ I (i + 1) S2) (k : ∀ S', I xs.length S' → Ok (K .next S') Q) : Ok ((forO (lstIt n) g b 100000 0 S).bind K) Q := ok_dyn I xs hl i0 (fun i S ii => lstIt_of (hh i S ii) i) step k
theorem ok_forV {g : DG} {b : DSt} {K : Fl → DS → Res Fl} {Q : Fl → DS → Prop} {S : DS} {xs : List D} (I : DS → Prop) (i0 : I S) (step : ∀ d ∈ xs, ∀ S, I S → ∃ S1, g d S = some S1 ∧ Ok (b S1) fun f S2 => (f = .next ∨ f = .cont) ∧ I S2)
    (k : ∀ S', I S' → Ok (K .next S') Q) : Ok ((forV g b xs S).bind K) Q := by
  obtain ⟨S', e, i'⟩ := forV_inv (g := g) (b := b) xs S i0 fun d hd S ii => by
    obtain ⟨S1, e1, o⟩ := step d hd S ii
    obtain ⟨f, S2, e2, hf, i2⟩ := o.ex
    exact ⟨S1, e1, f, S2, e2, hf, i2⟩
  rw [e]
  exact k S' i'
/-! rules of reckoning -/
@[simp] theorem mxL_eq : mxL = 1000000 := rfl
section
variable {S : DS} {i j : Int} {x y : Str} {n m : Nat}
@[simp] theorem z_seq (a b : DSt) (S : DS) : sSeq a b S = (a S).bind fun f S1 => match f with
  | .next => b S1
  | f => .ok f S1 := rfl
@[simp] theorem z_if (t : DT) (a b : DSt) (S : DS) : sIf t a b S = (t S).bind fun c S1 => if c then a S1 else b S1 := rfl
@[simp] theorem z_ret (e : DE) (S : DS) : sRet e S = (e S).bind fun d S1 => .ok (.ret d) S1 := rfl
@[simp] theorem z_expr (e : DE) (S : DS) : sExpr e S = (e S).bind fun _ S1 => .ok .next S1 := rfl
@[simp] theorem z_nop (S : DS) : sNop S = .ok .next S := rfl
@[simp] theorem z_asg (e : DE) (i : Nat) (S : DS) : sAsg e (gN i) S = (e S).bind fun d S1 => .ok .next { S1 with loc := S1.loc.set i (some d) } := rfl
@[simp] theorem z_par (i j : Nat) (a : DA) (S : DS) : sPar i j a S = (a S).bind fun ds S1 => match ds with
  | [d, e] => .ok .next { S1 with loc := (S1.loc.set i (some d)).set j (some e) }
  | _ => .stuck := rfl
@[simp] theorem z_put (v o i : DE) (S : DS) : sPut v o i S = (v S).bind fun d S1 => (o S1).bind fun x S2 => (i S2).bind fun k S3 => match oPut x k d S3 with
  | some S4 => .ok .next S4
  | none => .stuck := rfl
@[simp] theorem z_tV (a : DE) (S : DS) : tV a S = (a S).bind toB := rfl
@[simp] theorem z_toB (b : Bool) (S : DS) : toB (.bl b) S = .ok b S := rfl
@[simp] theorem z_tAnd (a b : DT) (S : DS) : tAndD a b S = (a S).bind fun c S1 => if c then b S1 else .ok false S1 := rfl
@[simp] theorem z_tOr (a b : DT) (S : DS) : tOrD a b S = (a S).bind fun c S1 => if c then .ok true S1 else b S1 := rfl
@[simp] theorem z_tNot (a : DT) (S : DS) : tNotD a S = (a S).bind fun c S1 => .ok (!c) S1 := rfl
@[simp] theorem z_dAnd (a b : DE) (S : DS) : dAnd a b S = (a S).bind fun d S1 => (toB d S1).bind fun c S2 => if c then b S2 else .ok (.bl false) S2 := rfl
@[simp] theorem z_dOr (a b : DE) (S : DS) : dOr a b S = (a S).bind fun d S1 => (toB d S1).bind fun c S2 => if c then .ok (.bl true) S2 else b S2 := rfl
@[simp] theorem z_dIf (t : DT) (a b : DE) (S : DS) : dIf t a b S = (t S).bind fun c S1 => if c then a S1 else b S1 := rfl
@[simp] theorem z_bin (f : D → D → DS → Res D) (a b : DE) (S : DS) : dBin f a b S = (a S).bind fun x S1 => (b S1).bind fun y S2 => f x y S2 := rfl
@[simp] theorem z_var (i : Nat) (S : DS) : dVar i S = match S.loc[i]? with
  | some (some d) => .ok d S
  | _ => .stuck := rfl
@[simp] theorem z_c (d : D) (S : DS) : dC d S = .ok d S := rfl
@[simp] theorem z_nil (S : DS) : dNil S = .ok [] S := rfl
@[simp] theorem z_cons (a : DE) (r : DA) (S : DS) : dCons a r S = (a S).bind fun d S1 => (r S1).bind fun ds S2 => .ok (d :: ds) S2 := rfl
@[simp] theorem z_tup (a : DA) (S : DS) : dTup a S = (a S).bind fun ds S1 => if ds.length ≤ mxL then .ok (.tup ds) S1 else .stuck := rfl
@[simp] theorem z_lst (a : DA) (S : DS) : dLst a S = (a S).bind fun ds S1 => if ds.length ≤ mxL then newO (.lst ds) S1 else .stuck := rfl
@[simp] theorem z_cb (f : List D → DS → Res D) (a : DA) (S : DS) : dCB f a S = (a S).bind fun ds S1 => f ds S1 := rfl
@[simp] theorem z_call (F : Fn) (a : DA) (S : DS) : dCall F a S = (a S).bind fun ds S1 => match F ds S1.h with
  | .ok d S2 => .ok d ⟨S1.loc, S2.h⟩
  | .exc e S2 => .exc e ⟨S1.loc, S2.h⟩
  | .stuck => .stuck := rfl
@[simp] theorem z_callK (F : Fn) (p : List Nat) (a z : DA) (S : DS) : dCallK F p a z S = (a S).bind fun ds S1 => (z S1).bind fun es S2 => match F (pick p (ds ++ es)) S2.h with
  | .ok d S3 => .ok d ⟨S2.loc, S3.h⟩
  | .exc e S3 => .exc e ⟨S2.loc, S3.h⟩
  | .stuck => .stuck := rfl
@[simp] theorem z_mtL (f : D → List D → DS → Res D) (o : DE) (a : DA) (S : DS) : dMtL f o a S = (o S).bind fun x S1 => if isLst S1 x then (a S1).bind fun ds S2 => f x ds S2 else .stuck := rfl
@[simp] theorem z_mtS (f : D → List D → DS → Res D) (o : DE) (a : DE) (S : DS) : dMtS f o a S = (o S).bind fun x S1 => if isStr x then (a S1).bind fun d S2 => f x [d] S2 else .stuck := rfl
@[simp] theorem z_isStr (x : Str) : isStr (.str x) = true := rfl
@[simp] theorem z_isLst (S : DS) (n : Nat) : isLst S (.ref n) = match S.h[n]? with
  | some (.lst _) => true
  | _ => false := rfl
@[simp] theorem z_sl (a : DE) (lo hi : DS → Res (Option Int)) (S : DS) : dSl a lo hi S = (a S).bind fun x S1 => (lo S1).bind fun l S2 => (hi S2).bind fun u S3 => oSl x l u S3 := rfl
@[simp] theorem z_pn (S : DS) : dPN S = .ok none S := rfl
@[simp] theorem z_ps (a : DE) (S : DS) : dPS a S = (a S).bind fun d S1 => match d with
  | .int i => .ok (some i) S1
  | _ => .stuck := rfl
@[simp] theorem z_rev (a : DE) (S : DS) : dRev a S = (a S).bind oRev := rfl
@[simp] theorem z_newO (ob : Ob) (S : DS) : newO ob S = .ok (.ref S.h.length) { S with h := S.h ++ [ob] } := rfl
@[simp] theorem z_new0 (S : DS) : dNew0 S = .ok (.ref S.h.length) { S with h := S.h ++ [.dct []] } := rfl
@[simp] theorem z_add : oAdd (.int i) (.int j) S = .ok (.int (i + j)) S := rfl
@[simp] theorem z_addS : oAdd (.str x) (.str y) S = if x.length + y.length ≤ mxL then .ok (.str (x ++ y)) S else .stuck := rfl
@[simp] theorem z_addT (a b : List D) : oAdd (.tup a) (.tup b) S = if a.length + b.length ≤ mxL then .ok (.tup (a ++ b)) S else .stuck := rfl
@[simp] theorem z_addL : oAdd (.ref n) (.ref m) S = match S.h[n]?, S.h[m]? with
  | some (.lst a), some (.lst b) => if a.length + b.length ≤ mxL then newO (.lst (a ++ b)) S else .stuck
  | _, _ => .stuck := rfl
@[simp] theorem z_sub : oSub (.int i) (.int j) S = .ok (.int (i - j)) S := rfl
@[simp] theorem z_mul : oMulA (.int i) (.int j) S = if (-(2 ^ 64) < i ∧ i < 2 ^ 64) ∨ (-(2 ^ 64) < j ∧ j < 2 ^ 64) then .ok (.int (i * j)) S else .stuck := rfl
@[simp] theorem z_mulS : oMulA (.str x) (.int j) S = if -1000000 ≤ j ∧ j ≤ 1000000 ∧ x.length * j.toNat ≤ mxL ∧ (repS x j).length ≤ mxL then .ok (.str (repS x j)) S else .stuck := rfl
@[simp] theorem z_mod : oMod (.int i) (.int j) S = if 0 < j then .ok (.int (i % j)) S else .stuck := rfl
@[simp] theorem z_div : oDiv (.int i) (.int j) S = if 0 < j ∧ j < 1073741824 then .ok (.int (i / j)) S else .stuck := rfl
@[simp] theorem z_pow : oPow (.int i) (.int j) S = if 0 ≤ j ∧ j ≤ 1000 ∧ i.natAbs < 2 ^ 64 then .ok (.int (i ^ j.toNat)) S else .stuck := rfl
@[simp] theorem z_lt : oLt (.int i) (.int j) S = .ok (.bl (decide (i < j))) S := rfl
@[simp] theorem z_le : oLe (.int i) (.int j) S = .ok (.bl (decide (i ≤ j))) S := rfl
@[simp] theorem z_gt : oGt (.int i) (.int j) S = .ok (.bl (decide (j < i))) S := rfl
@[simp] theorem z_ge : oGe (.int i) (.int j) S = .ok (.bl (decide (j ≤ i))) S := rfl
@[simp] theorem z_isn (d : D) : oIsN d .non S = .ok (.bl (isNon d)) S := rfl
@[simp] theorem z_notn (d : D) : oNotN d .non S = .ok (.bl (!isNon d)) S := rfl
@[simp] theorem z_eqI : oEq (.int i) (.int j) S = .ok (.bl (i == j)) S := rfl
@[simp] theorem z_neI : oNe (.int i) (.int j) S = .ok (.bl (!(i == j))) S := rfl
@[simp] theorem z_ixR (k : Str) : oIx (.ref n) (.str k) S = match S.h[n]? with
  | some (.dct kvs) => match valD kvs (.inr k) with
    | some d => .ok d S
    | none => .stuck
  | some (.fdct kvs) => match valD kvs (.inr k) with
    | some d => .ok d S
    | none => .stuck
  | _ => .stuck := by
  show (match S.h[n]?, D.str k with
    | some (.lst xs), .int i => match atI xs i with
      | some d => Res.ok d S
      | none => .stuck
    | some (.dct kvs), y => match keyOf y with
      | some k => match valD kvs k with
        | some d => .ok d S
        | none => .stuck
      | none => .stuck
    | some (.fdct kvs), y => match keyOf y with
      | some k => match valD kvs k with
        | some d => .ok d S
        | none => .stuck
      | none => .stuck
    | _, _ => .stuck) = _
  cases S.h[n]? with
  | none => rfl
  | some ob => cases ob <;> rfl
@[simp] theorem z_ixT (xs : List D) : oIx (.tup xs) (.int i) S = match atI xs i with
  | some d => .ok d S
  | none => .stuck := rfl
@[simp] theorem z_putD (k : Str) (d : D) : oPut (.ref n) (.str k) d S = match S.h[n]? with
  | some (.dct kvs) => if kvs.length < mxL then some { S with h := S.h.set n (.dct (putD kvs (.inr k) d)) } else none
  | _ => none := by
  unfold oPut
  dsimp only
  cases S.h[n]? with
  | none => rfl
  | some ob => cases ob <;> rfl
@[simp] theorem z_lenS : cLen [.str x] S = if x.length ≤ mxL then .ok (.int x.length) S else .stuck := rfl
@[simp] theorem z_lenT (xs : List D) : cLen [.tup xs] S = .ok (.int xs.length) S := rfl
@[simp] theorem z_lenR : cLen [.ref n] S = match S.h[n]? with
  | some (.lst xs) => .ok (.int xs.length) S
  | some (.dct kvs) => .ok (.int kvs.length) S
  | _ => .stuck := rfl
@[simp] theorem z_intI : cInt [.int i] S = .ok (.int i) S := rfl
@[simp] theorem z_intB (b : Bool) : cInt [.bl b] S = .ok (.int (if b then 1 else 0)) S := rfl
@[simp] theorem z_abs : cAbs [.int i] S = .ok (.int (if i < 0 then -i else i)) S := rfl
@[simp] theorem z_slS (lo hi : Option Int) : oSl (.str x) lo hi S = if x.length ≤ mxL then .ok (.str (cutS x lo hi)) S else .stuck := rfl
@[simp] theorem z_slT (xs : List D) (lo hi : Option Int) : oSl (.tup xs) lo hi S = .ok (.tup (cutD xs lo hi)) S := rfl
@[simp] theorem z_slR (xs : List D) (lo hi : Option Int) : oSl (.ro xs) lo hi S = newO (.lst (cutD xs lo hi)) S := rfl
@[simp] theorem z_slL (lo hi : Option Int) : oSl (.ref n) lo hi S = match S.h[n]? with
  | some (.lst xs) => newO (.lst (cutD xs lo hi)) S
  | _ => .stuck := rfl
@[simp] theorem z_pop : mPop (.ref n) [] S = match S.h[n]? with
  | some (.lst xs) => match xs[xs.length - 1]? with
    | some d => .ok d { S with h := S.h.set n (.lst xs.dropLast) }
    | none => .stuck
  | _ => .stuck := rfl
@[simp] theorem z_append (d : D) : mAppend (.ref n) [d] S = match S.h[n]? with
  | some (.lst xs) => if xs.length < mxL then .ok .non { S with h := S.h.set n (.lst (xs ++ [d])) } else .stuck
  | _ => .stuck := rfl
@[simp] theorem z_split : mSplit (.str x) [.str y] S = if y.length ≠ 0 ∧ x.length + 2 ≤ mxL then newO (.lst ((Txt.split x y).map .str)) S else .stuck := rfl
end
end Den

namespace Den
open PySem L2

/-! ### 25. texts -/
def goodB (x : Str) : Bool := x.cps.toList.all (fun c => decide (c < 256))
theorem good_of {x : Str} (h : goodB x = true) : Good x := fun c hc => of_decide_eq_true (List.all_eq_true.mp h c hc)
theorem sig_app (x y : Str) : (x ++ y).cps.toList = x.cps.toList ++ y.cps.toList := TL.tl_append x y
theorem Good.app {x y : Str} (a : Good x) (b : Good y) : Good (x ++ y) := fun c hc => by
  rw [sig_app] at hc
  rcases List.mem_append.mp hc with h | h
  · exact a c h
  · exact b c h
theorem Good.left {x y : Str} (a : Good (x ++ y)) : Good x := fun c hc => a c (by rw [sig_app]; exact List.mem_append.mpr (.inl hc))
theorem Good.right {x y : Str} (a : Good (x ++ y)) : Good y := fun c hc => a c (by rw [sig_app]; exact List.mem_append.mpr (.inr hc))
theorem Good.cut {x : Str} (a : Good x) (lo hi : Option Int) : Good (cutS x lo hi) := fun c hc => a c (by
  unfold cutS at hc
  exact List.mem_of_mem_drop (List.mem_of_mem_take hc))
theorem Good.rev {x : Str} (a : Good x) : Good (revS x) := fun c hc => a c (by
  unfold revS at hc
  simpa using hc)
theorem len_app (x y : Str) : (x ++ y).length = x.length + y.length := by
  show (x.cps ++ y.cps).size = _
  rw [Array.size_append]; rfl
theorem len_cut (x : Str) (lo hi : Option Int) : (cutS x lo hi).length ≤ x.length := by
  unfold cutS
  show (List.toArray _).size ≤ x.cps.size
  rw [List.size_toArray, List.length_take, List.length_drop, Array.length_toList]
  omega
theorem good_join {y : Str} (gy : Good y) : ∀ {ps : List Str}, (∀ p ∈ ps, Good p) → Good (Str.join y ps)
  | [], _ => fun c hc => by cases hc
  | [p], h => h p (by simp)
  | p :: q :: r, h => ((h p (by simp)).app gy).app (good_join gy fun z hz => h z (List.mem_cons_of_mem _ hz))
theorem good_parts {y : Str} : ∀ {ps : List Str}, Good (Str.join y ps) → ∀ p ∈ ps, Good p
  | [], _ => fun _ hp => by cases hp
  | [p], h => fun z hz => by rw [List.mem_singleton.mp hz]; exact h
  | p :: q :: r, h => fun z hz => by
    have h' : Good (p ++ y ++ Str.join y (q :: r)) := h
    rcases List.mem_cons.mp hz with rfl | hz
    · exact h'.left.left
    · exact good_parts h'.right z hz
theorem good_split {x y : Str} (g : Good x) : ∀ p ∈ Txt.split x y, Good p := good_parts (by rw [StrLaws.join_split]; exact g)
def lenS (ps : List Str) : Nat := (ps.map (·.length)).sum
theorem len_join (y : Str) : ∀ {ps : List Str}, ps ≠ [] → (Str.join y ps).length + y.length = lenS ps + ps.length * y.length
  | [], h => absurd rfl h
  | [p], _ => by
    show p.length + y.length = p.length + 0 + 1 * y.length
    omega
  | p :: q :: r, _ => by
    show (p ++ y ++ Str.join y (q :: r)).length + y.length = p.length + lenS (q :: r) + (r.length + 1 + 1) * y.length
    rw [len_app, len_app, Nat.add_assoc (p.length + y.length), len_join y (ps := q :: r) (by simp)]
    rw [Nat.add_mul (r.length + 1) 1, Nat.one_mul]
    show _ + (lenS (q :: r) + (r.length + 1) * y.length) = _
    omega
theorem split_ne (x y : Str) : Txt.split x y ≠ [] ∨ x.length = 0 := by
  by_cases h : Txt.split x y = []
  · refine .inr ?_
    have := StrLaws.join_split x y
    rw [h] at this
    rw [← this]; rfl
  · exact .inl h
theorem split_len (x y : Str) : lenS (Txt.split x y) + (Txt.split x y).length * y.length ≤ x.length + y.length := by
  rcases split_ne x y with h | h
  · rw [← len_join y h, StrLaws.join_split]; exact Nat.le_refl _
  · by_cases h2 : Txt.split x y = []
    · rw [h2]; show 0 + 0 * _ ≤ _; omega
    · rw [← len_join y h2, StrLaws.join_split]; exact Nat.le_refl _
theorem lenS_rev (ps : List Str) : lenS ps.reverse = lenS ps := by
  unfold lenS
  rw [List.map_reverse, List.sum_reverse]
theorem strsOf_map : ∀ ps : List Str, strsOf (ps.map D.str) = some ps
  | [] => rfl
  | p :: ps => by
    show (strsOf (ps.map D.str)).map (fun ys => p :: ys) = _
    rw [strsOf_map ps]; rfl
theorem join_len (y : Str) (ps : List Str) : (Str.join y ps).length ≤ lenS ps + ps.length * y.length := by
  by_cases h : ps = []
  · subst h; exact Nat.zero_le _
  · have := len_join y h; omega
theorem tjoin (y : Str) (ps : List Str) : Txt.join y ps = Str.join y ps := TL.join_eq y ps
theorem joinOk_of {y : Str} {ps : List Str} (h : lenS ps + ps.length * y.length ≤ 1000000) : joinOk y ps = true := decide_eq_true h
/-- places -/
theorem atI_nat {α : Type} {xs : List α} {r : Int} (h0 : 0 ≤ r) (h1 : r < xs.length) : ∃ d, atI xs r = some d ∧ d ∈ xs := by
  unfold atI ixN
  rw [if_pos h0, if_pos h1]
  have : r.toNat < xs.length := by omega
  exact ⟨xs[r.toNat], by simp [this], List.getElem_mem this⟩
theorem ix_lst {S : DS} {n : Nat} {xs : List D} {r : Int} {d : D} (h : S.h[n]? = some (.lst xs)) (e : atI xs r = some d) : oIx (.ref n) (.int r) S = .ok d S := by
  show (match S.h[n]?, D.int r with
    | some (.lst xs), .int i => match atI xs i with
      | some d => Res.ok d S
      | none => .stuck
    | some (.dct kvs), y => match keyOf y with
      | some k => match valD kvs k with
        | some d => .ok d S
        | none => .stuck
      | none => .stuck
    | some (.fdct kvs), y => match keyOf y with
      | some k => match valD kvs k with
        | some d => .ok d S
        | none => .stuck
      | none => .stuck
    | _, _ => .stuck) = _
  rw [h]
  dsimp only
  rw [e]
@[simp] theorem z_pyS (S : DS) (x : Str) : pyD S (.str x) = some (.str x) := rfl
@[simp] theorem z_pyI (S : DS) (i : Int) : pyD S (.int i) = some (.int i) := rfl
theorem ne_str {S : DS} {x y : Str} (gx : SeqAt.shaped (.str x) = true) (gy : SeqAt.shaped (.str y) = true) : oNe (.str x) (.str y) S = .ok (.bl (!(x == y))) S := by
  unfold oNe
  rw [z_pyS, z_pyS]
  dsimp only
  rw [if_pos (by rw [gx, gy]; rfl)]
  rfl
theorem eq_str {S : DS} {x y : Str} (gx : SeqAt.shaped (.str x) = true) (gy : SeqAt.shaped (.str y) = true) : oEq (.str x) (.str y) S = .ok (.bl (x == y)) S := by
  unfold oEq
  rw [z_pyS, z_pyS]
  dsimp only
  rw [if_pos (by rw [gx, gy]; rfl)]
  rfl
/-- repr of a value whose data are known -/
theorem repr_of {S : DS} {d : D} {p : PyData} (h : pyD S d = some p) (ok : (PyData.showable p && !p.hasDict && decide (p.depth ≤ 30) && decide (p.shown.length ≤ 1000000)) = true) : cRepr [d] S = .ok (.str p.shown) S := by
  unfold cRepr
  dsimp only
  rw [h]
  dsimp only
  rw [mxL_eq, if_pos ok]
section
variable {S : DS} {x y : Str} {n : Nat}
@[simp] theorem z_revS : oRev (.str x) S = if x.length ≤ mxL then .ok (.str (revS x)) S else .stuck := rfl
@[simp] theorem z_revL : oRev (.ref n) S = match S.h[n]? with
  | some (.lst xs) => newO (.lst xs.reverse) S
  | _ => .stuck := rfl
@[simp] theorem z_joinR : mJoin (.str x) [.ref n] S = match S.h[n]? with
  | some (.lst xs) => match strsOf xs with
    | some ys => if joinOk x ys then .ok (.str (Txt.join x ys)) S else .stuck
    | none => .stuck
  | _ => .stuck := rfl
@[simp] theorem z_joinT (xs : List D) : mJoin (.str x) [.tup xs] S = match strsOf xs with
  | some ys => if joinOk x ys then .ok (.str (Txt.join x ys)) S else .stuck
  | none => .stuck := rfl
@[simp] theorem z_tupT (xs : List D) : cTuple [.tup xs] S = .ok (.tup xs) S := rfl
@[simp] theorem z_tupO (xs : List D) : cTuple [.ro xs] S = .ok (.tup xs) S := rfl
@[simp] theorem z_tupR : cTuple [.ref n] S = match S.h[n]? with
  | some (.lst xs) => .ok (.tup xs) S
  | _ => .stuck := rfl
@[simp] theorem z_listR : cList [.ref n] S = match S.h[n]? with
  | some (.lst xs) => newO (.lst xs) S
  | some (.dct kvs) => newO (.lst (kvs.map fun kv => keyD kv.1)) S
  | _ => .stuck := rfl
@[simp] theorem z_listT (xs : List D) : cList [.tup xs] S = newO (.lst xs) S := rfl
@[simp] theorem z_isi (d : D) (t : String) : cIsi [d, .ty t] S = match tyName S d with
  | some m => match isaB m t with
    | some b => .ok (.bl b) S
    | none => .stuck
  | none => .stuck := rfl
@[simp] theorem z_tyS : tyName S (.str x) = some "str" := rfl
@[simp] theorem z_tyI (i : Int) : tyName S (.int i) = some "int" := rfl
@[simp] theorem z_tyB (b : Bool) : tyName S (.bl b) = some "bool" := rfl
@[simp] theorem z_tyN : tyName S .non = some "NoneType" := rfl
@[simp] theorem z_tyT (xs : List D) : tyName S (.tup xs) = some "tuple" := rfl
@[simp] theorem z_tyR : tyName S (.ref n) = match S.h[n]? with
  | some (.lst _) => some "list"
  | some (.dct _) => some "dict"
  | some (.fdct _) => some "dict"
  | none => none := rfl
@[simp] theorem z_raise1 (cls f : Str) (a : DA) (S : DS) : sRaise1 cls f a S = (a S).bind fun ds S1 => match ds with
  | [d] => .exc ⟨cls, [(f, d)]⟩ S1
  | _ => .stuck := rfl
@[simp] theorem z_raise0 (cls : Str) (S : DS) : sRaise0 cls S = .exc ⟨cls, []⟩ S := rfl
end
theorem ok_sForK {i n : Nat} {g : DG} {b : DSt} {K : Fl → DS → Res Fl} {Q : Fl → DS → Prop} {S : DS} {kvs : List (Key × D)} (I : DS → Prop) (hi : S.loc[i]? = some (some (.ref n))) (hn : S.h[n]? = some (.dct kvs)) (i0 : I { S with h := S.h.set n (.fdct kvs) })
    (step : ∀ d ∈ kvs.map (fun kv => keyD kv.1), ∀ S, I S → ∃ S1, g d S = some S1 ∧ Ok (b S1) fun f S2 => (f = .next ∨ f = .cont) ∧ I S2) (hI : ∀ S, I S → ∃ k2, S.h[n]? = some (.fdct k2)) (k : ∀ S', I S' → Ok (K .next { S' with h := S'.h.set n (.dct kvs) }) Q) :
    Ok ((sForK i g b S).bind K) Q := by
  obtain ⟨S', e, i'⟩ := forV_inv (g := g) (b := b) (kvs.map fun kv => keyD kv.1) _ i0 fun d hd S ii => by
    obtain ⟨S1, e1, o⟩ := step d hd S ii
    obtain ⟨f, S2, e2, hf, i2⟩ := o.ex
    exact ⟨S1, e1, f, S2, e2, hf, i2⟩
  obtain ⟨k2, h2⟩ := hI S' i'
  unfold sForK
  rw [hi]
  dsimp only
  rw [hn]
  dsimp only
  rw [e]
  dsimp only
  rw [h2]
  exact k S' i'
theorem ok_sForV {it : DS → Res Iter0} {g : DG} {b : DSt} {K : Fl → DS → Res Fl} {Q : Fl → DS → Prop} {S S0 : DS} {xs : List D} (hi : it S = .ok (.vals xs) S0) (I : DS → Prop) (i0 : I S0) (step : ∀ d ∈ xs, ∀ S, I S → ∃ S1, g d S = some S1 ∧ Ok (b S1) fun f S2 => (f = .next ∨ f = .cont) ∧ I S2)
    (k : ∀ S', I S' → Ok (K .next S') Q) : Ok ((sFor it g b S).bind K) Q := by
  unfold sFor
  rw [hi]
  exact ok_forV I i0 step k
theorem rng_one (j : Int) (h : -1000000 ≤ j ∧ j ≤ 1000000) (S : DS) : dRng (dCons (dC (.int j)) dNil) S = .ok (.vals (rgD 0 j.toNat)) S := by
  unfold dRng
  simp [h]
theorem mem_rgD {lo : Int} {n : Nat} {d : D} (h : d ∈ rgD lo n) : ∃ i : Int, d = .int i ∧ lo ≤ i ∧ i < lo + n := by
  unfold rgD at h
  obtain ⟨k, hk, rfl⟩ := List.mem_map.mp h
  have := List.mem_range.mp hk
  exact ⟨_, rfl, by omega, by omega⟩
end Den

namespace Den
open PySem L2

/-! ### 40. rules of reckoning, more -/
section
variable {S : DS} {i j : Int} {x y : Str} {n m : Nat}
@[simp] theorem z_tTr (a : DE) (S : DS) : tTr a S = (a S).bind toTru := rfl
@[simp] theorem z_truB (b : Bool) : toTru (.bl b) S = .ok b S := rfl
@[simp] theorem z_truN : toTru .non S = .ok false S := rfl
@[simp] theorem z_truI : toTru (.int i) S = .ok (i != 0) S := rfl
@[simp] theorem z_truT (xs : List D) : toTru (.tup xs) S = .ok (!xs.isEmpty) S := rfl
@[simp] theorem z_truR : toTru (.ref n) S = match S.h[n]? with
  | some (.lst xs) => .ok (!xs.isEmpty) S
  | some (.dct kvs) => .ok (!kvs.isEmpty) S
  | _ => .stuck := rfl
@[simp] theorem z_chain (f g : D → D → DS → Res D) (a b c : DE) (S : DS) : dChain f g a b c S = (a S).bind fun x S1 => (b S1).bind fun y S2 => (f x y S2).bind fun k S3 => (toB k S3).bind fun k S4 => if k then (c S4).bind fun z S5 => g y z S5 else .ok (.bl false) S4 := rfl
@[simp] theorem z_all : cAll [.ref n] S = match S.h[n]? with
  | some (.lst xs) => match blsOf xs with
    | some bs => .ok (.bl (bs.all id)) S
    | none => .stuck
  | _ => .stuck := rfl
@[simp] theorem z_strI : cStr [.int i] S = if i.natAbs.log2 < 1920 then .ok (.str (toString i)) S else .stuck := rfl
@[simp] theorem z_strS : cStr [.str x] S = .ok (.str x) S := rfl
@[simp] theorem z_intAI : cIntA [.int i] S = .ok (.int i) S := rfl
@[simp] theorem z_intAB (b : Bool) : cIntA [.bl b] S = .ok (.int (if b then 1 else 0)) S := rfl
@[simp] theorem z_intAS : cIntA [.str x] S = if x.length ≤ 640 then match PySem.intText? x with
    | some n => .ok (.int n) S
    | none => .stuck else .stuck := rfl
@[simp] theorem z_extend : mExtend (.ref n) [.ref m] S = match S.h[n]?, S.h[m]? with
  | some (.lst xs), some (.lst zs) => if xs.length + zs.length ≤ mxL then .ok .non { S with h := S.h.set n (.lst (xs ++ zs)) } else .stuck
  | _, _ => .stuck := rfl
@[simp] theorem z_ixI : oIx (.ref n) (.int i) S = match S.h[n]? with
  | some (.lst xs) => match atI xs i with
    | some d => .ok d S
    | none => .stuck
  | some (.dct kvs) => match valD kvs (.inl i) with
    | some d => .ok d S
    | none => .stuck
  | some (.fdct kvs) => match valD kvs (.inl i) with
    | some d => .ok d S
    | none => .stuck
  | none => .stuck := by
  unfold oIx
  dsimp only
  cases S.h[n]? with
  | none => rfl
  | some ob => cases ob <;> rfl
@[simp] theorem z_neg (a : DE) (S : DS) : dNeg a S = (a S).bind fun d S1 => match d with
  | .int i => .ok (.int (-i)) S1
  | _ => .stuck := rfl
@[simp] theorem z_kget (tbl : List (Str × D)) (a : DE) (S : DS) : dKGet tbl a S = (a S).bind fun d S1 => match d with
  | .str x => .ok ((tbl.lookup x).getD .non) S1
  | _ => .stuck := rfl
@[simp] theorem z_starts : mStarts (.str x) [.str y] S = .ok (.bl (Txt.startswith x y)) S := rfl
@[simp] theorem z_dNot (a : DE) (S : DS) : dNot a S = (a S).bind fun d S1 => (toB d S1).bind fun c S2 => .ok (.bl (!c)) S2 := rfl
@[simp] theorem z_tTrue (S : DS) : tTrue S = .ok true S := rfl
@[simp] theorem z_mulL : oMulA (.ref n) (.int j) S = match S.h[n]? with
  | some (.lst xs) => if -1000000 ≤ j ∧ j ≤ 1000000 ∧ xs.length * j.toNat ≤ mxL then newO (.lst (List.replicate j.toNat xs).flatten) S else .stuck
  | _ => .stuck := rfl
end
/-! data -/
theorem mapM_strs (S : DS) (us : List Str) : (us.map D.str).mapM (pyD S) = some (us.map PyData.str) := toPy_strs S.h 20 us
theorem canLay_strs : ∀ {us : List Str}, (∀ u ∈ us, Good u) → PyData.canLayAll0 (us.map PyData.str) = true
  | [], _ => rfl
  | u :: us, h => by
    show (PyData.canLay0 (.str u) && PyData.canLayAll0 (us.map PyData.str)) = true
    rw [SeqAt.canLay_of_shaped (h u (by simp)).shaped, canLay_strs fun v hv => h v (List.mem_cons_of_mem _ hv)]; rfl
theorem depth_strs : ∀ us : List Str, PyData.depthAll (us.map PyData.str) = 0
  | [] => rfl
  | u :: us => by
    show max 0 (PyData.depthAll (us.map PyData.str)) = 0
    rw [depth_strs us]; rfl
theorem shaped_strsT {us : List Str} (h : ∀ u ∈ us, Good u) : SeqAt.shaped (.tuple (us.map PyData.str)) = true := by
  unfold SeqAt.shaped
  show (PyData.canLayAll0 (us.map PyData.str) && decide (PyData.depthAll (us.map PyData.str) + 1 ≤ 64)) = true
  rw [canLay_strs h, depth_strs]; rfl
theorem shaped_strsL {us : List Str} (h : ∀ u ∈ us, Good u) : SeqAt.shaped (.list (us.map PyData.str)) = true := by
  unfold SeqAt.shaped
  show (PyData.canLayAll0 (us.map PyData.str) && decide (PyData.depthAll (us.map PyData.str) + 1 ≤ 64)) = true
  rw [canLay_strs h, depth_strs]; rfl
theorem any_strs (a : Str) : ∀ us : List Str, (us.map PyData.str).any (fun z => PyData.eqv z (.str a)) = us.any (fun u => u == a)
  | [] => rfl
  | u :: us => by
    rw [List.map_cons, List.any_cons, List.any_cons, any_strs a us]
    rfl
/-- a text among the texts of a tuple -/
theorem in_strs {S : DS} {a : Str} {us : List Str} (ga : Good a) (gu : ∀ u ∈ us, Good u) : inD (.str a) (.tup (us.map D.str)) S = some (us.any fun u => u == a) := by
  show (match pyD S (.str a), (us.map D.str).mapM (pyD S) with
    | some p, some ps => if SeqAt.shaped p && SeqAt.shaped (.tuple ps) then some (ps.any fun z => PyData.eqv z p) else none
    | _, _ => none) = _
  rw [mapM_strs, z_pyS]
  dsimp only
  rw [ga.shaped, shaped_strsT gu, if_pos (by rfl), any_strs]
theorem pyD_lst {S : DS} {n : Nat} {xs : List D} (h : S.h[n]? = some (.lst xs)) : pyD S (.ref n) = (xs.mapM (toPy S.h 19)).map PyData.list := by
  show (match S.h[n]? with | some (.lst xs) => (xs.mapM (toPy S.h 19)).map PyData.list | _ => none) = _
  rw [h]
/-- a list of texts, and the empty one -/
theorem ne_strs {S : DS} {n m : Nat} {us : List Str} (g : ∀ u ∈ us, Good u) (hn : S.h[n]? = some (.lst (us.map D.str))) (hm : S.h[m]? = some (.lst [])) : oNe (.ref n) (.ref m) S = .ok (.bl (!us.isEmpty)) S := by
  unfold oNe
  rw [pyD_lst hn, pyD_lst hm, toPy_strs]
  show (if SeqAt.shaped (.list (us.map PyData.str)) && SeqAt.shaped (.list []) then Res.ok (D.bl (!PyData.eqv (.list (us.map PyData.str)) (.list []))) S else .stuck) = _
  rw [shaped_strsL g, if_pos (by rfl)]
  cases us <;> rfl
/-! a comprehension whose turns change nothing -/
def PureT (g : DG) (t : DT) (e : DE) (f : D → Option D) (S : DS) (d : D) : Prop := ∃ S0, g d S = some S0 ∧ match f d with
  | none => Ok (t S0) fun c S1 => c = false ∧ S1.h = S.h
  | some y => Ok (t S0) fun c S1 => c = true ∧ Ok (e S1) fun z S2 => z = y ∧ S2.h = S.h
theorem compT_pure {g : DG} {t : DT} {e : DE} {f : D → Option D} {S : DS} {d : D} (p : PureT g t e f S d) {acc : List D} (hl : acc.length < 1000000) : ∃ S0 S1, g d S = some S0 ∧ S1.h = S.h ∧ compT t e S0 acc = .ok (acc ++ (f d).toList) S1 := by
  obtain ⟨S0, h1, h3⟩ := p
  unfold compT
  split at h3
  · rename_i hf
    obtain ⟨c, S1, e1, rfl, h2⟩ := h3.ex
    refine ⟨S0, S1, h1, h2, ?_⟩
    rw [e1, Res.only_ok, if_neg (by decide), hf]
    simp
  · rename_i y hf
    obtain ⟨c, S1, e1, rfl, h4⟩ := h3.ex
    obtain ⟨z, S2, e2, rfl, h2⟩ := h4.ex
    refine ⟨S0, S2, h1, h2, ?_⟩
    rw [e1, Res.only_ok, if_pos rfl, e2, Res.only_ok, mxL_eq, if_pos hl, hf]
    rfl
@[simp] theorem wipe0 (ls : List (Option D)) : wipeD ls [] = ls := rfl
@[simp] theorem wipe1 (ls : List (Option D)) (v : Nat) (vs : List Nat) : wipeD ls (v :: vs) = (wipeD ls vs).set v none := rfl
theorem compV_pure {g : DG} {t : DT} {e : DE} {w : List (Option D)} {h : List Ob} (f : D → Option D) : ∀ (xs acc : List D), acc.length + xs.length ≤ 1000000 → (∀ d ∈ xs, PureT g t e f ⟨w, h⟩ d) → compV g t e w xs acc h = .ok (acc ++ xs.filterMap f) ⟨w, h⟩
  | [], acc, _, _ => by
    unfold compV; simp
  | d :: ds, acc, hl, p => by
    simp only [List.length_cons] at hl
    obtain ⟨S0, S1, h1, h2, h3⟩ := compT_pure (p d (by simp)) (acc := acc) (by omega)
    unfold compV
    rw [h1]
    dsimp only
    rw [h3, Res.only_ok, show S1.h = h from h2]
    have hz : (f d).toList.length ≤ 1 := by cases f d <;> simp
    rw [compV_pure f ds (acc ++ (f d).toList) (by rw [List.length_append]; omega) fun z hz => p z (List.mem_cons_of_mem _ hz)]
    rw [List.filterMap_cons]
    cases f d <;> simp
theorem compO_pure {g : DG} {t : DT} {e : DE} {w : List (Option D)} {h : List Ob} {it : List Ob → Nat → Option (Option D)} {xs : List D} (f : D → Option D) (hx : ∀ i, it h i = some xs[i]?) : ∀ (k i : Nat) (acc : List D), xs.length < i + k → i ≤ xs.length → acc.length + (xs.length - i) ≤ 1000000 → (∀ d ∈ xs, PureT g t e f ⟨w, h⟩ d) →
    compO it g t e w k i acc h = .ok (acc ++ (xs.drop i).filterMap f) ⟨w, h⟩
  | 0, i, acc, h1, h2, _, _ => by omega
  | k + 1, i, acc, hk, hi, hl, p => by
    unfold compO
    rw [hx i]
    by_cases lt : i < xs.length
    · rw [List.getElem?_eq_getElem lt]
      dsimp only
      obtain ⟨S0, S1, h1, h2, h3⟩ := compT_pure (p xs[i] (List.getElem_mem lt)) (acc := acc) (by omega)
      rw [h1]
      dsimp only
      rw [h3, Res.only_ok, show S1.h = h from h2]
      have hz : (f xs[i]).toList.length ≤ 1 := by cases f xs[i] <;> simp
      rw [compO_pure f hx k (i + 1) (acc ++ (f xs[i]).toList) (by omega) (by omega) (by rw [List.length_append]; omega) p]
      rw [List.drop_eq_getElem_cons lt, List.filterMap_cons]
      cases f xs[i] <;> simp
    · have e0 : i = xs.length := by omega
      subst e0
      rw [List.getElem?_eq_none (Nat.le_refl _), List.drop_length]
      simp
/-- what it walks are xs -/
def Over (I : Iter0) (xs : List D) (h : List Ob) : Prop := match I with
  | .vals ys => ys = xs
  | .dyn f => ∀ i, f h i = some xs[i]?
theorem comp_pure {vs : List Nat} {it : DS → Res Iter0} {g : DG} {t : DT} {e : DE} {S S1 : DS} {I : Iter0} {xs : List D} (f : D → Option D) (hi : it S = .ok I S1) (ov : Over I xs S1.h) (hl : xs.length < 100000) (hp : ∀ d ∈ xs, PureT g t e f ⟨wipeD S1.loc vs, S1.h⟩ d) :
    dComp vs it g t e S = .ok (.ref S1.h.length) ⟨S1.loc, S1.h ++ [.lst (xs.filterMap f)]⟩ := by
  unfold dComp
  rw [hi, Res.bind_ok]
  cases I with
  | vals ys =>
    obtain rfl : ys = xs := ov
    dsimp only
    rw [compV_pure f ys [] (by simp; omega) hp]
    rfl
  | dyn it2 =>
    dsimp only
    rw [compO_pure f ov 100000 0 [] (by omega) (by omega) (by simp; omega) hp]
    simp
theorem over_lst {n : Nat} {xs : List D} {h : List Ob} (e : h[n]? = some (.lst xs)) : Over (.dyn (lstIt n)) xs h := fun i => lstIt_of e i
theorem iter_ref {a : DE} {S S1 : DS} {n : Nat} {xs : List D} (h : a S = .ok (.ref n) S1) (e : S1.h[n]? = some (.lst xs)) : dIter a S = .ok (.dyn (lstIt n)) S1 := by
  unfold dIter
  rw [h, Res.bind_ok]
  show (match S1.h[n]? with | some (.lst _) => Res.ok (Iter0.dyn (lstIt n)) S1 | _ => .stuck) = _
  rw [e]
theorem iter_tup {a : DE} {S S1 : DS} {xs : List D} (h : a S = .ok (.tup xs) S1) : dIter a S = .ok (.vals xs) S1 := by
  unfold dIter
  rw [h, Res.bind_ok]
  rfl
theorem iter_str {a : DE} {S S1 : DS} {x : Str} (h : a S = .ok (.str x) S1) : dIter a S = .ok (.vals (x.cps.toList.map fun c => .str ⟨#[c]⟩)) S1 := by
  unfold dIter
  rw [h, Res.bind_ok]
  rfl
theorem fm_some {α β : Type} (f : α → β) : ∀ xs : List α, xs.filterMap (fun x => some (f x)) = xs.map f
  | [] => rfl
  | x :: xs => by rw [List.filterMap_cons, List.map_cons, fm_some f xs]
@[simp] theorem at_app0 (h l : List Ob) : (h ++ l)[h.length]? = l[0]? := by
  rw [List.getElem?_append_right (Nat.le_refl _), Nat.sub_self]
@[simp] theorem at_appk (h l : List Ob) (k : Nat) : (h ++ l)[h.length + k]? = l[k]? := by
  rw [List.getElem?_append_right (Nat.le_add_right _ _), Nat.add_sub_cancel_left]
theorem cut_tl (x : D) (xs : List D) : Den.cutD (x :: xs) (some 1) none = xs := by
  have e : HT.sIx (x :: xs).length 0 (some 1) = 1 := by
    unfold HT.sIx
    simp
  unfold Den.cutD
  rw [e]
  show List.take ((x :: xs).length - 1) (List.drop 1 (x :: xs)) = xs
  simp
theorem iter_tail {i n : Nat} {S : DS} {x : D} {xs : List D} (h1 : S.loc[i]? = some (some (.ref n))) (h2 : S.h[n]? = some (.lst (x :: xs))) : dIter (dSl (dVar i) (dPS (dC (.int 1))) dPN) S = .ok (.dyn (lstIt S.h.length)) ⟨S.loc, S.h ++ [.lst xs]⟩ := by
  refine iter_ref (xs := xs) ?_ (at_new _ _)
  simp [h1, h2, z_slL, cut_tl]
theorem oIn_strs {S : DS} {a : Str} {us : List Str} (ga : Good a) (gu : ∀ u ∈ us, Good u) : oIn (.str a) (.tup (us.map D.str)) S = .ok (.bl (us.any fun u => u == a)) S := by
  unfold oIn; rw [in_strs ga gu]
theorem oNotIn_strs {S : DS} {a : Str} {us : List Str} (ga : Good a) (gu : ∀ u ∈ us, Good u) : oNotIn (.str a) (.tup (us.map D.str)) S = .ok (.bl (!us.any fun u => u == a)) S := by
  unfold oNotIn; rw [in_strs ga gu]
/-! texts -/
theorem one_of {c d : Nat} : ((⟨#[c]⟩ : Str) == ⟨#[d]⟩) = (c == d) := by
  by_cases h : c = d
  · subst h; simp
  · have : ((⟨#[c]⟩ : Str) == ⟨#[d]⟩) = false := by
      apply beq_false_of_ne
      intro z
      injection z with z
      simp at z
      exact h z
    rw [this]
    simp [h]
theorem starts_cut (x y : Str) : Txt.startswith x y = (cutS x none (some y.length) == y) := by
  unfold Txt.startswith
  rw [StrLaws.subAt_eq]
  have e : (cutS x none (some (y.length : Int))).cps.toList = x.cps.toList.take y.length := by
    unfold cutS HT.sIx
    simp only [List.drop_zero]
    rw [if_neg (by omega)]
    simp
    have e3 : x.length = x.cps.size := rfl
    omega
  have e2 : (cutS x none (some (y.length : Int)) == y) = (x.cps.toList.take y.length == y.cps.toList) := by
    rw [← e]
    by_cases h : cutS x none (some (y.length : Int)) = y
    · rw [h]; simp
    · rw [beq_false_of_ne h]
      symm
      apply beq_false_of_ne
      intro z
      apply h
      cases h1 : cutS x none (some (y.length : Int)) with
      | mk a =>
        cases y with
        | mk b =>
          rw [h1] at z
          simp at z
          rw [z]
  rw [e2, List.drop_zero]
  by_cases h : x.cps.toList.take y.length = y.cps.toList
  · have : y.length ≤ x.length := by
      have := congrArg List.length h
      simp at this
      show y.cps.size ≤ x.cps.size
      have e3 : y.length = y.cps.size := rfl
      omega
    simp [h, this]
  · simp [h]
theorem str0 {x : Str} (h : x.length = 0) : x = ⟨#[]⟩ := by
  cases x with
  | mk a =>
    have : a.size = 0 := h
    rw [Array.size_eq_zero_iff.mp this]
theorem split_some {x y : Str} (h0 : Txt.split ⟨#[]⟩ y ≠ []) : ∃ w ws, Txt.split x y = w :: ws := by
  rcases split_ne x y with h | h
  · match e : Txt.split x y, h with
    | w :: ws, _ => exact ⟨w, ws, rfl⟩
  · rw [str0 h]
    match e : Txt.split ⟨#[]⟩ y, h0 with
    | w :: ws, _ => exact ⟨w, ws, rfl⟩
theorem split_count {x y : Str} (hy : 1 ≤ y.length) : (Txt.split x y).length ≤ x.length + y.length := by
  have := split_len x y
  have h : (Txt.split x y).length * 1 ≤ (Txt.split x y).length * y.length := Nat.mul_le_mul_left _ hy
  omega
theorem le_lenS {p : Str} : ∀ {ps : List Str}, p ∈ ps → p.length ≤ lenS ps
  | q :: ps, h => by
    show p.length ≤ q.length + lenS ps
    rcases List.mem_cons.mp h with rfl | h
    · omega
    · have := le_lenS h; omega
theorem split_each {x y : Str} {p : Str} (h : p ∈ Txt.split x y) : p.length ≤ lenS (Txt.split x y) := by
  exact le_lenS h
end Den

namespace Den
open PySem L2

/-! ### 50. data whose repr is short -/
structure Sm (p : PyData) (n d : Nat) : Prop where
  s : PyData.showable p = true
  h : p.hasDict = false
  d : p.depth ≤ d
  l : p.shown.length ≤ n
  g : Good p.shown
def smB (p : PyData) (n d : Nat) : Bool := PyData.showable p && !p.hasDict && decide (p.depth ≤ d) && decide (p.shown.length ≤ n) && goodB p.shown
theorem sm_of {p : PyData} {n d : Nat} (h : smB p n d = true) : Sm p n d := by
  unfold smB at h
  simp only [Bool.and_eq_true, Bool.not_eq_true', decide_eq_true_eq] at h
  exact ⟨h.1.1.1.1, h.1.1.1.2, h.1.1.2, h.1.2, good_of h.2⟩
theorem Sm.le {p : PyData} {n d n' d' : Nat} (a : Sm p n d) (h : n ≤ n') (h2 : d ≤ d') : Sm p n' d' := ⟨a.s, a.h, Nat.le_trans a.d h2, Nat.le_trans a.l h, a.g⟩
theorem shownAll_map : ∀ ps : List PyData, PyData.shownAll ps = ps.map PyData.shown
  | [] => by unfold PyData.shownAll; rfl
  | p :: ps => by
    unfold PyData.shownAll
    rw [List.map_cons, shownAll_map ps]
theorem showableAll_of : ∀ {ps : List PyData}, (∀ p ∈ ps, PyData.showable p = true) → PyData.showableAll ps = true
  | [], _ => by unfold PyData.showableAll; rfl
  | p :: ps, h => by
    unfold PyData.showableAll
    rw [h p (by simp), showableAll_of fun q hq => h q (List.mem_cons_of_mem _ hq)]; rfl
theorem hasDictAll_of : ∀ {ps : List PyData}, (∀ p ∈ ps, p.hasDict = false) → PyData.hasDictAll ps = false
  | [], _ => by unfold PyData.hasDictAll; rfl
  | p :: ps, h => by
    unfold PyData.hasDictAll
    rw [h p (by simp), hasDictAll_of fun q hq => h q (List.mem_cons_of_mem _ hq)]; rfl
theorem depthAll_of {d : Nat} : ∀ {ps : List PyData}, (∀ p ∈ ps, p.depth ≤ d) → PyData.depthAll ps ≤ d
  | [], _ => by unfold PyData.depthAll; omega
  | p :: ps, h => by
    unfold PyData.depthAll
    have h1 := h p (by simp)
    have h2 := depthAll_of fun q hq => h q (List.mem_cons_of_mem _ hq)
    omega
theorem lenS_le {n : Nat} : ∀ {ps : List Str}, (∀ p ∈ ps, p.length ≤ n) → lenS ps ≤ ps.length * n
  | [], _ => by show 0 ≤ _; omega
  | p :: ps, h => by
    show p.length + lenS ps ≤ (ps.length + 1) * n
    have h1 := h p (by simp)
    have h2 := lenS_le fun q hq => h q (List.mem_cons_of_mem _ hq)
    rw [Nat.add_mul, Nat.one_mul]
    omega
theorem textFrom_le : ∀ (ts : List Str) (k : Nat) (acc : Str), (PySem.textFrom k acc ts).length ≤ acc.length + lenS ts + 2 * ts.length ∧ (Good acc → (∀ t ∈ ts, Good t) → Good (PySem.textFrom k acc ts))
  | [], k, acc => ⟨by show acc.length ≤ acc.length + 0 + 2 * 0; omega, fun g _ => g⟩
  | t :: r, k, acc => by
    obtain ⟨h1, h2⟩ := textFrom_le r (k + 1) (acc ++ (if k > 0 then ", " else "" : String) ++ t)
    have e : (acc ++ (if k > 0 then ", " else "" : String) ++ t).length ≤ acc.length + 2 + t.length := by
      rw [len_app, len_app]
      split
      · show _ + (Str.ofString ", ").length + _ ≤ _
        rw [show (Str.ofString ", ").length = 2 by decide +kernel]; omega
      · show _ + (Str.ofString "").length + _ ≤ _
        rw [show (Str.ofString "").length = 0 by decide +kernel]; omega
    refine ⟨?_, fun g gt => ?_⟩
    · show (PySem.textFrom (k + 1) (acc ++ (if k > 0 then ", " else "" : String) ++ t) r).length ≤ acc.length + (t.length + lenS r) + 2 * (r.length + 1)
      omega
    · refine h2 ((g.app ?_).app (gt t (by simp))) fun z hz => gt z (List.mem_cons_of_mem _ hz)
      split
      · exact good_of (by decide +kernel)
      · exact good_of (by decide +kernel)
theorem shown_mem {ps : List PyData} {n d : Nat} (h : ∀ p ∈ ps, Sm p n d) : (∀ t ∈ ps.map PyData.shown, t.length ≤ n) ∧ ∀ t ∈ ps.map PyData.shown, Good t :=
  ⟨fun t ht => by obtain ⟨p, hp, rfl⟩ := List.mem_map.mp ht; exact (h p hp).l, fun t ht => by obtain ⟨p, hp, rfl⟩ := List.mem_map.mp ht; exact (h p hp).g⟩
theorem sm_list {ps : List PyData} {n d : Nat} (h : ∀ p ∈ ps, Sm p n d) : Sm (.list ps) (ps.length * (n + 2) + 2) (d + 1) := by
  obtain ⟨h1, h2⟩ := shown_mem h
  have e : PyData.shown (.list ps) = PySem.textFrom 0 "[" (ps.map PyData.shown) ++ "]" := by
    unfold PyData.shown
    rw [shownAll_map]; rfl
  obtain ⟨t1, t2⟩ := textFrom_le (ps.map PyData.shown) 0 "["
  refine ⟨?_, ?_, ?_, ?_, ?_⟩
  · unfold PyData.showable; exact showableAll_of fun p hp => (h p hp).s
  · unfold PyData.hasDict; exact hasDictAll_of fun p hp => (h p hp).h
  · unfold PyData.depth
    have := depthAll_of fun p hp => (h p hp).d
    omega
  · rw [e, len_app, show (("]" : String) : Str).length = 1 by decide +kernel]
    have l1 := lenS_le h1
    rw [List.length_map] at l1 t1
    rw [show (("[" : String) : Str).length = 1 by decide +kernel] at t1
    rw [Nat.mul_add]
    omega
  · rw [e]
    exact (t2 (good_of (by decide +kernel)) h2).app (good_of (by decide +kernel))
theorem sm_tup {ps : List PyData} {n d : Nat} (h : ∀ p ∈ ps, Sm p n d) : Sm (.tuple ps) (ps.length * (n + 2) + 3) (d + 1) := by
  obtain ⟨h1, h2⟩ := shown_mem h
  have e : PyData.shown (.tuple ps) = ("(" : Str) ++ Str.join ", " (ps.map PyData.shown) ++ (if (ps.map PyData.shown).length == 1 then ",)" else ")" : String) := by
    unfold PyData.shown
    rw [shownAll_map]; rfl
  refine ⟨?_, ?_, ?_, ?_, ?_⟩
  · unfold PyData.showable; exact showableAll_of fun p hp => (h p hp).s
  · unfold PyData.hasDict; exact hasDictAll_of fun p hp => (h p hp).h
  · unfold PyData.depth
    have := depthAll_of fun p hp => (h p hp).d
    omega
  · rw [e, len_app, len_app, show (("(" : String) : Str).length = 1 by decide +kernel]
    have l1 := lenS_le h1
    have l2 := join_len ", " (ps.map PyData.shown)
    rw [List.length_map] at l1 l2
    rw [show ((", " : String) : Str).length = 2 by decide +kernel] at l2
    rw [Nat.mul_add]
    have l3 : ((if (ps.map PyData.shown).length == 1 then ",)" else ")" : String) : Str).length ≤ 2 := by split <;> decide +kernel
    omega
  · rw [e]
    refine ((good_of (by decide +kernel)).app (good_join (good_of (by decide +kernel)) h2)).app ?_
    split <;> exact good_of (by decide +kernel)
theorem Sm.repr {S : DS} {d : D} {p : PyData} {n k : Nat} (a : Sm p n k) (hn : n ≤ 1000000) (hk : k ≤ 30) (e : pyD S d = some p) : cRepr [d] S = .ok (.str p.shown) S := by
  refine repr_of e ?_
  rw [a.s, a.h, decide_eq_true (Nat.le_trans a.d hk), decide_eq_true (Nat.le_trans a.l hn)]
  rfl
theorem Sm.ne {S : DS} {p : PyData} {n k : Nat} (a : Sm p n k) : oNe (.str p.shown) (.str p.shown) S = .ok (.bl false) S := by
  rw [ne_str a.g.shaped a.g.shaped]; simp
theorem Sm.eq {S : DS} {p : PyData} {n k : Nat} (a : Sm p n k) : oEq (.str p.shown) (.str p.shown) S = .ok (.bl true) S := by
  rw [eq_str a.g.shaped a.g.shaped]; simp
theorem sm_bool (b : Bool) : Sm (.bool b) 5 0 := by cases b <;> exact sm_of (by decide +kernel)
end Den
namespace Den
open PySem L2
/-! ### 51. loops over numbered lists -/
theorem numIt_of {h : List Ob} {n i : Nat} {k : Int} {xs : List D} (e : h[n]? = some (.lst xs)) : numIt k (lstIt n) h i = some (xs[i]?.map fun d => .tup [.int (k + (i : Nat)), d]) := by
  unfold numIt lstIt
  rw [e]
  dsimp only
  cases xs[i]? <;> rfl
theorem g_two (i j : Nat) (a b : D) (S : DS) : gTup 2 (gCons (gN i) (gCons (gN j) gNil)) (.tup [a, b]) S = some { S with loc := (S.loc.set i (some a)).set j (some b) } := rfl
theorem sFor_dyn {it : DS → Res Iter0} {g : DG} {b : DSt} {S S1 : DS} {f : List Ob → Nat → Option (Option D)} (h : it S = .ok (.dyn f) S1) : sFor it g b S = forO f g b 100000 0 S1 := by
  unfold sFor
  rw [h, Res.bind_ok]
theorem sFor_vals {it : DS → Res Iter0} {g : DG} {b : DSt} {S S1 : DS} {xs : List D} (h : it S = .ok (.vals xs) S1) : sFor it g b S = forV g b xs S1 := by
  unfold sFor
  rw [h, Res.bind_ok]
theorem enumS_tail {i n : Nat} {k : Int} {S : DS} {x : D} {xs : List D} (hk : -1000000 ≤ k ∧ k ≤ 1000000) (h1 : S.loc[i]? = some (some (.ref n))) (h2 : S.h[n]? = some (.lst (x :: xs))) : dEnumS (dCons (dSl (dVar i) (dPS (dC (.int 1))) dPN) dNil) (dCons (dC (.int k)) dNil) S = .ok (.dyn (numIt k (lstIt S.h.length))) ⟨S.loc, S.h ++ [.lst xs]⟩ := by
  unfold dEnumS
  simp [h1, h2, z_slL, cut_tl, hk, enumOf]
theorem enum_tail {i n : Nat} {S : DS} {x : D} {xs : List D} (h1 : S.loc[i]? = some (some (.ref n))) (h2 : S.h[n]? = some (.lst (x :: xs))) : dEnum (dCons (dSl (dVar i) (dPS (dC (.int 1))) dPN) dNil) S = .ok (.dyn (numIt 0 (lstIt S.h.length))) ⟨S.loc, S.h ++ [.lst xs]⟩ := by
  unfold dEnum
  simp [h1, h2, z_slL, cut_tl, enumOf]
theorem enum_var {i n : Nat} {S : DS} {xs : List D} (h1 : S.loc[i]? = some (some (.ref n))) (h2 : S.h[n]? = some (.lst xs)) : dEnum (dCons (dVar i) dNil) S = .ok (.dyn (numIt 0 (lstIt n))) S := by
  unfold dEnum
  simp [h1, h2, enumOf]
/-- one turn of a loop -/
theorem forO_end {it : List Ob → Nat → Option (Option D)} {g : DG} {b : DSt} {k i : Nat} {S : DS} (h : it S.h i = some none) : forO it g b (k + 1) i S = .ok .next S := by
  unfold forO; rw [h]
theorem forO_next {it : List Ob → Nat → Option (Option D)} {g : DG} {b : DSt} {k i : Nat} {S S1 S2 : DS} {d : D} (h : it S.h i = some (some d)) (h1 : g d S = some S1) (h2 : b S1 = .ok .next S2) : forO it g b (k + 1) i S = forO it g b k (i + 1) S2 := by
  conv => lhs; unfold forO
  rw [h]; dsimp only; rw [h1]; dsimp only; rw [h2]; rfl
theorem forO_ret {it : List Ob → Nat → Option (Option D)} {g : DG} {b : DSt} {k i : Nat} {S S1 S2 : DS} {d r : D} (h : it S.h i = some (some d)) (h1 : g d S = some S1) (h2 : b S1 = .ok (.ret r) S2) : forO it g b (k + 1) i S = .ok (.ret r) S2 := by
  conv => lhs; unfold forO
  rw [h]; dsimp only; rw [h1]; dsimp only; rw [h2]; rfl
theorem forO_exc {it : List Ob → Nat → Option (Option D)} {g : DG} {b : DSt} {k i : Nat} {S S1 S2 : DS} {d : D} {x : Xn} (h : it S.h i = some (some d)) (h1 : g d S = some S1) (h2 : b S1 = .exc x S2) : forO it g b (k + 1) i S = .exc x S2 := by
  conv => lhs; unfold forO
  rw [h]; dsimp only; rw [h1]; dsimp only; rw [h2]; rfl
end Den

namespace Den
open PySem L2
/-! ### 60. a comprehension whose turns change the heap -/
/-- one turn: from acc and h to what holds of the new ones -/
def TurnJ (g : DG) (t : DT) (e : DE) (w : List (Option D)) (J : List D → List Ob → Prop) (d : D) (acc : List D) (h : List Ob) : Prop := ∃ S0, g d ⟨w, h⟩ = some S0 ∧ Ok (t S0) fun c S2 => if c = true then Ok (e S2) fun y S3 => J (acc ++ [y]) S3.h else J acc S2.h
theorem compT_J {g : DG} {t : DT} {e : DE} {w : List (Option D)} {J : List D → List Ob → Prop} {d : D} {acc : List D} {h : List Ob} (p : TurnJ g t e w J d acc h) (hl : acc.length < 1000000) : ∃ S0 acc2 S1, g d ⟨w, h⟩ = some S0 ∧ compT t e S0 acc = .ok acc2 S1 ∧ J acc2 S1.h ∧ acc2.length ≤ acc.length + 1 := by
  obtain ⟨S0, h1, h3⟩ := p
  obtain ⟨c, S2, e1, h4⟩ := h3.ex
  cases c with
  | true =>
    rw [if_pos rfl] at h4
    obtain ⟨y, S3, e2, j⟩ := h4.ex
    refine ⟨S0, acc ++ [y], S3, h1, ?_, j, by simp⟩
    unfold compT
    rw [e1, Res.only_ok, if_pos rfl, e2, Res.only_ok, mxL_eq, if_pos hl]
  | false =>
    rw [if_neg (by decide)] at h4
    refine ⟨S0, acc, S2, h1, ?_, h4, by omega⟩
    unfold compT
    rw [e1, Res.only_ok, if_neg (by decide)]
theorem compV_J {g : DG} {t : DT} {e : DE} {w : List (Option D)} (J : List D → List Ob → Prop) : ∀ (xs acc : List D) (h : List Ob), acc.length + xs.length ≤ 1000000 → J acc h → (∀ d ∈ xs, ∀ acc h, J acc h → TurnJ g t e w J d acc h) → ∃ acc2 h2, compV g t e w xs acc h = .ok acc2 ⟨w, h2⟩ ∧ J acc2 h2 ∧ acc2.length ≤ acc.length + xs.length
  | [], acc, h, _, j, _ => ⟨acc, h, rfl, j, by simp⟩
  | d :: ds, acc, h, hl, j, p => by
    simp only [List.length_cons] at hl
    obtain ⟨S0, acc2, S1, h1, h2, j2, l2⟩ := compT_J (p d (by simp) acc h j) (by omega)
    obtain ⟨acc3, h3, e3, j3, l3⟩ := compV_J J ds acc2 S1.h (by omega) j2 fun z hz => p z (List.mem_cons_of_mem _ hz)
    refine ⟨acc3, h3, ?_, j3, by simp; omega⟩
    unfold compV
    rw [h1]
    dsimp only
    rw [h2, Res.only_ok]
    exact e3
theorem compO_J {g : DG} {t : DT} {e : DE} {w : List (Option D)} {it : List Ob → Nat → Option (Option D)} {xs : List D} (J : List D → List Ob → Prop) (hx : ∀ acc h i, J acc h → it h i = some xs[i]?) (p : ∀ d ∈ xs, ∀ acc h, J acc h → TurnJ g t e w J d acc h) : ∀ (k i : Nat) (acc : List D) (h : List Ob), xs.length < i + k → i ≤ xs.length → acc.length + (xs.length - i) ≤ 1000000 → J acc h →
    ∃ acc2 h2, compO it g t e w k i acc h = .ok acc2 ⟨w, h2⟩ ∧ J acc2 h2 ∧ acc2.length ≤ acc.length + (xs.length - i)
  | 0, i, acc, h, h1, h2, _, _ => by omega
  | k + 1, i, acc, h, hk, hi, hl, j => by
    by_cases lt : i < xs.length
    · obtain ⟨S0, acc2, S1, h1, h2, j2, l2⟩ := compT_J (p xs[i] (List.getElem_mem lt) acc h j) (by omega)
      obtain ⟨acc3, h3, e3, j3, l3⟩ := compO_J J hx p k (i + 1) acc2 S1.h (by omega) (by omega) (by omega) j2
      refine ⟨acc3, h3, ?_, j3, by omega⟩
      unfold compO
      rw [hx acc h i j, List.getElem?_eq_getElem lt]
      dsimp only
      rw [h1]
      dsimp only
      rw [h2, Res.only_ok]
      exact e3
    · refine ⟨acc, h, ?_, j, by omega⟩
      unfold compO
      rw [hx acc h i j, List.getElem?_eq_none (by omega)]
theorem comp_J {vs : List Nat} {it : DS → Res Iter0} {g : DG} {t : DT} {e : DE} {S S1 : DS} {I : Iter0} {xs : List D} (J : List D → List Ob → Prop) (hi : it S = .ok I S1) (ov : ∀ acc h, J acc h → Over I xs h) (hl : xs.length < 100000) (j0 : J [] S1.h) (p : ∀ d ∈ xs, ∀ acc h, J acc h → TurnJ g t e (wipeD S1.loc vs) J d acc h) :
    ∃ acc h2, dComp vs it g t e S = .ok (.ref h2.length) ⟨S1.loc, h2 ++ [.lst acc]⟩ ∧ J acc h2 ∧ acc.length ≤ xs.length := by
  cases I with
  | vals ys =>
    obtain rfl : ys = xs := ov _ _ j0
    obtain ⟨acc, h2, e2, j, l⟩ := compV_J (w := wipeD S1.loc vs) J ys [] S1.h (by simp; omega) j0 p
    refine ⟨acc, h2, ?_, j, by simpa using l⟩
    unfold dComp
    rw [hi, Res.bind_ok]
    dsimp only
    rw [e2]
    rfl
  | dyn it2 =>
    obtain ⟨acc, h2, e2, j, l⟩ := compO_J (w := wipeD S1.loc vs) J (fun acc h i j => ov acc h j i) p 100000 0 [] S1.h (by omega) (by omega) (by simp; omega) j0
    refine ⟨acc, h2, ?_, j, by simpa using l⟩
    unfold dComp
    rw [hi, Res.bind_ok]
    dsimp only
    rw [e2]
    rfl
theorem rng_of {a : DE} {S S1 : DS} {j : Int} (e : a S = .ok (.int j) S1) (h : -1000000 ≤ j ∧ j ≤ 1000000) : dRng (dCons a dNil) S = .ok (.vals (rgD 0 j.toNat)) S1 := by
  unfold dRng
  simp [e, h]
theorem rgD_len (lo : Int) (n : Nat) : (rgD lo n).length = n := by unfold rgD; simp
theorem foldl_cps : ∀ (l : List (Array Nat)) (acc : Array Nat), (l.foldl (· ++ ·) acc).toList = acc.toList ++ (l.map Array.toList).flatten
  | [], acc => by simp
  | a :: l, acc => by
    rw [List.foldl_cons, foldl_cps l, Array.toList_append, List.map_cons, List.flatten_cons, List.append_assoc]
theorem repS_cps {z : Str} {n : Int} (hn : 2 ≤ n) (hz : z.length ≠ 0) : (repS z n).cps.toList = (List.replicate n.toNat z.cps.toList).flatten := by
  unfold repS
  rw [if_neg (by omega), if_neg (by simp; exact ⟨by omega, hz⟩)]
  show ((List.replicate n.toNat z.cps).foldl (· ++ ·) #[]).toList = _
  rw [foldl_cps, List.map_replicate]
  rfl
theorem repS_len {z : Str} {n : Int} (hn : 2 ≤ n) (hz : z.length = 1) : (repS z n).length = n.toNat := by
  have e := congrArg List.length (repS_cps hn (z := z) (by omega))
  have h1 : z.cps.toList.length = 1 := by rw [Array.length_toList]; exact hz
  simp [h1] at e
  exact e
theorem repS_good {z : Str} {n : Int} (hn : 2 ≤ n) (hz : z.length = 1) (g : Good z) : Good (repS z n) := fun c hc => by
  rw [repS_cps hn (by omega)] at hc
  obtain ⟨l, hl, hc⟩ := List.mem_flatten.mp hc
  rw [(List.mem_replicate.mp hl).2] at hc
  exact g c hc
/-- texts joined: their lengths -/
theorem lenS_app : ∀ a b : List Str, lenS (a ++ b) = lenS a + lenS b
  | [], b => by show lenS b = 0 + lenS b; omega
  | x :: a, b => by
    show x.length + lenS (a ++ b) = x.length + lenS a + lenS b
    rw [lenS_app a b]; omega
theorem lenS_take (n : Nat) : ∀ a : List Str, lenS (a.take n) ≤ lenS a := fun a => by
  have := lenS_app (a.take n) (a.drop n)
  rw [List.take_append_drop] at this
  omega
theorem lenS_drop (n : Nat) : ∀ a : List Str, lenS (a.drop n) ≤ lenS a := fun a => by
  have := lenS_app (a.take n) (a.drop n)
  rw [List.take_append_drop] at this
  omega
theorem lenS_rep (a : List Str) : ∀ n : Nat, lenS (List.replicate n a).flatten = n * lenS a ∧ (List.replicate n a).flatten.length = n * a.length
  | 0 => by simp [lenS]
  | n + 1 => by
    obtain ⟨h1, h2⟩ := lenS_rep a n
    rw [List.replicate_succ, List.flatten_cons, lenS_app, List.length_append, h1, h2, Nat.add_mul, Nat.add_mul]
    omega
def cutL (xs : List Str) (lo hi : Option Int) : List Str := (xs.drop (HT.sIx xs.length 0 lo)).take (HT.sIx xs.length xs.length hi - HT.sIx xs.length 0 lo)
theorem cut_strs (xs : List Str) (lo hi : Option Int) : Den.cutD (xs.map D.str) lo hi = (cutL xs lo hi).map D.str := by
  unfold Den.cutD cutL
  rw [List.length_map, ← List.map_drop, ← List.map_take]
theorem cutL_mem {xs : List Str} {lo hi : Option Int} {p : Str} (h : p ∈ cutL xs lo hi) : p ∈ xs := List.mem_of_mem_drop (List.mem_of_mem_take h)
theorem cutL_len (xs : List Str) (lo hi : Option Int) : (cutL xs lo hi).length ≤ xs.length ∧ lenS (cutL xs lo hi) ≤ lenS xs := by
  unfold cutL
  refine ⟨?_, Nat.le_trans (lenS_take _ _) (lenS_drop _ _)⟩
  rw [List.length_take, List.length_drop]
  omega
theorem rep_strs (xs : List Str) (n : Nat) : (List.replicate n (xs.map D.str)).flatten = ((List.replicate n xs).flatten).map D.str := by
  rw [List.map_flatten, List.map_replicate]
theorem rep_mem {xs : List Str} {n : Nat} {p : Str} (h : p ∈ (List.replicate n xs).flatten) : p ∈ xs := by
  obtain ⟨l, hl, hp⟩ := List.mem_flatten.mp h
  rw [(List.mem_replicate.mp hl).2] at hp
  exact hp
end Den

namespace Den
open PySem L2
/-! ### 70. unlike data have unlike reprs: tuples, however deep, of some atoms whose reprs are no beginnings of one another -/
def cpsD (d : PyData) : List Nat := d.shown.cps.toList
def Uq (p : PyData → Prop) : Prop := ∀ d e s1 s2, p d → p e → cpsD d ++ s1 = cpsD e ++ s2 → d = e ∧ s1 = s2
def Hd (p : PyData → Prop) : Prop := ∀ d, p d → ∃ c r, cpsD d = c :: r ∧ c ≠ 41
def jn : List PyData → List Nat
  | [] => []
  | [x] => cpsD x
  | x :: y :: r => cpsD x ++ [44, 32] ++ jn (y :: r)
theorem jn_eq : ∀ xs : List PyData, (Str.join ", " (xs.map PyData.shown)).cps.toList = jn xs
  | [] => rfl
  | [x] => rfl
  | x :: y :: r => by
    show (x.shown ++ ((", " : String) : Str) ++ Str.join ", " (y.shown :: r.map PyData.shown)).cps.toList = _
    rw [sig_app, sig_app]
    have := jn_eq (y :: r)
    rw [List.map_cons] at this
    rw [this, show (((", " : String) : Str)).cps.toList = [44, 32] by decide +kernel]
    rfl
theorem cps_tup (xs : List PyData) : cpsD (.tuple xs) = 40 :: (jn xs ++ if xs.length = 1 then [44, 41] else [41]) := by
  have e : PyData.shown (.tuple xs) = ("(" : Str) ++ Str.join ", " (xs.map PyData.shown) ++ (if (xs.map PyData.shown).length == 1 then ",)" else ")" : String) := by
    unfold PyData.shown
    rw [shownAll_map]; rfl
  unfold cpsD
  rw [e, sig_app, sig_app, jn_eq, List.length_map, show ((("(" : String) : Str)).cps.toList = [40] by decide +kernel]
  by_cases h : xs.length = 1
  · rw [if_pos h, h]
    show [40] ++ jn xs ++ (((",)" : String) : Str)).cps.toList = _
    rw [show (((",)" : String) : Str)).cps.toList = [44, 41] by decide +kernel]
    rfl
  · rw [if_neg h, show (xs.length == 1) = false from beq_false_of_ne h]
    show [40] ++ jn xs ++ (((")" : String) : Str)).cps.toList = _
    rw [show (((")" : String) : Str)).cps.toList = [41] by decide +kernel]
    rfl
theorem jn_uq {p : PyData → Prop} (u : Uq p) : ∀ (ys zs : List PyData) (s1 s2 : List Nat), ys ≠ [] → zs ≠ [] → (∀ x ∈ ys, p x) → (∀ x ∈ zs, p x) → jn ys ++ 41 :: s1 = jn zs ++ 41 :: s2 → ys = zs ∧ s1 = s2
  | [], _, _, _, h, _, _, _, _ => absurd rfl h
  | _ :: _, [], _, _, _, h, _, _, _ => absurd rfl h
  | [y], [z], s1, s2, _, _, hy, hz, e => by
    obtain ⟨rfl, e2⟩ := u _ _ _ _ (hy y (by simp)) (hz z (by simp)) e
    injection e2 with _ e2
    exact ⟨rfl, e2⟩
  | [y], z :: z' :: r, s1, s2, _, _, hy, hz, e => by
    have e' : cpsD y ++ 41 :: s1 = cpsD z ++ (44 :: 32 :: (jn (z' :: r) ++ 41 :: s2)) := by
      rw [show jn (z :: z' :: r) = cpsD z ++ [44, 32] ++ jn (z' :: r) from rfl, show jn [y] = cpsD y from rfl] at e
      simpa using e
    obtain ⟨rfl, e2⟩ := u _ _ _ _ (hy y (by simp)) (hz z (by simp)) e'
    cases e2
  | y :: y' :: q, [z], s1, s2, _, _, hy, hz, e => by
    have e' : cpsD y ++ (44 :: 32 :: (jn (y' :: q) ++ 41 :: s1)) = cpsD z ++ 41 :: s2 := by
      rw [show jn (y :: y' :: q) = cpsD y ++ [44, 32] ++ jn (y' :: q) from rfl, show jn [z] = cpsD z from rfl] at e
      simpa using e
    obtain ⟨rfl, e2⟩ := u _ _ _ _ (hy y (by simp)) (hz z (by simp)) e'
    cases e2
  | y :: y' :: q, z :: z' :: r, s1, s2, _, _, hy, hz, e => by
    have e' : cpsD y ++ (44 :: 32 :: (jn (y' :: q) ++ 41 :: s1)) = cpsD z ++ (44 :: 32 :: (jn (z' :: r) ++ 41 :: s2)) := by
      rw [show jn (y :: y' :: q) = cpsD y ++ [44, 32] ++ jn (y' :: q) from rfl, show jn (z :: z' :: r) = cpsD z ++ [44, 32] ++ jn (z' :: r) from rfl] at e
      simpa using e
    obtain ⟨rfl, e2⟩ := u _ _ _ _ (hy y (by simp)) (hz z (by simp)) e'
    injection e2 with _ e2
    injection e2 with _ e2
    obtain ⟨e3, e4⟩ := jn_uq u (y' :: q) (z' :: r) s1 s2 (by simp) (by simp) (fun x hx => hy x (List.mem_cons_of_mem _ hx)) (fun x hx => hz x (List.mem_cons_of_mem _ hx)) e2
    exact ⟨by rw [e3], e4⟩
theorem tup_uq {p : PyData → Prop} (u : Uq p) (hd : Hd p) : ∀ (xs zs : List PyData) (s1 s2 : List Nat), (∀ x ∈ xs, p x) → (∀ x ∈ zs, p x) → cpsD (.tuple xs) ++ s1 = cpsD (.tuple zs) ++ s2 → xs = zs ∧ s1 = s2 := by
  intro xs zs s1 s2 hx hz e
  rw [cps_tup, cps_tup] at e
  injection e with _ e
  match xs, zs, hx, hz, e with
  | [], [], _, _, e =>
    simp [jn] at e
    exact ⟨rfl, e⟩
  | [], [z], _, hz, e =>
    obtain ⟨c, r, h1, h2⟩ := hd z (hz z (by simp))
    simp [jn, h1] at e
    exact absurd e.1.symm h2
  | [], z :: z' :: q, _, hz, e =>
    obtain ⟨c, r, h1, h2⟩ := hd z (hz z (by simp))
    simp [jn, h1] at e
    exact absurd e.1.symm h2
  | [x], [], hx, _, e =>
    obtain ⟨c, r, h1, h2⟩ := hd x (hx x (by simp))
    simp [jn, h1] at e
    exact absurd e.1 h2
  | x :: x' :: q, [], hx, _, e =>
    obtain ⟨c, r, h1, h2⟩ := hd x (hx x (by simp))
    simp [jn, h1] at e
    exact absurd e.1 h2
  | [x], [z], hx, hz, e =>
    have e' : cpsD x ++ (44 :: 41 :: s1) = cpsD z ++ (44 :: 41 :: s2) := by simpa [jn] using e
    obtain ⟨rfl, e2⟩ := u _ _ _ _ (hx x (by simp)) (hz z (by simp)) e'
    injection e2 with _ e2
    injection e2 with _ e2
    exact ⟨rfl, e2⟩
  | [x], z :: z' :: q, hx, hz, e =>
    have e' : cpsD x ++ (44 :: 41 :: s1) = cpsD z ++ (44 :: 32 :: (jn (z' :: q) ++ 41 :: s2)) := by simpa [jn] using e
    obtain ⟨rfl, e2⟩ := u _ _ _ _ (hx x (by simp)) (hz z (by simp)) e'
    cases e2
  | x :: x' :: q, [z], hx, hz, e =>
    have e' : cpsD x ++ (44 :: 32 :: (jn (x' :: q) ++ 41 :: s1)) = cpsD z ++ (44 :: 41 :: s2) := by simpa [jn] using e
    obtain ⟨rfl, e2⟩ := u _ _ _ _ (hx x (by simp)) (hz z (by simp)) e'
    cases e2
  | x :: x' :: q, z :: z' :: r, hx, hz, e =>
    refine jn_uq u _ _ _ _ (by simp) (by simp) hx hz ?_
    simpa using e
/-- tuples over A, n deep -/
def Dat (A : List PyData) : Nat → PyData → Prop
  | 0, d => d ∈ A
  | n + 1, d => d ∈ A ∨ ∃ xs, d = .tuple xs ∧ ∀ x ∈ xs, Dat A n x
/-- the atoms' reprs: none is a beginning of another one, none begins with a bracket -/
def atomsB : List (List Nat) → Bool
  | [] => true
  | a :: r => r.all (fun b => !a.isPrefixOf b && !b.isPrefixOf a) && (match a with | c :: _ => !(c == 40) && !(c == 41) | [] => false) && atomsB r
theorem pre_of {a b s1 s2 : List Nat} (e : a ++ s1 = b ++ s2) : a.isPrefixOf b = true ∨ b.isPrefixOf a = true := by
  rw [List.isPrefixOf_iff_prefix, List.isPrefixOf_iff_prefix]
  exact List.prefix_or_prefix_of_prefix (List.prefix_append a s1) (by rw [e]; exact List.prefix_append b s2)
theorem atoms_uq : ∀ {A : List PyData}, atomsB (A.map cpsD) = true → Uq (· ∈ A) ∧ ∀ d ∈ A, ∃ c r, cpsD d = c :: r ∧ c ≠ 40 ∧ c ≠ 41
  | [], _ => ⟨fun _ _ _ _ h => (nomatch h), fun _ h => (nomatch h)⟩
  | a :: A, h => by
    unfold atomsB at h
    simp only [List.map_cons, Bool.and_eq_true] at h
    obtain ⟨⟨h1, h2⟩, h3⟩ := h
    obtain ⟨u, f⟩ := atoms_uq h3
    have np : ∀ b ∈ A, ∀ s1 s2, cpsD a ++ s1 = cpsD b ++ s2 → False := fun b hb s1 s2 e => by
      have := List.all_eq_true.mp h1 (cpsD b) (List.mem_map.mpr ⟨b, hb, rfl⟩)
      simp only [Bool.and_eq_true, Bool.not_eq_true'] at this
      rcases pre_of e with q | q
      · rw [this.1] at q; cases q
      · rw [this.2] at q; cases q
    refine ⟨fun d e s1 s2 hd he q => ?_, fun d hd => ?_⟩
    · rcases List.mem_cons.mp hd with e1 | hd2
      · rcases List.mem_cons.mp he with e2 | he2
        · subst e1; subst e2
          exact ⟨rfl, List.append_cancel_left q⟩
        · subst e1
          exact (np _ he2 _ _ q).elim
      · rcases List.mem_cons.mp he with e2 | he2
        · subst e2
          exact (np _ hd2 _ _ q.symm).elim
        · exact u _ _ _ _ hd2 he2 q
    · rcases List.mem_cons.mp hd with rfl | hd
      · split at h2
        · rename_i c r e
          simp only [Bool.and_eq_true, Bool.not_eq_true', beq_eq_false_iff_ne] at h2
          exact ⟨c, r, e, h2.1, h2.2⟩
        · cases h2
      · exact f d hd
theorem dat_uq {A : List PyData} (h : atomsB (A.map cpsD) = true) : ∀ n, Uq (Dat A n) ∧ Hd (Dat A n)
  | 0 => by
    obtain ⟨u, f⟩ := atoms_uq h
    exact ⟨u, fun d hd => by obtain ⟨c, r, e, _, q⟩ := f d hd; exact ⟨c, r, e, q⟩⟩
  | n + 1 => by
    obtain ⟨u0, f0⟩ := atoms_uq h
    obtain ⟨u, hd⟩ := dat_uq h n
    refine ⟨fun d e s1 s2 h1 h2 q => ?_, fun d h1 => ?_⟩
    · rcases h1 with h1 | ⟨xs, rfl, h1⟩
      · rcases h2 with h2 | ⟨zs, rfl, h2⟩
        · exact u0 _ _ _ _ h1 h2 q
        · obtain ⟨c, r, e1, e2, _⟩ := f0 d h1
          rw [e1, cps_tup] at q
          injection q with q _
          exact absurd q e2
      · rcases h2 with h2 | ⟨zs, rfl, h2⟩
        · obtain ⟨c, r, e1, e2, _⟩ := f0 e h2
          rw [e1, cps_tup] at q
          injection q with q _
          exact absurd q.symm e2
        · obtain ⟨r1, r2⟩ := tup_uq u hd xs zs s1 s2 h1 h2 q
          exact ⟨by rw [r1], r2⟩
    · rcases h1 with h1 | ⟨xs, rfl, h1⟩
      · obtain ⟨c, r, e, _, q⟩ := f0 d h1; exact ⟨c, r, e, q⟩
      · exact ⟨_, _, cps_tup xs, by decide⟩
/-- THE RULE: equal reprs, equal data -/
theorem shown_inj {A : List PyData} (h : atomsB (A.map cpsD) = true) {n : Nat} {d e : PyData} (hd : Dat A n d) (he : Dat A n e) (q : d.shown = e.shown) : d = e := by
  refine ((dat_uq h n).1 d e [] [] hd he ?_).1
  unfold cpsD
  rw [q]
end Den

namespace Den
open PySem L2
/-! ### 80. comprehensions without a test: as many items -/
def TurnK (g : DG) (e : DE) (w : List (Option D)) (J : List D → List Ob → Prop) (d : D) (acc : List D) (h : List Ob) : Prop := ∃ S0, g d ⟨w, h⟩ = some S0 ∧ Ok (e S0) fun y S3 => J (acc ++ [y]) S3.h
theorem comp_K {vs : List Nat} {it : DS → Res Iter0} {g : DG} {e : DE} {S S1 : DS} {I : Iter0} {xs : List D} (J : List D → List Ob → Prop) (hi : it S = .ok I S1) (ov : ∀ acc h, J acc h → Over I xs h) (hl : xs.length < 100000) (j0 : J [] S1.h) (p : ∀ d ∈ xs, ∀ acc h, J acc h → TurnK g e (wipeD S1.loc vs) J d acc h) :
    ∃ acc h2, dComp vs it g tTrue e S = .ok (.ref h2.length) ⟨S1.loc, h2 ++ [.lst acc]⟩ ∧ J acc h2 ∧ acc.length = xs.length := by
  have step : ∀ d ∈ xs, ∀ acc h, J acc h → acc.length < 1000000 → ∃ S0 acc2 S2, g d ⟨wipeD S1.loc vs, h⟩ = some S0 ∧ compT tTrue e S0 acc = .ok acc2 S2 ∧ J acc2 S2.h ∧ acc2.length = acc.length + 1 := fun d hd acc h j l => by
    obtain ⟨S0, h1, h3⟩ := p d hd acc h j
    obtain ⟨y, S3, e2, j2⟩ := h3.ex
    refine ⟨S0, acc ++ [y], S3, h1, ?_, j2, by simp⟩
    unfold compT tTrue
    rw [Res.only_ok, if_pos rfl, e2, Res.only_ok, mxL_eq, if_pos l]
  cases I with
  | vals ys =>
    obtain rfl : ys = xs := ov _ _ j0
    have go : ∀ (zs acc : List D) (h : List Ob), (∀ z ∈ zs, z ∈ ys) → acc.length + zs.length ≤ 1000000 → J acc h → ∃ acc2 h2, compV g tTrue e (wipeD S1.loc vs) zs acc h = .ok acc2 ⟨wipeD S1.loc vs, h2⟩ ∧ J acc2 h2 ∧ acc2.length = acc.length + zs.length := by
      intro zs
      induction zs with
      | nil => exact fun acc h _ _ j => ⟨acc, h, rfl, j, by simp⟩
      | cons z zs ih =>
        intro acc h hz l j
        simp only [List.length_cons] at l
        obtain ⟨S0, acc2, S2, h1, h2, j2, l2⟩ := step z (hz z (by simp)) acc h j (by omega)
        obtain ⟨acc3, h3, e3, j3, l3⟩ := ih acc2 S2.h (fun w hw => hz w (List.mem_cons_of_mem _ hw)) (by omega) j2
        refine ⟨acc3, h3, ?_, j3, by simp; omega⟩
        unfold compV
        rw [h1]
        dsimp only
        rw [h2, Res.only_ok]
        exact e3
    obtain ⟨acc, h2, e2, j, l⟩ := go ys [] S1.h (fun _ h => h) (by simp; omega) j0
    refine ⟨acc, h2, ?_, j, by simpa using l⟩
    unfold dComp
    rw [hi, Res.bind_ok]
    dsimp only
    rw [e2]
    rfl
  | dyn it2 =>
    have go : ∀ (k i : Nat) (acc : List D) (h : List Ob), xs.length < i + k → i ≤ xs.length → acc.length + (xs.length - i) ≤ 1000000 → J acc h → ∃ acc2 h2, compO it2 g tTrue e (wipeD S1.loc vs) k i acc h = .ok acc2 ⟨wipeD S1.loc vs, h2⟩ ∧ J acc2 h2 ∧ acc2.length = acc.length + (xs.length - i) := by
      intro k
      induction k with
      | zero => intro i acc h h1 h2; omega
      | succ k ih =>
        intro i acc h hk hi' hl' j
        by_cases lt : i < xs.length
        · obtain ⟨S0, acc2, S2, h1, h2, j2, l2⟩ := step xs[i] (List.getElem_mem lt) acc h j (by omega)
          obtain ⟨acc3, h3, e3, j3, l3⟩ := ih (i + 1) acc2 S2.h (by omega) (by omega) (by omega) j2
          refine ⟨acc3, h3, ?_, j3, by omega⟩
          unfold compO
          rw [ov acc h j i, List.getElem?_eq_getElem lt]
          dsimp only
          rw [h1]
          dsimp only
          rw [h2, Res.only_ok]
          exact e3
        · refine ⟨acc, h, ?_, j, by omega⟩
          unfold compO
          rw [ov acc h j i, List.getElem?_eq_none (by omega)]
    obtain ⟨acc, h2, e2, j, l⟩ := go 100000 0 [] S1.h (by omega) (by omega) (by simp; omega) j0
    refine ⟨acc, h2, ?_, j, by simpa using l⟩
    unfold dComp
    rw [hi, Res.bind_ok]
    dsimp only
    rw [e2]
    rfl
theorem comp_F {vs : List Nat} {it : DS → Res Iter0} {g : DG} {e : DE} {S S1 : DS} {I : Iter0} {xs : List D} (f : D → D) (P : List Ob → Prop) (hi : it S = .ok I S1) (ov : ∀ h, P h → Over I xs h) (hl : xs.length < 100000) (j0 : P S1.h) (p : ∀ d ∈ xs, ∀ h, P h → ∃ S0, g d ⟨wipeD S1.loc vs, h⟩ = some S0 ∧ Ok (e S0) fun y S3 => y = f d ∧ P S3.h) :
    ∃ h2, dComp vs it g tTrue e S = .ok (.ref h2.length) ⟨S1.loc, h2 ++ [.lst (xs.map f)]⟩ ∧ P h2 := by
  have step : ∀ d ∈ xs, ∀ (acc : List D) h, P h → acc.length < 1000000 → ∃ S0 S2, g d ⟨wipeD S1.loc vs, h⟩ = some S0 ∧ compT tTrue e S0 acc = .ok (acc ++ [f d]) S2 ∧ P S2.h := fun d hd acc h j l => by
    obtain ⟨S0, h1, h3⟩ := p d hd h j
    obtain ⟨y, S3, e2, rfl, j2⟩ := h3.ex
    refine ⟨S0, S3, h1, ?_, j2⟩
    unfold compT tTrue
    rw [Res.only_ok, if_pos rfl, e2, Res.only_ok, mxL_eq, if_pos l]
  cases I with
  | vals ys =>
    obtain rfl : ys = xs := ov _ j0
    have go : ∀ (zs acc : List D) (h : List Ob), (∀ z ∈ zs, z ∈ ys) → acc.length + zs.length ≤ 1000000 → P h → ∃ h2, compV g tTrue e (wipeD S1.loc vs) zs acc h = .ok (acc ++ zs.map f) ⟨wipeD S1.loc vs, h2⟩ ∧ P h2 := by
      intro zs
      induction zs with
      | nil => exact fun acc h _ _ j => ⟨h, by simp [compV], j⟩
      | cons z zs ih =>
        intro acc h hz l j
        simp only [List.length_cons] at l
        obtain ⟨S0, S2, h1, h2, j2⟩ := step z (hz z (by simp)) acc h j (by omega)
        obtain ⟨h3, e3, j3⟩ := ih (acc ++ [f z]) S2.h (fun w hw => hz w (List.mem_cons_of_mem _ hw)) (by simp; omega) j2
        refine ⟨h3, ?_, j3⟩
        unfold compV
        rw [h1]
        dsimp only
        rw [h2, Res.only_ok, e3]
        simp
    obtain ⟨h2, e2, j⟩ := go ys [] S1.h (fun _ h => h) (by simp; omega) j0
    refine ⟨h2, ?_, j⟩
    unfold dComp
    rw [hi, Res.bind_ok]
    dsimp only
    rw [e2]
    rfl
  | dyn it2 =>
    have go : ∀ (k i : Nat) (acc : List D) (h : List Ob), xs.length < i + k → i ≤ xs.length → acc.length + (xs.length - i) ≤ 1000000 → P h → ∃ h2, compO it2 g tTrue e (wipeD S1.loc vs) k i acc h = .ok (acc ++ (xs.drop i).map f) ⟨wipeD S1.loc vs, h2⟩ ∧ P h2 := by
      intro k
      induction k with
      | zero => intro i acc h h1 h2; omega
      | succ k ih =>
        intro i acc h hk hi' hl' j
        by_cases lt : i < xs.length
        · obtain ⟨S0, S2, h1, h2, j2⟩ := step xs[i] (List.getElem_mem lt) acc h j (by omega)
          obtain ⟨h3, e3, j3⟩ := ih (i + 1) (acc ++ [f xs[i]]) S2.h (by omega) (by omega) (by simp; omega) j2
          refine ⟨h3, ?_, j3⟩
          unfold compO
          rw [ov h j i, List.getElem?_eq_getElem lt]
          dsimp only
          rw [h1]
          dsimp only
          rw [h2, Res.only_ok, e3, List.drop_eq_getElem_cons lt, List.map_cons, List.append_assoc]
          rfl
        · refine ⟨h, ?_, j⟩
          unfold compO
          rw [ov h j i, List.getElem?_eq_none (by omega), List.drop_eq_nil_iff.mpr (by omega)]
          simp
    obtain ⟨h2, e2, j⟩ := go 100000 0 [] S1.h (by omega) (by omega) (by simp; omega) j0
    refine ⟨h2, ?_, j⟩
    unfold dComp
    rw [hi, Res.bind_ok]
    dsimp only
    rw [e2]
    rfl
/-! ### 81. plain signs: the repr of a text -/
def Asc (x : Str) : Prop := ∀ c ∈ x.cps.toList, c < 128
def ascB (x : Str) : Bool := x.cps.toList.all (fun c => decide (c < 128))
theorem asc_of {x : Str} (h : ascB x = true) : Asc x := fun c hc => of_decide_eq_true (List.all_eq_true.mp h c hc)
theorem Asc.good {x : Str} (a : Asc x) : Good x := fun c hc => by have := a c hc; omega
theorem Asc.app {x y : Str} (a : Asc x) (b : Asc y) : Asc (x ++ y) := fun c hc => by
  rw [sig_app] at hc
  rcases List.mem_append.mp hc with h | h
  · exact a c h
  · exact b c h
theorem asc_join {y : Str} (gy : Asc y) : ∀ {ps : List Str}, (∀ p ∈ ps, Asc p) → Asc (Str.join y ps)
  | [], _ => fun c hc => by cases hc
  | [p], h => h p (by simp)
  | p :: q :: r, h => ((h p (by simp)).app gy).app (asc_join gy fun z hz => h z (List.mem_cons_of_mem _ hz))
def rcB (q c : Nat) : Bool := (Builtin.Str.reprChar q c).all (fun d => decide (d < 256)) && decide ((Builtin.Str.reprChar q c).length ≤ 4)
theorem rc_all : ((List.range 128).all fun c => rcB 39 c && rcB 34 c) = true := by decide +kernel
theorem foldl_rep (q : Nat) : ∀ (l : List Nat) (acc : Array Nat), (l.foldl (fun out c => out ++ (Builtin.Str.reprChar q c).toArray) acc).toList = acc.toList ++ (l.map (Builtin.Str.reprChar q)).flatten
  | [], acc => by simp
  | c :: l, acc => by
    rw [List.foldl_cons, foldl_rep q l, Array.toList_append, List.map_cons, List.flatten_cons, List.append_assoc]
theorem quote_of (x : Str) : PySem.reprQuote x = 39 ∨ PySem.reprQuote x = 34 := by
  unfold PySem.reprQuote
  split
  · exact .inr rfl
  · exact .inl rfl
theorem repr_cps (x : Str) : (PySem.reprText x).cps.toList = PySem.reprQuote x :: ((x.cps.toList.map (Builtin.Str.reprChar (PySem.reprQuote x))).flatten ++ [PySem.reprQuote x]) := by
  unfold PySem.reprText
  rw [Array.toList_push, ← Array.foldl_toList, foldl_rep]
  simp
theorem sm_str {x : Str} (a : Asc x) : Sm (.str x) (4 * x.length + 2) 0 := by
  have q := quote_of x
  have each : ∀ c ∈ x.cps.toList, (∀ d ∈ Builtin.Str.reprChar (PySem.reprQuote x) c, d < 256) ∧ (Builtin.Str.reprChar (PySem.reprQuote x) c).length ≤ 4 := fun c hc => by
    have := List.all_eq_true.mp rc_all c (List.mem_range.mpr (a c hc))
    rw [Bool.and_eq_true] at this
    have hb : rcB (PySem.reprQuote x) c = true := by
      rcases q with q | q
      · rw [q]; exact this.1
      · rw [q]; exact this.2
    unfold rcB at hb
    rw [Bool.and_eq_true] at hb
    exact ⟨fun d hd => of_decide_eq_true (List.all_eq_true.mp hb.1 d hd), of_decide_eq_true hb.2⟩
  refine ⟨by unfold PyData.showable; rfl, by unfold PyData.hasDict; rfl, by unfold PyData.depth; omega, ?_, ?_⟩
  · show (PyData.shown (.str x)).cps.size ≤ _
    rw [← Array.length_toList]
    unfold PyData.shown
    rw [repr_cps]
    have hl : ∀ l : List Nat, (∀ c ∈ l, (Builtin.Str.reprChar (PySem.reprQuote x) c).length ≤ 4) → (l.map (Builtin.Str.reprChar (PySem.reprQuote x))).flatten.length ≤ 4 * l.length := by
      intro l
      induction l with
      | nil => intro _; simp
      | cons c l ih =>
        intro h
        rw [List.map_cons, List.flatten_cons, List.length_append, List.length_cons]
        have h1 := h c (by simp)
        have h2 := ih fun z hz => h z (List.mem_cons_of_mem _ hz)
        omega
    have h1 := hl x.cps.toList fun c hc => (each c hc).2
    rw [List.length_cons, List.length_append, List.length_singleton]
    have e : x.cps.toList.length = x.length := Array.length_toList
    rw [e] at h1
    omega
  · intro c hc
    unfold PyData.shown at hc
    rw [repr_cps] at hc
    rcases List.mem_cons.mp hc with e | hc
    · rw [e]; rcases q with q | q <;> rw [q] <;> decide
    rcases List.mem_append.mp hc with hc | hc
    · obtain ⟨l, hl, hcl⟩ := List.mem_flatten.mp hc
      obtain ⟨b, hb, rfl⟩ := List.mem_map.mp hl
      exact (each b hb).1 c hcl
    · rw [List.mem_singleton.mp hc]; rcases q with q | q <;> rw [q] <;> decide
end Den

namespace Den
open PySem L2
/-! ### 90. a < b of alike data -/
def notNone : PyData → Bool
  | .none => false
  | _ => true
def oLtA : D → D → DS → Res D := fun x y S => match pyD S x, pyD S y with
  | some p, some q => if PySem.W.alike p q && notNone p && decide (p.depth ≤ 64) then .ok (.bl (PySem.W.dataLt p q)) S else .stuck
  | _, _ => .stuck
def rLtD (K : PySem.W.Frag) : R2 := fun x y H Q => ∃ p q, Dp K H x p ∧ Dp K H y q ∧ PySem.W.alike p q = true ∧ notNone p = true ∧ p.depth ≤ 64 ∧ Q (.bl (PySem.W.dataLt p q)) H
section
variable {prog : Program} {w : World} {A : Around} {E : Value → Shared → Prop} {s : Shared}
theorem enum_endT {e it l : Addr} {i : Nat} {c : Int} {items : Array Value} {old : Value} {Q : Option Value → Shared → Prop} (hh : A.handled = none)
    (he : IsEnum s.heap e it c old) (hit : s.heap.IsTupleIter it l i) (hl : s.heap.IsTuple l items) (hx : items[i]? = none)
    (hQ : ∀ h', Heap.ExtBut it s.heap h' → Q none { s with heap := h' }) : wpAny (model prog w) A (pyNext (.ref e)) Q E s := by
  have hT : s.TypeIs (.ref e) "enumerate" := ⟨_, he, rfl⟩
  unfold pyNext
  refine wpAny_bind (wpAny_attempt (wpAny_callSpecial?_slot (name := Str.ofString "__next__") hT F.slot_enumerate_next
    (wpAny_call_entry F.slot_enumerate_next hT F.entry_enumerate_next ?_ (F.args_enumerate_next_1 _))))
  show wpAny _ _ (field (.ref e) 2 >>= _) _ _ _
  refine wpAny_bind (wpAny_field he rfl (x := .ref it) rfl ?_)
  refine wpAny_bind (wpAny_nextOf_tuple_end hh hit hl hx fun h' x he' hx' => ?_)
  obtain ⟨o, ho, hc⟩ := hx'
  refine wpAny_bind (wpAny_isInstance (T := "StopIteration") (b := true) ⟨o, ho, hc⟩ isSubtype_stop ?_)
  exact wpAny_pure (hQ _ he')
set_option maxHeartbeats 1000000 in
theorem meets_enum1 {v : Value} {o : Obj} {H : Heap → Prop} (B : Begins v o H) :
    Meets (Builtin.«enumerate.__new__» ⟨[.type "enumerate", v], []⟩) (fun _ R s => H s.heap ∧
      R (.ok (.ret (.ref (s.heap.push o).objs.size))) { s with heap := (s.heap.push o).push { cls := .type "enumerate", data := .fields #[.none, .bool false, .ref s.heap.objs.size, rawInt 0, .none, .none] } }) :=
  .of_wp fun prog w A R s h => by
    obtain ⟨hp, g, d, tk, os⟩ := s; obtain ⟨h1, h⟩ := h
    have hsub := sub_enumerate
    have q1 : ∀ {A' : Around} {E : Value → Shared → Prop} {Q : Value → Shared → Prop}, Q (.ref hp.objs.size) ⟨hp.push o, g, d, tk, os⟩ → wpAny (model prog w) A' (pyIter v) Q E ⟨hp, g, d, tk, os⟩ :=
      fun q => B.iter prog w _ _ ⟨hp, g, d, tk, os⟩ _ h1 q
    wp_walk using q1
    refine wpAny_stack_any fun st => wpAny_pure ?_
    split
    · rename_i c _ _ _ _ _
      cases (c == Value.type "enumerate")
      · wp_walk using q1
        exact ⟨_, rfl, h⟩
      · wp_walk using q1
        exact ⟨_, rfl, h⟩
    · wp_walk using q1
      exact ⟨_, rfl, h⟩
theorem enum_begins1 {v : Value} {o : Obj} {H : Heap → Prop} {Q : Value → Shared → Prop} (B : Begins v o H) (h1 : H s.heap)
    (h : ∀ h', IsEnum h' (s.heap.objs.size + 1) s.heap.objs.size 0 .none → h'.get? s.heap.objs.size = some o → h'.objs.size = s.heap.objs.size + 2 →
      (∀ b o, s.heap.get? b = some o → h'.get? b = some o) → Q (.ref (s.heap.objs.size + 1)) { s with heap := h' }) :
    wpAny (model prog w) A (call (.type "enumerate") [v]) Q E s := by
  refine callType_new F.called_enumerate (by decide) (F.typeCall_enumerate_1 _) (F.newCall_enumerate_1 _) (fun obj => F.args_object_init_2 obj _) F.entry_enumerate_new
    (meets_enum1 B) ⟨h1, ?_⟩
  have hz : (s.heap.push o).objs.size = s.heap.objs.size + 1 := Heap.size_push ..
  show _ ∧ _
  rw [hz]
  have he : IsEnum ((s.heap.push o).push { cls := .type "enumerate", data := .fields #[.none, .bool false, .ref s.heap.objs.size, rawInt 0, .none, .none] }) (s.heap.objs.size + 1) s.heap.objs.size 0 .none := by
    have := Heap.get?_push_size (s.heap.push o) (o := { cls := .type "enumerate", data := .fields #[.none, .bool false, .ref s.heap.objs.size, rawInt 0, .none, .none] }) rfl
    rw [hz] at this; exact this
  refine ⟨⟨_, he, rfl⟩, h _ he (Heap.get?_push_of_some _ (Heap.get?_push_size _ B.free)) (by rw [Heap.size_push, hz]) fun b o x => Heap.get?_push_of_some _ (Heap.get?_push_of_some _ x)⟩
end
section
variable {X : Cx} {cm : Str → Value} {W : WX} {e e1 e2 a b : Expr} {p pos tpos : Pos} {fa fb : DE} {ga : DA} {K : PySem.W.Frag} {L : List Addr} {H : Hp} {S : DS} {σ : L2.St}
theorem op_ltA (hu : X.A.units + 64 < cLine) : OpR X (compareOp .Lt) (rLtD X.K) := by
  intro pins s σ H x y v u Q I rx ry h
  obtain ⟨d, q, hd, he, al, nn, dp, hq⟩ := h
  obtain ⟨as, r1⟩ := Dp.reads I d x v hd rx
  obtain ⟨bs, r2⟩ := Dp.reads I q y u he ry
  have h1 : min d.depth q.depth ≤ d.depth := Nat.min_le_left _ _
  exact PySem.W.lt_data r1 r2 al (fun z => by rw [z] at nn; cases nn) (by omega) ⟨.bl _, H, I, rfl, hq⟩
theorem ro_ltA : ROp X cm W (rLtD X.K) oLtA := by
  intro L H S σ x y d e Q a r1 r2 q
  unfold oLtA at q
  split at q
  · rename_i p1 p2 h1 h2
    split at q
    · rename_i h
      simp only [Bool.and_eq_true, decide_eq_true_eq] at h
      exact ⟨_, _, pyD_rep a r1 h1, pyD_rep a r2 h2, h.1.1, h.1.2, h.2, q.give a (.bl _)⟩
    · exact q.elim
  · exact q.elim
theorem c_ltA {k : Nat} (r : Room k X.A) (ha : PE X a (rdE X.K cm W fa)) (hb : PE X b (rdE X.K cm W fb)) : PE X (.Compare a [.Lt] [b] pos) (rdE X.K cm W (dBin oLtA fa fb)) := e_cmp (op_ltA (hu64 r)) ro_ltA (nomark _) ha hb
theorem t_ltA {k : Nat} (r : Room k X.A) (ha : PE X a (rdE X.K cm W fa)) (hb : PE X b (rdE X.K cm W fb)) : PT X (.Compare a [.Lt] [b] pos) (rdT X.K cm W (tV (dBin oLtA fa fb))) := t_cmp (op_ltA (hu64 r)) ro_ltA (nomark _) ha hb
/-! ### 91. zip of two tuples -/
def zipD (xs ys : List D) : List D := (xs.zip ys).map fun p => .tup [p.1, p.2]
def dZip (a : DA) : DS → Res Iter0 := fun S => (a S).bind fun ds S1 => match ds with
  | [.tup xs, .tup ys] => .ok (.vals (zipD xs ys)) S1
  | _ => .stuck
theorem zipD_get {xs ys : List D} {i : Nat} {d : D} (h : (zipD xs ys)[i]? = some d) : ∃ x y, xs[i]? = some x ∧ ys[i]? = some y ∧ d = .tup [x, y] := by
  unfold zipD at h
  rw [List.getElem?_map] at h
  obtain ⟨p, hp, rfl⟩ := Option.map_eq_some_iff.mp h
  obtain ⟨h1, h2⟩ := List.getElem?_zip_eq_some.mp hp
  exact ⟨_, _, h1, h2, rfl⟩
theorem walk_zipT {xs ys : List D} {vs us : List V} {a b : Addr} (h1 : SqT K H a vs) (r1 : Reps K cm L H xs vs) (h2 : SqT K H b us) (r2 : Reps K cm L H ys us) : Walks0 K cm L H (zipD xs ys) (RZ.ItzT K a b) :=
  ⟨fun L' H' i d e h => by
    obtain ⟨x, y, hx, hy, rfl⟩ := zipD_get h
    obtain ⟨v, hv, rv⟩ := r1.get hx
    obtain ⟨u, hu, ru⟩ := r2.get hy
    refine ⟨⟨vs, us, v, u, e.tup _ _ h1, e.tup _ _ h2, hv, hu⟩, fun z H2 q => ?_⟩
    obtain ⟨T, x0, y0, rfl, hT, rfl, hx0, hy0⟩ := q
    have e1 := hx0 vs (e.tup _ _ h1)
    have e2 := hy0 us (e.tup _ _ h2)
    rw [hv] at e1; cases e1
    rw [hu] at e2; cases e2
    have b := Ext.beside (K := K) (L := L') (o := .tup [v, u]) hT
    exact ⟨b, fun h' x => x.beside hT, .tup (.inl (.inl upd_same)) (.cons ((rv.mono e).mono b) (.cons ((ru.mono e).mono b) .nil))⟩,
  fun L' H' e => by
    refine ⟨vs, us, e.tup _ _ h1, e.tup _ _ h2, ?_⟩
    unfold zipD
    rw [List.length_map, List.length_zip, r1.length, r2.length]
    omega⟩
theorem i_zip {tg1 : List Expr} {kk : Nat} (hg : Gl X "zip") (hm : X.mg "zip" = none) (ha : PA X [a, b] (rdA X.K cm W ga)) (hs : starEach [a, b] X.env = (false, eval a X.env) :: starEach [b] X.env := by rfl) (hpl : (backTo pos (starEach [b] X.env)).any (·.1) = false := by rfl) :
    PI X (.Tuple tg1 kk tpos) (.Call (.Name "zip" p) [a, b] [] pos) (rdI X.K cm W (dZip ga)) := weakI (RZ.pi_zipA hg hm ha hs hpl) fun σ H R q => by
  obtain ⟨L, S, a, q⟩ := q
  refine ⟨L, S, a, (Aft.step (R := Reps X.K cm) q).mono fun v H1 z => ?_⟩
  obtain ⟨L1, S1, ds, e1, x1, r1, q1⟩ := z
  split at q1
  · cases r1 with
    | cons r1 r2 =>
      cases r2 with
      | cons r2 r3 =>
        cases r3
        cases r1 with
        | tup h1 r1 =>
          cases r2 with
          | tup h2 r2 => exact ⟨_, _, _, _, rfl, .inr ⟨h1, h2, q1.give x1 (walk_zipT h1 r1 h2 r2)⟩⟩
  · exact q1.elim
/-! ### 92. enumerate of a tuple -/
def numD (k : Int) (xs : List D) : List D := xs.mapIdx fun i d => .tup [.int (k + (i : Nat)), d]
def dEnumT (a : DA) : DS → Res Iter0 := fun S => (a S).bind fun ds S1 => match ds with
  | [.tup xs] => .ok (.vals (numD 0 xs)) S1
  | _ => .stuck
def IteT (K : PySem.W.Frag) (a : Addr) (k : Int) : It :=
  ⟨fun i H => ∃ (xs : List V) (x : V), SqT K H a xs ∧ xs[i]? = some x, fun i H v H' => ∃ T x, v = .ref T ∧ H T = none ∧ H' = upd H T (.tup [.int (k + (i : Nat)), x]) ∧ ∀ xs, SqT K H a xs → xs[i]? = some x, fun i H => ∃ xs : List V, SqT K H a xs ∧ xs.length ≤ i⟩
theorem turn_enumT {P : Program} {w : World} {K : PySem.W.Frag} {elts : List Expr} {kk : Nat} {tpos : Pos} (a e it : Addr) (k : Int) :
    Turn P w K (.Tuple elts kk tpos) (IteT K a k) [e, it] e (fun i h => (∃ old, IsEnum h e it (k + ((i : Nat) : Int)) old) ∧ h.IsTupleIter it a i ∧ e ≠ it) where
  mem := by simp
  obj := fun i h st b hb => by
    obtain ⟨⟨old, he⟩, ⟨o, ho, hc, hd⟩, _⟩ := st
    have e' : b = e ∨ b = it := by simpa using hb
    rcases e' with z | z
    · rw [z]; exact ⟨_, he, fun v q => nomatch q⟩
    · rw [z]; exact ⟨o, ho, fun v q => by rw [hd] at q; cases q⟩
  keep := fun i h h' st k => let ⟨⟨old, he⟩, hi, hne⟩ := st; ⟨⟨old, k e (by simp) _ he⟩, hi.at fun o q => k it (by simp) o q, hne⟩
  item := by
    intro X hP hw hK hc i pins s σ H E I hf st hg
    subst hP hw hK
    obtain ⟨⟨old, he⟩, hit, hne⟩ := st
    obtain ⟨xs, x, hq, hx⟩ := hg
    obtain ⟨its, rv, p, hz⟩ := I.tuple hq
    obtain ⟨u, hu, ru⟩ := rv.get hx
    have pT : s.heap.IsTuple a its.toArray := p
    have hel : e < s.heap.objs.size := Heap.lt_size he
    have hil : it < s.heap.objs.size := by obtain ⟨_, q, _⟩ := hit; exact Heap.lt_size q
    have hae : e ≠ a := fun q => by
      obtain ⟨o, ho, hc', _⟩ := pT
      rw [← q, he] at ho; cases ho
      injection hc' with hc'; exact absurd hc' (by decide)
    have hai : a ≠ it := fun q => by
      obtain ⟨o, ho, hc', _⟩ := pT
      obtain ⟨o2, ho2, hc2, _⟩ := hit
      rw [q, ho2] at ho; cases ho
      rw [hc2] at hc'
      injection hc' with hc'; exact absurd hc' (by decide)
    have hlt : i < its.toArray.size := by rw [List.size_toArray]; exact (List.getElem?_eq_some_iff.mp hu).1
    refine wpAny_pyNext_enum_itemC (Draws.tuple (A := X.A.in1) (I.ok.hd hc) it a hai its.toArray) he ⟨hit, pT⟩ hlt hne (by simp [hne, hae]) fun x' h' tk hP ho hst' hT hsz hk => ?_
    have ex' : x' = u := by
      have hP' : its.toArray[i]? = some x' := hP
      rw [List.getElem?_toArray, hu] at hP'
      exact (Option.some.inj hP').symm
    subst ex'
    obtain ⟨hit', _⟩ := hst'
    refine ⟨_, rfl, wpAny_letOwnedTupleGo_enum (s := { s with heap := h', toks := tk + 1 }) ho fun h'' he' sb => ?_⟩
    have hT2 : h''.get? s.heap.objs.size = some { cls := .type "tuple", data := .seq #[.int (k + ((i : Nat) : Int)) tk, x'] } := (sb.2 _ (Nat.ne_of_gt hel)).trans hT
    have new : ObjOk X.prog X.w (upd H s.heap.objs.size (.tup [.int (k + (i : Nat)), x])) h'' s.heap.objs.size (.tup [.int (k + (i : Nat)), x]) :=
      ⟨by show 2 ≤ sizeLine; rw [sizeLine_eq]; decide, [.int (k + ((i : Nat) : Int)) tk, x'], .cons ⟨_, rfl⟩ (.cons ru .nil), ⟨_, hT2, rfl, _, rfl⟩⟩
    have I1 : Inv X pins σ (upd H s.heap.objs.size (.tup [.int (k + (i : Nat)), x])) { s with heap := h'', toks := tk + 1 } :=
      I.turnedNew (ch := [e, it]) (fun b ob hb q => (sb.2 b (fun z => hb (by simp [z]))).trans (hk b ob (fun z => hb (by simp [z])) (fun z => hb (by simp [z])) q)) hf (Nat.le_refl _) new
    refine ⟨.ref s.heap.objs.size, _, I1, rfl, ⟨_, x, rfl, I.hok.fresh (Nat.le_refl _), rfl, fun ys hy => by rw [I.tuple_inj hy hq]; exact hx⟩, ⟨⟨x', ?_⟩, hit'.at fun o q => (sb.2 it (Ne.symm hne)).trans q, hne⟩, fun b hb => ?_⟩
    · have e1 : k + ((i + 1 : Nat) : Int) = k + (i : Int) + 1 := by omega
      rw [e1]; exact he'
    · have hb' : b < s.heap.objs.size := by
        have e' : b = e ∨ b = it := by simpa using hb
        rcases e' with z | z
        · rw [z]; exact hel
        · rw [z]; exact hil
      rw [upd_ne (Nat.ne_of_lt hb')]
      exact (hf b hb).1
  done := by
    intro X hP hw hK hc i pins s σ H E I hf st hg
    subst hP hw hK
    obtain ⟨⟨old, he⟩, hit, hne⟩ := st
    obtain ⟨xs, hq, hx⟩ := hg
    obtain ⟨its, rv, p, hz⟩ := I.tuple hq
    have pT : s.heap.IsTuple a its.toArray := p
    obtain ⟨f0, f1, f2, f3, f4, f5⟩ := hf it (by simp)
    have hl := rv.length
    exact enum_endT (I.ok.hd hc) he hit pT (by simp; omega) fun h' eb => ⟨rfl, I.turned (t' := s.toks) (fun b o hb q => eb b o hb q) f0 f1 f3 f4 f5⟩
  self := fun A i s Q E st h => let ⟨⟨_, he⟩, _⟩ := st; wpAny_pyIter_enum he h
def iEnumT (K : PySem.W.Frag) (ta : TA) : TI := fun σ H R => ta σ H fun vs H1 => ∃ a xs, vs = [.ref a] ∧ SqT K H1 a xs ∧ R (IteT K a 0) H1
theorem pi_enumT {e : Expr} {ta : TA} {elts : List Expr} {kk : Nat} (hg : Gl X "enumerate") (hm : X.mg "enumerate" = none) (ha : PA X [e] ta) (hs : starEach [e] X.env = [(false, eval e X.env)] := by rfl) :
    PI X (.Tuple elts kk tpos) (.Call (.Name "enumerate" p) [e] [] pos) (iEnumT X.K ta) := by
  refine ⟨fun pins s σ H R I h => ?_⟩
  refine PyProof.Rows.Call_ (ld_blt I hg hm PyProof.Rows.boot_enumerate (PyProof.Rows.callWith_type1 (thn (ha.run pos pins s σ H _ I h) fun us s1 ⟨vs, H1, I1, r1, q1⟩ => ?_) hs rfl))
  obtain ⟨a, xs, rfl, hq, q⟩ := q1
  cases r1 with
  | cons r rr =>
    cases rr
    cases r
    obtain ⟨its, rv, p', hz⟩ := I1.tuple hq
    refine enum_begins1 (begins_tuple a its.toArray) p' fun h' he' hit hsz hkp => wpAny_pyIter_enum he' ?_
    have I3 : Inv X pins σ H1 { s1 with heap := h' } := I1.kept (t' := s1.toks) hkp
    refine ⟨s1.heap.objs.size + 1, [s1.heap.objs.size + 1, s1.heap.objs.size], _, _, H1, rfl, I3, turn_enumT a (s1.heap.objs.size + 1) s1.heap.objs.size 0, ⟨⟨.none, by simpa using he'⟩, ⟨_, hit, rfl, rfl⟩, Nat.succ_ne_self _⟩, fun b hb => ?_, q⟩
    have e' : b = s1.heap.objs.size + 1 ∨ b = s1.heap.objs.size := by simpa using hb
    have hle : s1.heap.objs.size ≤ b := by
      rcases e' with z | z
      · rw [z]; exact Nat.le_add_right _ _
      · rw [z]; exact Nat.le_refl _
    exact I1.fpOk hle (I1.hok.fresh hle)
theorem numD_get {k : Int} {xs : List D} {i : Nat} {d : D} (h : (numD k xs)[i]? = some d) : ∃ x, xs[i]? = some x ∧ d = .tup [.int (k + (i : Nat)), x] := by
  unfold numD at h
  rw [List.getElem?_mapIdx] at h
  obtain ⟨x, hx, rfl⟩ := Option.map_eq_some_iff.mp h
  exact ⟨x, hx, rfl⟩
theorem walk_enumT {xs : List D} {vs : List V} {a : Addr} {k : Int} (h1 : SqT K H a vs) (r1 : Reps K cm L H xs vs) : Walks0 K cm L H (numD k xs) (IteT K a k) :=
  ⟨fun L' H' i d e h => by
    obtain ⟨x, hx, rfl⟩ := numD_get h
    obtain ⟨v, hv, rv⟩ := r1.get hx
    refine ⟨⟨vs, v, e.tup _ _ h1, hv⟩, fun z H2 q => ?_⟩
    obtain ⟨T, x0, rfl, hT, rfl, hx0⟩ := q
    have e1 := hx0 vs (e.tup _ _ h1)
    rw [hv] at e1; cases e1
    exact pair_new hT (rv.mono e),
  fun L' H' e => by
    refine ⟨vs, e.tup _ _ h1, ?_⟩
    unfold numD
    rw [List.length_mapIdx, r1.length]
    exact Nat.le_refl _⟩
theorem i_enumT {elts : List Expr} {kk : Nat} (hg : Gl X "enumerate") (hm : X.mg "enumerate" = none) (ha : PA X [e] (rdA X.K cm W ga)) (hs : starEach [e] X.env = [(false, eval e X.env)] := by rfl) :
    PI X (.Tuple elts kk tpos) (.Call (.Name "enumerate" p) [e] [] pos) (rdI X.K cm W (dEnumT ga)) := weakI (pi_enumT hg hm ha hs) fun σ H R q => by
  obtain ⟨L, S, a, q⟩ := q
  refine ⟨L, S, a, (Aft.step (R := Reps X.K cm) q).mono fun v H1 z => ?_⟩
  obtain ⟨L1, S1, ds, e1, x1, r1, q1⟩ := z
  split at q1
  · cases r1 with
    | cons r1 r2 =>
      cases r2
      cases r1 with
      | tup h1 r1 => exact ⟨_, _, rfl, h1, q1.give x1 (walk_enumT h1 r1)⟩
  · exact q1.elim
end
end Den

namespace Den
open PySem PySem.Spec PyProof.Rows L2
/-! ### 80. while -/
def sWhile (t : DT) (b : DSt) : Nat → DSt
  | 0 => fun _ => .stuck
  | k + 1 => fun S => (t S).bind fun c S1 => if c = true then (b S1).bind fun f S2 => match f with
    | .next => sWhile t b k S2
    | .cont => sWhile t b k S2
    | .brk => .ok .next S2
    | .ret d => .ok (.ret d) S2 else .ok .next S1
section
variable {X : Cx} {cm : Str → Value} {W : WX} {pos : Pos}
theorem s_while {c : Expr} {body : List Stmt} {t : DT} {b : DSt} (n : Nat) (hp : PassesOwn (model X.prog X.w) X.A X.env X.xe) (hc : PT X c (rdT X.K cm W t)) (hb : PSs X body (rdS X.K cm W b)) :
    PS X (.While c body [] pos) (rdS X.K cm W (sWhile t b n)) := weakS (ps_while hp hc hb) fun E σ H q => by
  obtain ⟨L, S, a, q⟩ := q
  refine ⟨fun m σ H => ∃ L S, AbS X.K cm L H S σ ∧ AftS X.K cm W L H (sWhile t b m S) E, ⟨n, L, S, a, q⟩, ?_⟩
  rintro m σ H ⟨L, S, a, q⟩
  cases m with
  | zero => exact q.elim
  | succ m =>
    refine ⟨L, S, a, (AftS.step (R := fun _ _ (b c : Bool) => b = c) q).mono fun v H1 z => ?_⟩
    obtain ⟨L1, S1, d, e1, x1, r1, q1⟩ := z
    subst r1
    cases d with
    | true =>
      rw [if_pos rfl] at q1 ⊢
      refine ⟨fun σ' H' => ∃ L S, AbS X.K cm L H' S σ' ∧ AftS X.K cm W L H' (sWhile t b m S) E, fun σ' H' w => ⟨m, Nat.lt_succ_self _, w⟩, L1, S1, x1, ?_⟩
      generalize b S1 = r at q1
      cases r with
      | ok f S2 =>
        rw [Res.bind_ok] at q1
        cases f with
        | next => exact fun L' H' σ' e x => ⟨L', S2, x, AftS.ext e q1⟩
        | cont => exact fun L' H' σ' e x => ⟨L', S2, x, AftS.ext e q1⟩
        | brk => exact q1
        | ret d => exact q1
      | exc u S2 => exact q1
      | stuck => exact q1.elim
    | false =>
      rw [if_neg (by decide)] at q1 ⊢
      exact q1 L1 H1 σ Ext.refl x1
end
/-- its turns -/
theorem while_end {t : DT} {b : DSt} {k : Nat} {S S1 : DS} (h : t S = .ok false S1) : sWhile t b (k + 1) S = .ok .next S1 := by
  unfold sWhile
  rw [h, Res.bind_ok, if_neg (by decide)]
theorem while_next {t : DT} {b : DSt} {k : Nat} {S S1 S2 : DS} {f : Fl} (h : t S = .ok true S1) (h2 : b S1 = .ok f S2) (hf : f = .next ∨ f = .cont) : sWhile t b (k + 1) S = sWhile t b k S2 := by
  conv => lhs; unfold sWhile
  rw [h, Res.bind_ok, if_pos rfl, h2, Res.bind_ok]
  rcases hf with rfl | rfl <;> rfl
/-- a while by an invariant and a measure -/
theorem while_inv {t : DT} {b : DSt} (I : Nat → DS → Prop) (step : ∀ m S, I m S → Ok (t S) fun c S1 => if c = true then Ok (b S1) fun f S2 => (f = .next ∨ f = .cont) ∧ ∃ m', m' < m ∧ I m' S2 else I m S1) (Q : DS → Prop) (out : ∀ m S S1, I m S → t S = .ok false S1 → Q S1) :
    ∀ (k m : Nat) (S : DS), m < k → I m S → ∃ S', sWhile t b k S = .ok .next S' ∧ Q S'
  | 0, m, S, h, _ => absurd h (Nat.not_lt_zero _)
  | k + 1, m, S, h, i => by
    obtain ⟨c, S1, e1, q⟩ := (step m S i).ex
    cases c with
    | true =>
      rw [if_pos rfl] at q
      obtain ⟨f, S2, e2, hf, m', lt, i2⟩ := q.ex
      obtain ⟨S', e3, q3⟩ := while_inv I step Q out k m' S2 (by omega) i2
      exact ⟨S', by rw [while_next e1 e2 hf, e3], q3⟩
    | false => exact ⟨S1, while_end e1, out m S S1 i e1⟩
end Den

namespace Den
open PySem PySem.Spec PyProof.Rows L2
/-! ### 81. sorted of a list of alike data -/
def tupCons : PyData → Bool
  | .tuple (_ :: _) => true
  | _ => false
def plainK : PyData → Bool
  | .none => false
  | .tuple _ => false
  | _ => true
def srtOk (ps : List PyData) : Bool := (ps.all fun p => ps.all fun q => PySem.W.alike p q) && (ps.all tupCons || ps.all plainK) && ps.all (fun p => decide (p.depth ≤ 60)) && decide (ps.length ≤ mxL)
def srtD (xs : List D) (ps : List PyData) : List D := ((xs.zip ps).mergeSort (PySem.W.dataLe false Prod.snd)).map Prod.fst
def cSorted : List D → DS → Res D := fun ds S => match ds with
  | [.ref n] => match S.h[n]? with
    | some (.lst xs) => match xs.mapM (pyD S) with
      | some ps => if srtOk ps = true then newO (.lst (srtD xs ps)) S else .stuck
      | none => .stuck
    | _ => .stuck
  | _ => .stuck
abbrev B3 := V × D × PyData
def rSrt (K : PySem.W.Frag) : List V → Hp → VK → Prop := fun ws H Q => ∃ (a : Addr) (bs : List B3), ws = [.ref a] ∧ SqL K H a (bs.map (·.1)) ∧ (∀ b ∈ bs, Dp K H b.1 b.2.2) ∧ srtOk (bs.map (·.2.2)) = true ∧
  ∀ p, H p = none → Q (.ref p) (upd H p (.lst ((bs.mergeSort (PySem.W.dataLe false (fun b : B3 => b.2.2))).map (·.1))))
section
variable {X : Cx} {cm : Str → Value} {W : WX}
theorem srt_each : ∀ {bs : List B3} {its : List Value}, Vals (bs.map (·.1)) its → PySem.W.EachIs (fun u (b : B3) => RelV b.1 u) its bs
  | [], its, r => by cases r; exact .nil
  | b :: bs, its, r => by
    cases r with
    | cons r1 r2 => exact .cons r1 (srt_each r2)
theorem srt_reads {pins : List (Addr × Obj)} {s : Shared} {σ : L2.St} {H : Hp} (I : Inv X pins σ H s) : ∀ {bs : List B3} {its : List Value}, PySem.W.EachIs (fun u (b : B3) => RelV b.1 u) its bs → (∀ b ∈ bs, Dp X.K H b.1 b.2.2) → PySem.W.EachIs (fun u (b : B3) => ∃ as, Reads s.heap u b.2.2 as) its bs
  | _, _, .nil, _ => .nil
  | _, _, .cons h t, hd => .cons (Dp.reads I _ _ _ (hd _ (by simp)) h) (srt_reads I t fun b hb => hd b (List.mem_cons_of_mem _ hb))
theorem srt_back : ∀ {out : List Value} {bs : List B3}, PySem.W.EachIs (fun u (b : B3) => RelV b.1 u) out bs → Vals (bs.map (·.1)) out
  | _, _, .nil => .nil
  | _, _, .cons h t => .cons h (srt_back t)
theorem srt_parts {ps : List PyData} (h : srtOk ps = true) : PySem.W.AllAlike ps ∧ PySem.W.Sortable ps ∧ (∀ p ∈ ps, p.depth ≤ 60) ∧ ps.length ≤ mxL := by
  unfold srtOk at h
  simp only [Bool.and_eq_true, Bool.or_eq_true, decide_eq_true_eq, List.all_eq_true] at h
  obtain ⟨⟨⟨h1, h2⟩, h3⟩, h4⟩ := h
  refine ⟨fun p hp q hq => h1 p hp q hq, ?_, h3, h4⟩
  rcases h2 with h2 | h2
  · refine .inl fun d hd => ?_
    have := h2 d hd
    unfold tupCons at this
    match d, this with
    | .tuple (x :: r), _ => exact ⟨x, r, rfl⟩
  · refine .inr fun d hd => ?_
    have := h2 d hd
    refine ⟨fun z => ?_, fun xs z => ?_⟩
    · rw [z] at this; cases this
    · rw [z] at this; cases this
theorem call_sortedD (hu : X.A.units + 64 < cLine) : CallR X (.builtin "sorted") (rSrt X.K) := by
  intro pins s σ H ws us Q I r h
  obtain ⟨a, bs, rfl, hs, hd, ok, q⟩ := h
  obtain ⟨its, rv, hl, hz⟩ := I.list hs
  rw [Vals.ref1 r]
  obtain ⟨h1, h2, h3, h4⟩ := srt_parts ok
  have e := srt_each rv
  have er := srt_reads I e hd
  have hlen : bs.length ≤ sizeLine := by rw [List.length_map] at hz; exact hz
  refine PySem.W.sorted_data (R := fun u (b : B3) => RelV b.1 u) (enc := fun b : B3 => b.2.2) hl.isList e er h1 h2 hlen (fun b hb => ?_) fun out ho eo => ?_
  · have := h3 b.2.2 (List.mem_map.mpr ⟨b, hb, rfl⟩)
    omega
  · obtain ⟨ep, he'⟩ := PyProof.Rows.sortedAll_at s.heap its out.toArray
    have hl2 : ((bs.mergeSort (PySem.W.dataLe false (fun b : B3 => b.2.2))).map (·.1)).length ≤ sizeLine := by
      rw [List.length_map, List.length_mergeSort]; exact hlen
    exact ⟨.ref _, upd H (s.heap.objs.size + 1) (.lst ((bs.mergeSort (PySem.W.dataLe false (fun b : B3 => b.2.2))).map (·.1))), I.laid (t' := s.toks) (fun _ _ => PyProof.Rows.sortedAll_old) (Nat.le_succ _) ⟨hl2, out, ep, srt_back eo, he'⟩, rfl, q _ (I.hok.fresh (Nat.le_succ _))⟩
theorem mapM_all {α β : Type} {f : α → Option β} : ∀ {xs : List α} {ys : List β}, xs.mapM f = some ys → ys.length = xs.length ∧ ∀ p ∈ xs.zip ys, f p.1 = some p.2
  | [], ys, h => by
    rw [mapM_nil'] at h
    cases h
    exact ⟨rfl, fun p hp => by simp at hp⟩
  | x :: xs, ys, h => by
    obtain ⟨y, r, h1, h2, rfl⟩ := mapM_some h
    obtain ⟨l, g⟩ := mapM_all h2
    refine ⟨by simp [l], fun p hp => ?_⟩
    rw [List.zip_cons_cons] at hp
    rcases List.mem_cons.mp hp with rfl | hp
    · exact h1
    · exact g p hp
theorem reps_zip {K : PySem.W.Frag} {L : List Addr} {H : Hp} : ∀ {xs : List D} {vs : List V}, Reps K cm L H xs vs → ∀ {β : Type} {ys : List β}, ∀ b ∈ vs.zip (xs.zip ys), Rep K cm L H b.2.1 b.1
  | _, _, .nil, _, _, b, hb => by simp at hb
  | _, _, .cons r t, _, [], b, hb => by simp at hb
  | _, _, .cons r t, _, y :: ys, b, hb => by
    rw [List.zip_cons_cons, List.zip_cons_cons] at hb
    rcases List.mem_cons.mp hb with rfl | hb
    · exact r
    · exact reps_zip t b hb
theorem reps_of {K : PySem.W.Frag} {L : List Addr} {H : Hp} : ∀ {bs : List B3}, (∀ b ∈ bs, Rep K cm L H b.2.1 b.1) → Reps K cm L H (bs.map (·.2.1)) (bs.map (·.1))
  | [], _ => .nil
  | b :: bs, h => .cons (h b (by simp)) (reps_of fun x hx => h x (List.mem_cons_of_mem _ hx))
theorem co_sorted : COp X cm W (rSrt X.K) cSorted := by
  intro L H S σ ws ds Q a r q
  unfold cSorted at q
  split at q
  · split at q
    · rename_i xs hx
      split at q
      · rename_i ps hp
        split at q
        · rename_i ok
          cases r with
          | cons r1 r2 =>
            cases r2
            obtain ⟨p1, vs, rfl, g1, h1, rr⟩ := a.lst r1 hx
            obtain ⟨lp, gp⟩ := mapM_all hp
            have lv := rr.length
            have e2 : (vs.zip (xs.zip ps)).map (·.2) = xs.zip ps := List.map_snd_zip (by rw [List.length_zip]; omega)
            have e1 : (vs.zip (xs.zip ps)).map (·.1) = vs := List.map_fst_zip (by rw [List.length_zip]; omega)
            have e3 : (vs.zip (xs.zip ps)).map (·.2.2) = ps := by
              have : (vs.zip (xs.zip ps)).map (·.2.2) = ((vs.zip (xs.zip ps)).map (·.2)).map (·.2) := by rw [List.map_map]; rfl
              rw [this, e2]
              exact List.map_snd_zip (by omega)
            have rz := reps_zip (cm := cm) rr (ys := ps)
            refine ⟨p1, vs.zip (xs.zip ps), rfl, by rw [e1]; exact SqL.of h1, fun b hb => ?_, by rw [e3]; exact ok, fun p hpn => ?_⟩
            · refine pyD_rep a (rz b hb) (gp b.2 ?_)
              rw [← e2]
              exact List.mem_map.mpr ⟨b, hb, rfl⟩
            · have e4 : srtD xs ps = ((vs.zip (xs.zip ps)).mergeSort (PySem.W.dataLe false (fun b : B3 => b.2.2))).map (·.2.1) := by
                unfold srtD
                have m : ((vs.zip (xs.zip ps)).mergeSort (PySem.W.dataLe false (fun b : B3 => b.2.2))).map (·.2) = ((vs.zip (xs.zip ps)).map (·.2)).mergeSort (PySem.W.dataLe false Prod.snd) := List.map_mergeSort fun _ _ _ _ => rfl
                rw [e2] at m
                rw [← m, List.map_map]
                rfl
              rw [e4] at q
              exact give_new a (reps_of fun b hb => rz b (List.mem_mergeSort.mp hb)) q hpn
        · exact q.elim
      · exact q.elim
    · exact q.elim
  · exact q.elim
/-! ### 82. min and max of two integers, shifts -/
def cMin2 : List D → DS → Res D := fun ds S => match ds with
  | [.int i, .int j] => .ok (.int (if j < i then j else i)) S
  | _ => .stuck
def cMax2 : List D → DS → Res D := fun ds S => match ds with
  | [.int i, .int j] => .ok (.int (if j > i then j else i)) S
  | _ => .stuck
theorem co_min2 : COp X cm W (fun xs H Q => ∃ i j, xs = [.int i, .int j] ∧ Q (.int (if j < i then j else i)) H) cMin2 := by
  intro L H S σ ws ds Q a r q
  unfold cMin2 at q
  split at q
  · cases r with
    | cons r1 r2 =>
      cases r2 with
      | cons r2 r3 => cases r3; cases r1; cases r2; exact ⟨_, _, rfl, q.give a (.int _)⟩
  · exact q.elim
theorem co_max2 : COp X cm W (fun xs H Q => ∃ i j, xs = [.int i, .int j] ∧ Q (.int (if j > i then j else i)) H) cMax2 := by
  intro L H S σ ws ds Q a r q
  unfold cMax2 at q
  split at q
  · cases r with
    | cons r1 r2 =>
      cases r2 with
      | cons r2 r3 => cases r3; cases r1; cases r2; exact ⟨_, _, rfl, q.give a (.int _)⟩
  · exact q.elim
def oShl : D → D → DS → Res D := fun x y S => match x, y with
  | .int 1, .int j => if 0 ≤ j ∧ j ≤ 1000000 then .ok (.int (2 ^ j.toNat)) S else .stuck
  | _, _ => .stuck
theorem ro_shl : ROp X cm W (fun x y H Q => ∃ k : Nat, x = .int 1 ∧ y = .int (k : Int) ∧ k ≤ 134217727 ∧ Q (.int (2 ^ k)) H) oShl := by
  intro L H S σ x y d e Q a r1 r2 q
  unfold oShl at q
  split at q
  · rename_i j
    split at q
    · rename_i h
      cases r1
      cases r2
      obtain ⟨k, rfl⟩ := Int.eq_ofNat_of_zero_le h.1
      exact ⟨k, rfl, rfl, by omega, q.give a (.int _)⟩
    · exact q.elim
  · exact q.elim
end
section
variable {X : Cx} {cm : Str → Value} {W : WX} {a b : Expr} {pos : Pos} {fa fb : DE}
theorem b_shl (ha : PE X a (rdE X.K cm W fa)) (hb : PE X b (rdE X.K cm W fb)) : PE X (.BinOp a .LShift b pos) (rdE X.K cm W (dBin oShl fa fb)) := e_op op_oneShl ro_shl ha hb
end
end Den

namespace Den
open PySem PySem.Spec PyProof.Rows L2
/-! ### 83. three names as the target of a comprehension -/
theorem set3 {α : Type} (σ : List (Option α)) (i j l : Nat) (x y z : Option α) (hij : i ≠ j) (hil : i ≠ l) (hjl : j ≠ l) :
    ((((((((σ.set l none).set j none).set i none).set i x).set j y).set l z).set l none).set j none).set i none = ((σ.set l none).set j none).set i none := by
  apply List.ext_getElem?
  intro n
  simp only [List.getElem?_set, List.length_set]
  by_cases h1 : i = n
  · simp [h1]
  · by_cases h2 : j = n
    · simp [h1, h2]
    · by_cases h3 : l = n
      · simp [h1, h2, h3]
      · simp [h1, h2, h3]
section
variable {K : PySem.W.Frag} {cm : Str → Value}
theorem tg_three (i j l : Nat) (hij : i ≠ j) (hil : i ≠ l) (hjl : j ≠ l) : TgOk K cm [i, j, l] (L2.gTup K 3 (L2.gCons (gName i) (L2.gCons (gName j) (L2.gCons (gName l) L2.gNil)))) (gTup 3 (gCons (gN i) (gCons (gN j) (gCons (gN l) gNil)))) := fun {L H S σ d x S0 Q} a r e k => by
  unfold gTup at e
  split at e
  · rename_i xs
    split at e
    · rename_i hl
      cases r with
      | @tup xs vs p hs rr =>
        cases rr with
        | nil => cases hl
        | @cons d1 ds v1 vs r1 rr =>
          cases rr with
          | nil => cases hl
          | @cons d2 ds v2 vs r2 rr =>
            cases rr with
            | nil => cases hl
            | @cons d3 ds v3 vs r3 rr =>
              cases rr with
              | cons _ _ => cases hl
              | nil =>
                refine ⟨p, _, rfl, hs, rfl, v1, _, rfl, v2, _, rfl, v3, _, rfl, rfl, ?_⟩
                cases e
                exact k _ (((a.set r1 i).set r2 j).set r3 l) (set3 σ i j l _ _ _ hij hil hjl)
    · cases e
  · cases e
end
/-! ### 84. d.get(k, z) of a dict of ours -/
def dGet2 (o k z : DE) : DE := fun S => (o S).bind fun x S1 => match x with
  | .ref n => match S1.h[n]? with
    | some (.dct _) => (k S1).bind fun y S2 => (z S2).bind fun w S3 => match S3.h[n]?, keyOf y with
      | some (.dct kvs), some kk => .ok ((valD kvs kk).getD w) S3
      | _, _ => .stuck
    | _ => .stuck
  | _ => .stuck
section
variable {X : Cx} {cm : Str → Value} {W : WX} {o e f : Expr} {apos cpos : Pos} {fo fe ff : DE}
theorem e_get2 (hu : X.A.units + 1 < cLine) (ho : PE X o (rdE X.K cm W fo)) (he : PE X e (rdE X.K cm W fe)) (hf : PE X f (rdE X.K cm W ff)) (m : M2 X o "get" apos e f cpos) : PE X (.Call (.Attribute o "get" apos) [e, f] [] cpos) (rdE X.K cm W (dGet2 fo fe ff)) := weakE (pe_dget2 hu ho he hf m) fun σ H Q q => by
  obtain ⟨L, S, a, q⟩ := q
  refine ⟨L, S, a, (Aft.step (R := Rep X.K cm) q).mono fun v H1 z => ?_⟩
  obtain ⟨L1, S1, d, e1, x1, r1, q1⟩ := z
  split at q1
  · rename_i n
    split at q1
    · rename_i kvs0 h0
      obtain ⟨p, vs0, rfl, g0, _⟩ := x1.dget r1 (.inl h0)
      refine ⟨p, rfl, .inl ⟨vs0, g0⟩, L1, S1, x1, (Aft.step (R := Rep X.K cm) q1).mono fun vk H2 z => ?_⟩
      obtain ⟨L2, S2, y, e2, x2, r2, q2⟩ := z
      refine ⟨L2, S2, x2, (Aft.step (R := Rep X.K cm) q2).mono fun vz H3 z => ?_⟩
      obtain ⟨L3, S3, w, e3, x3, r3, q3⟩ := z
      split at q3
      · rename_i kvs kk h3 hk
        obtain ⟨p', vs, ep, g, rr⟩ := x3.dget ((r1.mono e2).mono e3) (.inl h3)
        cases ep
        have rk := repK_val kk rr
        refine ⟨valV vs kk, .inl ⟨vs, kk, g, keyOf_rep (r2.mono e3) hk, rfl⟩, ?_⟩
        cases hv : valD kvs kk with
        | some d =>
          obtain ⟨v, hv2, rv⟩ := rk.1 _ hv
          rw [hv] at q3
          rw [hv2]
          exact q3.give x3 rv
        | none =>
          rw [hv] at q3
          rw [rk.2 hv]
          exact q3.give x3 r3
      · exact q3.elim
    · exact q1.elim
  · exact q1.elim
end
end Den

namespace Den
open PySem PySem.Spec PyProof.Rows L2
/-! ### 85. several except clauses, each with a name -/
abbrev Clause := Value × Nat × (Addr → Value → Option Addr → TS)
/-- D's ends behind a suite: its name is gone -/
def endsI (i : Nat) (D : Ends) : Ends := { nx := fun σ' H' => D.nx (σ'.set i none) H', rt := D.rt, bk := fun σ' H' => D.bk (σ'.set i none) H', ct := fun σ' H' => D.ct (σ'.set i none) H' }
/-- what the clauses ask of an exception: the first that fits takes it, else it goes on -/
def asks (K : PySem.W.Frag) (Wout : WX) (D : Ends) : List Clause → WX
  | [] => Wout
  | (c, i, ts) :: r => fun cls d σ H => ∃ b, PySem.W.exmOne K cls c = some b ∧ (b = true → ∀ a, H a = none → ts a cls d (endsI i D) (σ.set i (some (.ref a))) H) ∧ (b = false → asks K Wout D r cls d σ H)
inductive Clauses (X : Cx) : List ExceptHandler → List Clause → Prop
  | nil : Clauses X [] []
  | cons {x n : Str} {c : Value} {i : Nat} {ts : Addr → Value → Option Addr → TS} {b₀ : Stmt} {suite : List Stmt} {np pos' : Pos} {hds : List ExceptHandler} {l : List Clause} : X.N[i]? = some n → X.env.kindOf n = some .local → Names X x c →
      (∀ (a : Addr) (oe : Obj) (cls : Value) (d : Option Addr) (pn : List (Addr × Obj)), Zc cls d oe → (∃ vs, oe.data = .fields vs) → PSs (X.suite a ((a, oe) :: pn)) (b₀ :: suite) (ts a cls d)) → Clauses X hds l →
      Clauses X (.ExceptHandler (some (.Name x np)) (some n) (b₀ :: suite) pos' :: hds) ((c, i, ts) :: l)
section
variable {X : Cx} {body : List Stmt} {h₀ : ExceptHandler} {hds : List ExceptHandler} {l : List Clause} {pos : Pos} {tb : WX → TS} {Wout : WX}
theorem ps_tries (hs : X.stack = X.env :: X.outer) (hf : X.env.frame = some X.env.locals) (hN : X.N.Nodup) (tk : Takes X Wout)
    (hb : ∀ (W : WX) (pn : List (Addr × Obj)) (xe : Value → Shared → Prop), Takes (X.tr pn xe) W → PassesOwn (model X.prog X.w) X.A X.env xe → PSs (X.tr pn xe) body (tb W))
    (hh : Clauses X (h₀ :: hds) l) : PS X (.Try body (h₀ :: hds) [] [] pos) (fun D σ H => tb (asks X.K Wout D l) D σ H) := by
  constructor
  intro pins s σ H D I h
  have ok := I.ok
  have top : X.A.frames = some (X.env :: X.outer) := by rw [ok.frames, hs]
  apply wpAny_Try_except
  have run := (hb (asks X.K Wout D l) (X.pn ++ pins) (fun e s₁ => wpAny (model X.prog X.w) X.A (noteFrame e X.env) (fun _ s₂ => wpAny (model X.prog X.w) X.A (setFlight e none) (fun _ s₃ =>
    wpAny (model X.prog X.w) X.A (handleBy e X.env (h₀ :: hds)) (SP X pins D) X.xe s₃) X.xe s₂) X.xe s₁) ?takes PassesOwn.looking).run [] s σ H D (I.toTry _) h
  case takes =>
    rintro u s' ⟨a, B, sI, pins', σ', H', cls, d, rfl, J', nb, up, sky, na, os, ag, w⟩
    have J : Inv X pins σ' H' sI := J'.ofTry ok
    have sky' : Sky B (X.env :: X.outer) a (Zc cls d) X.env.locals s'.heap := by rw [← hs]; exact sky
    apply Sky.land Zc.steady top hf sky'
    intro h3 fl3 up3
    have J3 : Inv X pins σ' H' { s' with heap := h3 } := J.landed nb fl3.1 (up.trans up3) os ag
    obtain ⟨oe3, vs3, he3, hz3, hd3⟩ := fl3.there
    -- the exception is no frame
    have off : a ∉ frs (X.env :: X.outer) := fun hm => by
      obtain ⟨_, o', e', hnf⟩ := fl3.2.2.1.mem hm
      rw [he3] at e'
      cases e'
      exact hnf _ hd3
    have nL : a ≠ X.env.locals := fun z => off (List.mem_filterMap.mpr ⟨X.env, List.mem_cons_self, by rw [hf, z]⟩)
    have nF : a ∉ X.fs := fun hm => by
      obtain ⟨e, he, q⟩ := List.mem_filterMap.mp hm
      exact off (List.mem_filterMap.mpr ⟨e, List.mem_cons_of_mem _ he, q⟩)
    have S3 := J3.suite he3 hd3 na nL nF
    have LT : PySem.W.Looks (model X.prog X.w) h3 (typeOf (.ref a)) cls := fun A Q E s k q => wpAny_typeOf_ref (k _ _ he3) (by rw [hz3.1]; exact q)
    suffices go : ∀ (hds' : List ExceptHandler) (l' : List Clause), Clauses X hds' l' → asks X.K Wout D l' cls d σ' H' → wpAny (model X.prog X.w) X.A (handleBy (.ref a) X.env hds') (SP X pins D) X.xe { s' with heap := h3 } from go _ _ hh w
    intro hds' l' hk
    induction hk with
    | nil =>
      intro w
      apply wpAny_handleBy_nil
      obtain ⟨k1, k2, k3, oe, vs, T, oT, ts', he, hz, hd, h1, hr⟩ := id fl3
      unfold PySem.passOn
      refine wpAny_bind (wpAny_field he hd h1 ?_)
      rw [if_neg (show ¬ ((Value.ref T == Value.none) = true) from by simp)]
      have on : wpAny (model X.prog X.w) X.A (setFlight (.ref a) X.env.frame) (fun _ s4 => wpAny (model X.prog X.w) X.A (throw (.ref a) : Sem Flow) (SP X pins D) X.xe s4) X.xe { s' with heap := h3 } := by
        rw [hf]
        apply HandSPX.setFlight_upZ fl3
        intro h4 hh4 up4
        exact wpAny_throw (tk _ _ ⟨a, B, sI, pins, σ', H', cls, d, rfl, J, nb, (up.trans up3).trans up4, .inr (.inr (by rw [hs]; exact hh4)), na, os, ag, w⟩)
      first
        | exact wpAny_bind (wpAny_pure (wpAny_bind on))
        | exact wpAny_bind on
    | @cons x n c i ts b₀ suite np pos' hds2 l2 hi hln hc hsu r ih =>
      rintro ⟨b, hb1, hyes, hno⟩
      have hloc : Loc X.env.scope n := .inl hln
      refine wpAny_handleBy_cons (codeAny_handlers_test ?_) (by intro q; cases q)
      have LM := PySem.W.exm_one (M := model X.prog X.w) (J3.kIn) LT hb1
      have read : ∀ {Q : Value → Shared → Prop} {E : Value → Shared → Prop}, Q c { s' with heap := h3 } → wpAny (model X.prog X.w) (X.A.mark (some (.ref a))) (eval (.Name x np) X.env) Q E { s' with heap := h3 } := fun {Q E} q => by
        obtain ⟨hg, hdbg, hm | ⟨hm, hv, hnn⟩⟩ := hc
        · exact ld_glob (X := X.suite a ((a, oe3) :: (X.pn ++ pins))) S3 hg hm q hdbg
        · exact ld_blt (X := X.suite a ((a, oe3) :: (X.pn ++ pins))) S3 hg hm hv q hnn hdbg
      refine read (LM.here ?_)
      cases b with
      | false => exact ih (hno rfl)
      | true =>
        apply codeAny_handlers_suite_as
        apply HandSPX.lands_againZ fl3
        intro h4 fl4 up4
        have J4 : Inv X pins σ' H' { s' with heap := h4 } := J.landed nb fl4.1 ((up.trans up3).trans up4) os ag
        obtain ⟨oe4, vs4, he4, hz4, hd4⟩ := fl4.there
        have S4 := J4.suite he4 hd4 na nL nF
        refine store_ok (X := X.suite a ((a, oe4) :: (X.pn ++ pins))) (v := .ref a) S4 hN hi hloc rfl (fun s5 S5 => ?_) (.inr hln)
        refine wpAny_mono ((hsu a oe4 cls d (X.pn ++ pins) hz4 ⟨_, hd4⟩).run [] s5 _ H' _ S5 (hyes rfl a na)) (fun f s6 hsp => ?_) (fun _ _ z => False.elim z)
        have gone : ∀ {σ6 : L2.St} {H6 : Hp} {Q : Shared → Prop}, Inv (X.suite a ((a, oe4) :: (X.pn ++ pins))) [] σ6 H6 s6 → (∀ s7, Inv X pins (σ6.set i none) H6 s7 → Q s7) →
            wpAny (model X.prog X.w) X.A (do bindName X.env n .none; unbindBehindTheSuite X.env n pos') (fun _ s7 => Q s7) X.xe s6 := fun {σ6 H6 Q} S6 hq => gone_ok (S6.unsuite ok) hN hi hln hq
        cases f with
        | ret u =>
          obtain ⟨v6, σ6, H6, S6, r6, q6⟩ := hsp
          exact gone S6 fun s7 J7 => ⟨_, _, _, J7, r6, q6⟩
        | next =>
          obtain ⟨σ6, H6, S6, q6⟩ := hsp
          exact gone S6 fun s7 J7 => ⟨_, _, J7, q6⟩
        | brk =>
          obtain ⟨σ6, H6, S6, q6⟩ := hsp
          exact gone S6 fun s7 J7 => ⟨_, _, J7, q6⟩
        | cont =>
          obtain ⟨σ6, H6, S6, q6⟩ := hsp
          exact gone S6 fun s7 J7 => ⟨_, _, J7, q6⟩
  refine wpAny_mono run (fun f s1 hsp => ?_) (fun e s1 he => he)
  cases f with
  | ret u =>
    obtain ⟨v, σ', H', J', r, q⟩ := hsp
    exact ⟨v, σ', H', J'.ofTry ok, r, q⟩
  | next =>
    obtain ⟨σ', H', J', q⟩ := hsp
    exact wpAny_execs_nil ⟨σ', H', J'.ofTry ok, q⟩
  | brk =>
    obtain ⟨σ', H', J', q⟩ := hsp
    exact ⟨σ', H', J'.ofTry ok, q⟩
  | cont =>
    obtain ⟨σ', H', J', q⟩ := hsp
    exact ⟨σ', H', J'.ofTry ok, q⟩
end
/-! ### 86. the same over plain programs: each suite is one return -/
abbrev Cl := (Str → Option Bool) × (Xn → DSt)
def tryH : List Cl → Xn → DSt
  | [] => fun e S1 => .exc e S1
  | (sub, h) :: r => fun e S1 => match sub e.cls with
    | some true => match h e S1 with
      | .ok f S2 => .ok f S2
      | _ => .stuck
    | some false => tryH r e S1
    | none => .stuck
def sTryN (b : DSt) (hs : List Cl) : DSt := fun S => match b S with
  | .exc e S1 => tryH hs e S1
  | r => r
inductive Hands (X : Cx) (cm : Str → Value) : List ExceptHandler → List Cl → List Clause → Prop
  | nil : Hands X cm [] [] []
  | cons {x n : Str} {c : Value} {i : Nat} {sub : Str → Option Bool} {e0 : Expr} {pr np pos' : Pos} {ff : Xn → DE} {hds : List ExceptHandler} {cs : List Cl} {l : List Clause} : X.N[i]? = some n → X.env.kindOf n = some .local → Names X x c →
      (∀ m r, sub m = some r → PySem.W.exmOne X.K (cm m) c = some r) →
      (∀ (a : Addr) (oe : Obj) (cls : Value) (d : Option Addr) (pn : List (Addr × Obj)), Zc cls d oe → (∃ vs, oe.data = .fields vs) → PE (X.suite a ((a, oe) :: pn)) e0 (rdX X.K cm i a cls d (Rep X.K cm) ff)) → Hands X cm hds cs l →
      Hands X cm (.ExceptHandler (some (.Name x np)) (some n) [.Return (some e0) pr] pos' :: hds) ((sub, sRetX i ff) :: cs) ((c, i, fun a cls d => tRet (rdX X.K cm i a cls d (Rep X.K cm) ff)) :: l)
section
variable {X : Cx} {cm : Str → Value} {W : WX} {body : List Stmt} {h₀ : ExceptHandler} {hds : List ExceptHandler} {cs : List Cl} {l : List Clause} {pos : Pos} {b : DSt}
theorem Hands.clauses : ∀ {hds : List ExceptHandler} {cs : List Cl} {l : List Clause}, Hands X cm hds cs l → Clauses X hds l
  | _, _, _, .nil => .nil
  | _, _, _, .cons hi hln hc hsub hsu r => .cons hi hln hc (fun a oe cls d pn h1 h2 => pss_one (ps_ret (hsu a oe cls d pn h1 h2))) r.clauses
theorem Hands.asks : ∀ {hds : List ExceptHandler} {cs : List Cl} {l : List Clause}, Hands X cm hds cs l → ∀ {D : Ends} {L1 : List Addr} {H1 : Hp} {S1 : DS} {σ1 : L2.St} {u : Xn} {cl : Value} {dx : Option Addr}, AbS X.K cm L1 H1 S1 σ1 → XnR X.K cm L1 H1 u cl dx → AftS X.K cm W L1 H1 (tryH cs u S1) D → Den.asks X.K W D l cl dx σ1 H1
  | _, _, _, .nil, D, L1, H1, S1, σ1, u, cl, dx, x1, xr, q => q L1 H1 σ1 cl dx Ext.refl x1 xr
  | _, _, _, .cons (i := i) (sub := sub) (ff := ff) hi hln hc hsub hsu r, D, L1, H1, S1, σ1, u, cl, dx, x1, xr, q => by
    unfold tryH at q
    split at q
    · rename_i hsb
      refine ⟨true, by rw [xr.1]; exact hsub _ _ hsb, fun _ a ha => ?_, fun z => by cases z⟩
      unfold sRetX sRet at q
      by_cases hlt : i < S1.loc.length
      · rw [if_pos hlt] at q
        refine ⟨by rw [List.getElem?_set_self (by rw [← x1.loc.1]; exact hlt)], L1, { S1 with loc := S1.loc.set i none }, u, ⟨x1.hp, x1.loc.unset i⟩, xr, ?_⟩
        generalize ff u { S1 with loc := S1.loc.set i none } = w at q
        cases w with
        | ok d S2 => exact fun L' H' v ex xx rr => q L' H' (σ1.set i (some (.ref a))) v ex xx rr
        | exc _ _ => exact q.elim
        | stuck => exact q.elim
      · rw [if_neg hlt] at q
        exact q.elim
    · rename_i hsb
      exact ⟨false, by rw [xr.1]; exact hsub _ _ hsb, fun z => (by cases z), fun _ => r.asks x1 xr q⟩
    · exact q.elim
theorem s_tries (hs : X.stack = X.env :: X.outer) (hf : X.env.frame = some X.env.locals) (hN : X.N.Nodup) (tk : Takes X W) (hh : Hands X cm (h₀ :: hds) cs l)
    (hb : ∀ (W : WX) (pn : List (Addr × Obj)) (xe : Value → Shared → Prop), Takes (X.tr pn xe) W → PassesOwn (model X.prog X.w) X.A X.env xe → PSs (X.tr pn xe) body (rdS X.K cm W b)) :
    PS X (.Try body (h₀ :: hds) [] [] pos) (rdS X.K cm W (sTryN b cs)) := weakS (ps_tries hs hf hN tk hb hh.clauses) fun D σ H q => by
  obtain ⟨L, S, ab, q⟩ := q
  refine ⟨L, S, ab, ?_⟩
  unfold sTryN at q
  generalize b S = r at q
  cases r with
  | ok f S1 => cases f <;> exact q
  | stuck => exact q
  | exc u S1 => exact fun L1 H1 σ1 cl dx e1 x1 xr => hh.asks x1 xr (AftS.ext e1 q)
end
end Den

namespace K05
open PySem L2 PySem.Spec PyProof.Rows Den
/-! ### B. plain functions -/
def g_ANY_TIME : D := (.str "any time")
def g_MAX_MACHINES : D := (.int 6)
def g_NOTES : D := .tup [(.str "got higher"), (.str "got lower"), (.str "sent higher"), (.str "sent lower")]
def g_NO_TESTS : D := (.str "tests none")
def g_TESTS : D := .tup [(.tup [(.str "G1"), (.str "G2")]), (.tup [(.str "G1"), (.str "S1")]), (.tup [(.str "G1"), (.str "S2")]), (.tup [(.str "G2"), (.str "S1")]), (.tup [(.str "G2"), (.str "S2")]), (.tup [(.str "S1"), (.str "S2")])]
def g_TESTS_HEAD : D := (.str "tests ")
def g_WAITS : D := (.str "waits")
def sub_BadBook : Str → Option Bool := fun n => if n = "BadBook" then some true else if n = "BadText" then some false else none
def sub_BadText : Str → Option Bool := fun n => if n = "BadBook" then some false else if n = "BadText" then some true else none
/-- is_integer: 0=value -/
def p_is_integer : DSt := (sRet (dAnd (dCB cIsi (dCons (dVar 0) (dCons (dC (.ty "int")) dNil))) (dNot (dCB cIsi (dCons (dVar 0) (dCons (dC (.ty "bool")) dNil))))))
def F_is_integer : Fn := runB 1 p_is_integer
/-- is_many: 0=value -/
def p_is_many : DSt := (sRet (dAnd (dCall F_is_integer (dCons (dVar 0) dNil)) (dChain oLe oLe (dC (.int 2)) (dVar 0) (dC g_MAX_MACHINES))))
def F_is_many : Fn := runB 1 p_is_many
/-- is_ascending: 0=items, 1=low, 2=high -/
def p_is_ascending : DSt := (sRet (dCB cAll (dCons (dComp [1, 2] (dZip (dCons (dVar 0) (dCons (dSl (dVar 0) (dPS (dC (.int 1))) dPN) dNil))) (gTup 2 (gCons (gN 1) (gCons (gN 2) gNil))) tTrue (dBin oLtA (dVar 1) (dVar 2))) dNil)))
def F_is_ascending : Fn := runB 3 p_is_ascending
/-- is_notes: 0=value, 1=word -/
def p_is_notes : DSt := (sSeq (sIf (tNotD (tTr (dCB cIsi (dCons (dVar 0) (dCons (dC (.ty "tuple")) dNil))))) (sRet (dC (.bl false))) sNop)
  (sRet (dAnd (dCB cAll (dCons (dComp [1] (dIter (dVar 0)) (gN 1) tTrue (dBin oIn (dVar 1) (dC g_NOTES))) dNil)) (dCall F_is_ascending (dCons (dVar 0) dNil)))))
def F_is_notes : Fn := runB 2 p_is_notes
/-- tests_error: 0=tests, 1=k, 2=test -/
def p_tests_error : DSt := (sSeq (sFor (dEnumT (dCons (dVar 0) dNil)) (gTup 2 (gCons (gN 1) (gCons (gN 2) gNil)))
  (sIf (tV (dBin oNotIn (dVar 2) (dC g_TESTS))) (sRet (dTup (dCons (dC (.str "test")) (dCons (dVar 1) dNil)))) sNop))
  (sRet (dIf (tTr (dCall F_is_ascending (dCons (dVar 0) dNil))) (dC .non) (dC (.str "tests")))))
def F_tests_error : Fn := runB 3 p_tests_error
/-- tests_of: 0=line, 1=tests, 2=told -/
def p_tests_of : DSt := (sSeq (sIf (tV (dBin oEq (dVar 0) (dC g_NO_TESTS))) (sRet (dTup dNil)) sNop)
  (sSeq (sIf (tNotD (tTr (dMtS mStarts (dVar 0) (dC g_TESTS_HEAD)))) (sRet (dC .non)) sNop)
  (sSeq (sAsg (dCB cTuple (dCons (dComp [2] (dIter (dMtS mSplit (dSl (dVar 0) (dPS (dCB cLen (dCons (dC g_TESTS_HEAD) dNil))) dPN) (dC (.str ", ")))) (gN 2) tTrue (dCB cTuple (dCons (dMtS mSplit (dVar 2) (dC (.str "="))) dNil))) dNil)) (gN 1))
  (sRet (dIf (tV (dBin oIsN (dCall F_tests_error (dCons (dVar 1) dNil)) (dC .non))) (dVar 1) (dC .non))))))
def F_tests_of : Fn := runB 3 p_tests_of
/-- manner_of: 0=line, 1=notes, 2=head, 3=colon, 4=told -/
def p_manner_of : DSt := (sSeq (sAsg (dMtS mPart (dVar 0) (dC (.str ": "))) (gTup 3 (gCons (gN 2) (gCons (gN 3) (gCons (gN 4) gNil)))))
  (sSeq (sAsg (dIf (tTr (dVar 3)) (dCB cTuple (dCons (dMtS mSplit (dVar 4) (dC (.str ", "))) dNil)) (dTup dNil)) (gN 1))
  (sSeq (sIf (tOrD (tV (dBin oNotIn (dVar 2) (dTup (dCons (dC g_WAITS) (dCons (dC g_ANY_TIME) dNil))))) (tNotD (tTr (dCall F_is_notes (dCons (dVar 1) dNil))))) (sRet (dC .non)) sNop)
  (sRet (dTup (dCons (dBin oEq (dVar 2) (dC g_WAITS)) (dCons (dVar 1) dNil)))))))
def F_manner_of : Fn := runB 5 p_manner_of
/-- manners_of: 0=lines, 1=manners, 2=number, 3=line, 4=manner -/
def p_manners_of : DSt := (sSeq (sAsg (dLst dNil) (gN 1))
  (sSeq (sFor (dEnumS (dCons (dVar 0) dNil) (dCons (dC (.int 1)) dNil)) (gTup 2 (gCons (gN 2) (gCons (gN 3) gNil)))
  (sSeq (sAsg (dCall F_manner_of (dCons (dVar 3) dNil)) (gN 4))
  (sSeq (sIf (tV (dBin oIsN (dVar 4) (dC .non))) (sRaise1 "BadText" "line" (dCons (dVar 2) dNil)) sNop)
  (sExpr (dMtL mAppend (dVar 1) (dCons (dVar 4) dNil))))))
  (sRet (dCB cTuple (dCons (dVar 1) dNil)))))
def F_manners_of : Fn := runB 5 p_manners_of
/-- read_book: 0=value, 1=lines, 2=tests, 3=manners -/
def p_read_book : DSt := (sSeq (sIf (tNotD (tTr (dCB cIsi (dCons (dVar 0) (dCons (dC (.ty "str")) dNil))))) (sRaise1 "BadText" "line" (dCons (dC (.int 0)) dNil)) sNop)
  (sSeq (sAsg (dMtS mSplit (dVar 0) (dC (.str "\n"))) (gN 1))
  (sSeq (sAsg (dCall F_tests_of (dCons (dBin oIx (dVar 1) (dC (.int 0))) dNil)) (gN 2))
  (sSeq (sIf (tV (dBin oIsN (dVar 2) (dC .non))) (sRaise1 "BadText" "line" (dCons (dC (.int 0)) dNil)) sNop)
  (sSeq (sAsg (dCall F_manners_of (dCons (dSl (dVar 1) (dPS (dC (.int 1))) dPN) dNil)) (gN 3))
  (sSeq (sIf (tNotD (tTr (dCall F_is_many (dCons (dCB cLen (dCons (dVar 3) dNil)) dNil)))) (sRaise1 "BadBook" "error" (dCons (dC (.str "manners")) dNil)) sNop)
  (sRet (dTup (dCons (dVar 2) (dCons (dVar 3) dNil))))))))))
def F_read_book : Fn := runB 4 p_read_book
/-- _law_deck: 0=script, 1=deck, 2=cell, 3=whole, 4=state -/
def p_law_deck : DSt := (sSeq (sAsg (dDict [((dC (.str "deep")), (dLst dNil)), ((dC (.str "state")), (dBin oAdd (dC (.int 1572605)) (dCB cLen (dCons (dSl (dVar 0) dPN (dPS (dC (.int 63)))) dNil))))]) (gN 1))
  (sSeq (sFor (dIter (dSl (dVar 0) dPN (dPS (dC (.int 63))))) (gN 2)
  (sSeq (sAsg (dCB cAbs (dCons (dVar 2) dNil)) (gN 3))
  (sSeq (sIf (tV (dBin oGe (dVar 3) (dBin oPow (dC (.int 10)) (dC (.int 18))))) (sPut (dBin oAdd (dLst (dCons (dVar 3) dNil)) (dBin oIx (dVar 1) (dC (.str "deep")))) (dVar 1) (dC (.str "deep"))) sNop)
  (sSeq (sAsg (dBin oAdd (dBin oMulA (dBin oAdd (dBin oAdd (dBin oAdd (dBin oIx (dVar 1) (dC (.str "state"))) (dBin oMulA (dC (.int 2)) (dVar 3))) (dCB cIntA (dCons (dBin oLt (dVar 2) (dC (.int 0))) dNil))) (dC (.int 1))) (dC (.int 1181783497276652981))) (dC (.int 521288629))) (gN 4))
  (sPut (dBin oMod (dCB cIntA (dCons (dVar 4) dNil)) (dC (.int 2305843009213693951))) (dVar 1) (dC (.str "state")))))))
  (sRet (dVar 1))))
def F_law_deck : Fn := runB 5 p_law_deck
/-- _law_draw: 0=deck, 1=many, 2=one, 3=two, 4=whole -/
def p_law_draw : DSt := (sSeq (sIf (tV (dBin oLt (dVar 1) (dC (.int 2)))) (sRet (dC (.int 0))) sNop)
  (sSeq (sIf (tV (dBin oNe (dBin oIx (dVar 0) (dC (.str "deep"))) (dLst dNil))) (sSeq (sAsg (dMtL mPop (dBin oIx (dVar 0) (dC (.str "deep"))) dNil) (gN 4))
  (sSeq (sIf (tV (dBin oGe (dVar 4) (dVar 1))) (sExpr (dMtL mAppend (dBin oIx (dVar 0) (dC (.str "deep"))) (dCons (dBin oDiv (dVar 4) (dVar 1)) dNil))) sNop)
  (sRet (dBin oMod (dCB cIntA (dCons (dVar 4) dNil)) (dVar 1))))) sNop)
  (sSeq (sAsg (dBin oMod (dCB cIntA (dCons (dBin oAdd (dBin oMulA (dBin oIx (dVar 0) (dC (.str "state"))) (dC (.int 1181783497276652981))) (dC (.int 88172645463325))) dNil)) (dC (.int 2305843009213693951))) (gN 2))
  (sSeq (sPut (dVar 2) (dVar 0) (dC (.str "state")))
  (sSeq (sAsg (dBin oMod (dCB cIntA (dCons (dBin oAdd (dBin oAdd (dBin oMulA (dVar 2) (dVar 2)) (dBin oMulA (dC (.int 374761393)) (dVar 2))) (dC (.int 11))) dNil)) (dC (.int 2305843009213693921))) (gN 3))
  (sRet (dBin oMod (dCB cIntA (dCons (dBin oDiv (dVar 3) (dC (.int 1048576))) dNil)) (dVar 1))))))))
def F_law_draw : Fn := runB 5 p_law_draw
/-- _law_pick: 0=deck, 1=items -/
def p_law_pick : DSt := (sRet (dBin oIx (dVar 1) (dCall F_law_draw (dCons (dVar 0) (dCons (dCB cLen (dCons (dVar 1) dNil)) dNil)))))
def F_law_pick : Fn := runB 2 p_law_pick
/-- _law_tests:  -/
def p_law_tests : DSt := (sRet (dLst (dCons (dTup (dCons (dC (.str "G1")) (dCons (dC (.str "G2")) dNil))) (dCons (dTup (dCons (dC (.str "G1")) (dCons (dC (.str "S1")) dNil))) (dCons (dTup (dCons (dC (.str "G1")) (dCons (dC (.str "S2")) dNil))) (dCons (dTup (dCons (dC (.str "G2")) (dCons (dC (.str "S1")) dNil))) (dCons (dTup (dCons (dC (.str "G2")) (dCons (dC (.str "S2")) dNil))) (dCons (dTup (dCons (dC (.str "S1")) (dCons (dC (.str "S2")) dNil))) dNil))))))))
def F_law_tests : Fn := runB 0 p_law_tests
/-- _law_words:  -/
def p_law_words : DSt := (sRet (dLst (dCons (dC (.str "got higher")) (dCons (dC (.str "got lower")) (dCons (dC (.str "sent higher")) (dCons (dC (.str "sent lower")) dNil))))))
def F_law_words : Fn := runB 0 p_law_words
/-- _law_manner: 0=deck, 1=notes, 2=word -/
def p_law_manner : DSt := (sSeq (sAsg (dCB cTuple (dCons (dComp [2] (dIter (dCall F_law_words dNil)) (gN 2) (tV (dBin oEq (dCall F_law_draw (dCons (dVar 0) (dCons (dC (.int 2)) dNil))) (dC (.int 0)))) (dVar 2)) dNil)) (gN 1))
  (sRet (dTup (dCons (dBin oEq (dCall F_law_draw (dCons (dVar 0) (dCons (dC (.int 2)) dNil))) (dC (.int 0))) (dCons (dVar 1) dNil)))))
def F_law_manner : Fn := runB 3 p_law_manner
/-- _law_book: 0=deck, 1=tests, 2=many, 3=one, 4=own, 5=machine -/
def p_law_book : DSt := (sSeq (sAsg (dCB cTuple (dCons (dComp [4] (dIter (dCall F_law_tests dNil)) (gN 4) (tV (dBin oEq (dCall F_law_draw (dCons (dVar 0) (dCons (dC (.int 3)) dNil))) (dC (.int 0)))) (dVar 4)) dNil)) (gN 1))
  (sSeq (sPar 2 3 (dCons (dBin oAdd (dC (.int 2)) (dCall F_law_draw (dCons (dVar 0) (dCons (dC (.int 5)) dNil)))) (dCons (dCall F_law_manner (dCons (dVar 0) dNil)) dNil)))
  (sSeq (sIf (tV (dBin oEq (dCall F_law_draw (dCons (dVar 0) (dCons (dC (.int 3)) dNil))) (dC (.int 0)))) (sRet (dTup (dCons (dVar 1) (dCons (dBin oMulB (dTup (dCons (dVar 3) dNil)) (dVar 2)) dNil)))) sNop)
  (sRet (dTup (dCons (dVar 1) (dCons (dCB cTuple (dCons (dComp [5] (dRng (dCons (dVar 2) dNil)) (gN 5) tTrue (dCall F_law_manner (dCons (dVar 0) dNil))) dNil)) dNil)))))))
def F_law_book : Fn := runB 6 p_law_book
/-- _law_text: 0=book, 1=found, 2=tests, 3=manners, 4=waits, 5=notes, 6=line, 7=one, 8=other -/
def p_law_text : DSt := (sSeq (sAsg (dVar 0) (gTup 2 (gCons (gN 2) (gCons (gN 3) gNil))))
  (sSeq (sAsg (dIf (tV (dBin oNe (dVar 2) (dTup dNil))) (dLst (dCons (dBin oAdd (dC (.str "tests ")) (dMtS mJoin (dC (.str ", ")) (dComp [7, 8] (dIter (dVar 2)) (gTup 2 (gCons (gN 7) (gCons (gN 8) gNil))) tTrue (dBin oAdd (dBin oAdd (dVar 7) (dC (.str "="))) (dVar 8))))) dNil)) (dLst (dCons (dC (.str "tests none")) dNil))) (gN 1))
  (sSeq (sFor (dIter (dVar 3)) (gTup 2 (gCons (gN 4) (gCons (gN 5) gNil)))
  (sSeq (sAsg (dIf (tTr (dVar 4)) (dC (.str "waits")) (dC (.str "any time"))) (gN 6))
  (sExpr (dMtL mAppend (dVar 1) (dCons (dIf (tV (dBin oNe (dVar 5) (dTup dNil))) (dBin oAdd (dBin oAdd (dVar 6) (dC (.str ": "))) (dMtS mJoin (dC (.str ", ")) (dVar 5))) (dVar 6)) dNil)))))
  (sRet (dMtS mJoin (dC (.str "\n")) (dVar 1))))))
def F_law_text : Fn := runB 9 p_law_text
/-- _law_picked: 0=pieces, 1=words, 2=word -/
def p_law_picked : DSt := (sSeq (sIf (tV (dBin oNe (dVar 0) (dComp [2] (dIter (dVar 1)) (gN 2) (tV (dBin oIn (dVar 2) (dVar 0))) (dVar 2)))) (sRet (dLst dNil)) sNop)
  (sRet (dLst (dCons (dCB cTuple (dCons (dVar 0) dNil)) dNil))))
def F_law_picked : Fn := runB 3 p_law_picked
/-- _law_tests_in: 0=line, 1=texts, 2=picked, 3=own, 4=one, 5=other, 6=text -/
def p_law_tests_in : DSt := (sSeq (sIf (tV (dBin oEq (dVar 0) (dC (.str "tests none")))) (sRet (dLst (dCons (dTup dNil) dNil))) sNop)
  (sSeq (sIf (tV (dBin oNe (dSl (dVar 0) dPN (dPS (dC (.int 6)))) (dC (.str "tests ")))) (sRet (dLst dNil)) sNop)
  (sSeq (sAsg (dComp [4, 5] (dIter (dCall F_law_tests dNil)) (gTup 2 (gCons (gN 4) (gCons (gN 5) gNil))) tTrue (dBin oAdd (dBin oAdd (dVar 4) (dC (.str "="))) (dVar 5))) (gN 1))
  (sSeq (sAsg (dCall F_law_picked (dCons (dMtS mSplit (dSl (dVar 0) (dPS (dC (.int 6))) dPN) (dC (.str ", "))) (dCons (dVar 1) dNil))) (gN 2))
  (sRet (dComp [3] (dIter (dVar 2)) (gN 3) tTrue (dCB cTuple (dCons (dComp [6] (dIter (dVar 3)) (gN 6) tTrue (dTup (dCons (dSl (dVar 6) dPN (dPS (dC (.int 2)))) (dCons (dSl (dVar 6) (dPS (dC (.int 3))) dPN) dNil)))) dNil))))))))
def F_law_tests_in : Fn := runB 7 p_law_tests_in
/-- _law_manner_in: 0=line, 1=word, 2=picked, 3=own -/
def p_law_manner_in : DSt := (sSeq (sFor (dIter (dTup (dCons (dC (.str "waits")) (dCons (dC (.str "any time")) dNil)))) (gN 1)
  (sSeq (sIf (tV (dBin oEq (dVar 0) (dVar 1))) (sRet (dLst (dCons (dTup (dCons (dBin oEq (dVar 1) (dC (.str "waits"))) (dCons (dTup dNil) dNil))) dNil))) sNop)
  (sIf (tV (dBin oEq (dSl (dVar 0) dPN (dPS (dBin oAdd (dCB cLen (dCons (dVar 1) dNil)) (dC (.int 2))))) (dBin oAdd (dVar 1) (dC (.str ": "))))) (sSeq (sAsg (dCall F_law_picked (dCons (dMtS mSplit (dSl (dVar 0) (dPS (dBin oAdd (dCB cLen (dCons (dVar 1) dNil)) (dC (.int 2)))) dPN) (dC (.str ", "))) (dCons (dCall F_law_words dNil) dNil))) (gN 2))
  (sRet (dComp [3] (dIter (dVar 2)) (gN 3) tTrue (dTup (dCons (dBin oEq (dVar 1) (dC (.str "waits"))) (dCons (dVar 3) dNil)))))) sNop)))
  (sRet (dLst dNil)))
def F_law_manner_in : Fn := runB 4 p_law_manner_in
/-- _law_due: 0=value, 1=lines, 2=tests, 3=manners, 4=number, 5=line, 6=own -/
def p_law_due : DSt := (sSeq (sIf (tNotD (tTr (dCB cIsi (dCons (dVar 0) (dCons (dC (.ty "str")) dNil))))) (sRet (dLst (dCons (dC (.str "text")) (dCons (dC (.int 0)) (dCons (dC (.bl true)) dNil))))) sNop)
  (sSeq (sAsg (dMtS mSplit (dVar 0) (dC (.str "\n"))) (gN 1))
  (sSeq (sPar 2 3 (dCons (dCall F_law_tests_in (dCons (dBin oIx (dVar 1) (dC (.int 0))) dNil)) (dCons (dLst dNil) dNil)))
  (sSeq (sIf (tV (dBin oEq (dVar 2) (dLst dNil))) (sRet (dLst (dCons (dC (.str "text")) (dCons (dC (.int 0)) (dCons (dC (.bl true)) dNil))))) sNop)
  (sSeq (sFor (dEnum (dCons (dSl (dVar 1) (dPS (dC (.int 1))) dPN) dNil)) (gTup 2 (gCons (gN 4) (gCons (gN 5) gNil)))
  (sSeq (sAsg (dCall F_law_manner_in (dCons (dVar 5) dNil)) (gN 6))
  (sSeq (sIf (tV (dBin oEq (dVar 6) (dLst dNil))) (sRet (dLst (dCons (dC (.str "text")) (dCons (dBin oAdd (dVar 4) (dC (.int 1))) (dCons (dC (.bl true)) dNil))))) sNop)
  (sExpr (dMtL mExtend (dVar 3) (dCons (dVar 6) dNil))))))
  (sSeq (sIf (tNotD (tV (dChain oLe oLe (dC (.int 2)) (dCB cLen (dCons (dVar 3) dNil)) (dC (.int 6))))) (sRet (dLst (dCons (dC (.str "book")) (dCons (dC (.str "manners")) (dCons (dC (.bl true)) dNil))))) sNop)
  (sRet (dLst (dCons (dC (.str "told")) (dCons (dTup (dCons (dBin oIx (dVar 2) (dC (.int 0))) (dCons (dCB cTuple (dCons (dVar 3) dNil)) dNil))) dNil))))))))))
def F_law_due : Fn := runB 7 p_law_due
/-- _law_heard: 0=value, 1=is_named, 2=slip -/
def p_law_heard : DSt := (sTryN (sRet (dLst (dCons (dC (.str "told")) (dCons (dIf (tTr (dVar 1)) (dCallK F_read_book [0] dNil (dCons (dVar 0) dNil)) (dCall F_read_book (dCons (dVar 0) dNil))) dNil)))) [(sub_BadText, sRetX 2 (xLst (xCons (xC (dC (.str "text"))) (xCons (xFld "BadText" "line") (xCons (xIsi "BadText" true) xNil))))), (sub_BadBook, sRetX 2 (xLst (xCons (xC (dC (.str "book"))) (xCons (xFld "BadBook" "error") (xCons (xIsi "BadBook" true) xNil)))))])
def F_law_heard : Fn := runB 3 p_law_heard
/-- _law_spoilt: 0=deck, 1=text, 2=lines, 3=spot, 4=signs, 5=some, 6=at, 7=way, 8=pieces -/
def p_law_spoilt : DSt := (sSeq (sPar 6 7 (dCons (dCall F_law_draw (dCons (dVar 0) (dCons (dBin oAdd (dCB cLen (dCons (dVar 1) dNil)) (dC (.int 1))) dNil))) (dCons (dCall F_law_draw (dCons (dVar 0) (dCons (dC (.int 8)) dNil))) dNil)))
  (sSeq (sAsg (dMtS mSplit (dVar 1) (dC (.str "\n"))) (gN 2))
  (sSeq (sAsg (dCall F_law_draw (dCons (dVar 0) (dCons (dCB cLen (dCons (dVar 2) dNil)) dNil))) (gN 3))
  (sSeq (sAsg (dLst (dCons (dC (.str " ")) (dCons (dC (.str ",")) (dCons (dC (.str ", ")) (dCons (dC (.str ":")) (dCons (dC (.str ": ")) (dCons (dC (.str "=")) (dCons (dC (.str "1")) (dCons (dC (.str "2")) (dCons (dC (.str "G")) (dCons (dC (.str "S")) (dCons (dC (.str "w")) (dCons (dC (.str "\n")) (dCons (dC (.str "none")) (dCons (dC (.str "waits")) (dCons (dC (.str "\nwaits")) (dCons (dC (.str "higher")) dNil))))))))))))))))) (gN 4))
  (sSeq (sIf (tV (dBin oEq (dVar 7) (dC (.int 0)))) (sRet (dBin oAdd (dSl (dVar 1) dPN (dPS (dVar 6))) (dSl (dVar 1) (dPS (dBin oAdd (dVar 6) (dC (.int 1)))) dPN))) sNop)
  (sSeq (sIf (tV (dBin oEq (dVar 7) (dC (.int 1)))) (sRet (dBin oAdd (dBin oAdd (dSl (dVar 1) dPN (dPS (dVar 6))) (dCall F_law_pick (dCons (dVar 0) (dCons (dVar 4) dNil)))) (dSl (dVar 1) (dPS (dVar 6)) dPN))) sNop)
  (sSeq (sIf (tV (dBin oEq (dVar 7) (dC (.int 2)))) (sRet (dBin oAdd (dBin oAdd (dSl (dVar 1) dPN (dPS (dVar 6))) (dCall F_law_pick (dCons (dVar 0) (dCons (dVar 4) dNil)))) (dSl (dVar 1) (dPS (dBin oAdd (dVar 6) (dC (.int 1)))) dPN))) sNop)
  (sSeq (sIf (tV (dBin oEq (dVar 7) (dC (.int 3)))) (sRet (dBin oAdd (dBin oAdd (dSl (dVar 1) dPN (dPS (dVar 6))) (dRev (dSl (dVar 1) (dPS (dVar 6)) (dPS (dBin oAdd (dVar 6) (dC (.int 2))))))) (dSl (dVar 1) (dPS (dBin oAdd (dVar 6) (dC (.int 2)))) dPN))) sNop)
  (sSeq (sIf (tV (dBin oEq (dVar 7) (dC (.int 4)))) (sRet (dMtS mJoin (dC (.str "\n")) (dBin oAdd (dBin oAdd (dSl (dVar 2) dPN (dPS (dVar 3))) (dBin oMulA (dSl (dVar 2) (dPS (dVar 3)) (dPS (dBin oAdd (dVar 3) (dC (.int 1))))) (dCall F_law_draw (dCons (dVar 0) (dCons (dC (.int 3)) dNil))))) (dSl (dVar 2) (dPS (dBin oAdd (dVar 3) (dC (.int 1)))) dPN)))) sNop)
  (sSeq (sIf (tV (dBin oEq (dVar 7) (dC (.int 5)))) (sSeq (sAsg (dMtS mSplit (dBin oIx (dVar 2) (dVar 3)) (dC (.str ", "))) (gN 8))
  (sSeq (sAsg (dCall F_law_pick (dCons (dVar 0) (dCons (dLst (dCons (dRev (dVar 8)) (dCons (dBin oAdd (dVar 8) (dSl (dVar 8) (dPS (dNeg (dC (.int 1)))) dPN)) (dCons (dBin oAdd (dSl (dVar 8) (dPS (dC (.int 1))) dPN) (dSl (dVar 8) dPN (dPS (dC (.int 1))))) (dCons (dSl (dVar 8) dPN (dPS (dNeg (dC (.int 1))))) dNil))))) dNil))) (gN 8))
  (sSeq (sPut (dMtS mJoin (dC (.str ", ")) (dVar 8)) (dVar 2) (dVar 3))
  (sRet (dMtS mJoin (dC (.str "\n")) (dVar 2)))))) sNop)
  (sSeq (sIf (tV (dBin oEq (dVar 7) (dC (.int 6)))) (sSeq (sAsg (dLst (dCons (dRev (dVar 2)) (dCons (dSl (dVar 2) (dPS (dC (.int 1))) dPN) (dCons (dBin oAdd (dVar 2) (dLst (dCons (dC (.str "")) dNil))) (dCons (dBin oAdd (dVar 2) (dLst (dCons (dC (.str "waits: sent lower")) dNil))) (dCons (dSl (dVar 2) dPN (dPS (dC (.int 2)))) dNil)))))) (gN 5))
  (sRet (dMtS mJoin (dC (.str "\n")) (dCall F_law_pick (dCons (dVar 0) (dCons (dVar 5) dNil)))))) sNop)
  (sSeq (sAsg (dLst (dCons (dC (.str "\n")) (dCons (dC (.str " ")) (dCons (dC (.str ", ")) (dCons (dC (.str "\nwaits:")) (dCons (dC (.str "\nwaits: ")) (dCons (dC (.str "\nany time")) (dCons (dC (.str "\nAny time")) (dCons (dC (.str ": sent lower")) dNil))))))))) (gN 5))
  (sRet (dBin oAdd (dVar 1) (dCall F_law_pick (dCons (dVar 0) (dCons (dVar 5) dNil)))))))))))))))))
def F_law_spoilt : Fn := runB 9 p_law_spoilt
/-- law: 0=script, 1=deck, 2=turn, 3=text, 4=some, 5=odd, 6=spot, 7=value -/
def p_law : DSt := (sSeq (sAsg (dCall F_law_deck (dCons (dVar 0) dNil)) (gN 1))
  (sSeq (sFor (dRng (dCons (dC (.int 10)) dNil)) (gN 2)
  (sSeq (sAsg (dCall F_law_text (dCons (dCall F_law_book (dCons (dVar 1) dNil)) dNil)) (gN 3))
  (sSeq (sAsg (dLst (dCons (dVar 3) (dCons (dCall F_law_spoilt (dCons (dVar 1) (dCons (dVar 3) dNil))) (dCons (dCall F_law_spoilt (dCons (dVar 1) (dCons (dVar 3) dNil))) dNil)))) (gN 4))
  (sSeq (sExpr (dMtL mAppend (dVar 4) (dCons (dCall F_law_spoilt (dCons (dVar 1) (dCons (dBin oIx (dVar 4) (dNeg (dC (.int 1)))) dNil))) dNil)))
  (sSeq (sExpr (dMtL mAppend (dVar 4) (dCons (dBin oAdd (dC (.str "tests none")) (dBin oMulA (dC (.str "\nwaits")) (dCall F_law_pick (dCons (dVar 1) (dCons (dLst (dCons (dC (.int 0)) (dCons (dC (.int 1)) (dCons (dC (.int 2)) (dCons (dC (.int 6)) (dCons (dC (.int 7)) (dCons (dC (.int 1000)) dNil))))))) dNil))))) dNil)))
  (sSeq (sAsg (dLst (dCons (dC .non) (dCons (dC (.int 0)) (dCons (dC (.bl true)) (dCons (dLst dNil) (dCons dNew0 (dCons (dTup (dCons (dC (.str "tests none")) dNil)) (dCons (dC (.str "")) (dCons (dC (.str "tests")) (dCons (dC (.str "tests ")) (dCons (dC (.str "test none\nwaits\nwaits")) dNil))))))))))) (gN 5))
  (sSeq (sAsg (dBin oAdd (dVar 5) (dLst (dCons (dC (.str "waits\nwaits")) (dCons (dC (.str "tests none, G1=S1\nwaits\nwaits")) (dCons (dBin oMulA (dC (.str "\n")) (dC (.int 3000))) (dCons (dC (.str "tests  none\nwaits\nwaits")) dNil)))))) (gN 5))
  (sSeq (sExpr (dMtL mAppend (dVar 4) (dCons (dCall F_law_pick (dCons (dVar 1) (dCons (dVar 5) dNil))) dNil)))
  (sFor (dEnum (dCons (dVar 4) dNil)) (gTup 2 (gCons (gN 6) (gCons (gN 7) gNil)))
  (sIf (tV (dBin oNe (dCB cRepr (dCons (dCall F_law_heard (dCons (dVar 7) (dCons (dBin oEq (dVar 6) (dBin oMod (dVar 2) (dC (.int 7)))) dNil))) dNil)) (dCB cRepr (dCons (dCall F_law_due (dCons (dVar 7) dNil)) dNil)))) (sRet (dC (.bl false))) sNop))))))))))
  (sRet (dC (.bl true)))))
def F_law : Fn := runB 8 p_law
end K05

namespace K05
open PySem L2 PySem.Spec PyProof.Rows Den
/-! ### F. what the plain functions do -/
structure Deck (h : List Ob) (n m : Nat) : Prop where
  ne : n ≠ m
  ex : ∃ (s : Int) (xs : List Int), h[n]? = some (.dct [(.inr "deep", .ref m), (.inr "state", .int s)]) ∧ h[m]? = some (.lst (xs.map .int)) ∧ 0 ≤ s ∧ s < 2305843009213693951 ∧ (∀ x ∈ xs, 0 ≤ x) ∧ xs.length ≤ 63
theorem k_ds : (decide ((Sum.inr (Str.ofString "deep") : Key) = Sum.inr (Str.ofString "state"))) = false := by decide +kernel
theorem k_sd : (decide ((Sum.inr (Str.ofString "state") : Key) = Sum.inr (Str.ofString "deep"))) = false := by decide +kernel
theorem val_deep {m : Nat} {s : Int} : valD [(.inr (Str.ofString "deep"), .ref m), (.inr (Str.ofString "state"), .int s)] (.inr (Str.ofString "deep")) = some (.ref m) := by
  unfold valD; simp [List.find?]
theorem val_state {m : Nat} {s : Int} : valD [(.inr (Str.ofString "deep"), .ref m), (.inr (Str.ofString "state"), .int s)] (.inr (Str.ofString "state")) = some (.int s) := by
  unfold valD
  rw [List.find?_cons, k_ds]
  simp
theorem put_state {m : Nat} {s : Int} {d : D} : putD [(.inr (Str.ofString "deep"), .ref m), (.inr (Str.ofString "state"), .int s)] (.inr (Str.ofString "state")) d = [(.inr (Str.ofString "deep"), .ref m), (.inr (Str.ofString "state"), d)] := by
  unfold putD hasD
  have := of_decide_eq_false k_ds
  simp [this]
theorem put_deep {m : Nat} {s : Int} {d : D} : putD [(.inr (Str.ofString "deep"), .ref m), (.inr (Str.ofString "state"), .int s)] (.inr (Str.ofString "deep")) d = [(.inr (Str.ofString "deep"), d), (.inr (Str.ofString "state"), .int s)] := by
  unfold putD hasD
  have := of_decide_eq_false k_sd
  simp [this]
theorem ne_nil (S : DS) (xs : List Int) {m k : Nat} (hm : S.h[m]? = some (.lst (xs.map .int))) (hk : S.h[k]? = some (.lst [])) : oNe (.ref m) (.ref k) S = .ok (.bl (!xs.isEmpty)) S := by
  have e1 : pyD S (.ref m) = some (.list (xs.map .int)) := by
    show (match S.h[m]? with | some (.lst xs) => (xs.mapM (toPy S.h 19)).map PyData.list | _ => none) = _
    rw [hm]; dsimp only; rw [toPy_ints]; rfl
  have e2 : pyD S (.ref k) = some (.list []) := by
    show (match S.h[k]? with | some (.lst xs) => (xs.mapM (toPy S.h 19)).map PyData.list | _ => none) = _
    rw [hk]; rfl
  unfold oNe
  rw [e1, e2]
  dsimp only
  rw [if_pos (by rw [shaped_ints]; rfl)]
  cases xs <;> rfl
theorem draw_ok {h : List Ob} {n m : Nat} (dk : Deck h n m) {many : Int} (h1 : 1 ≤ many) (h2 : many < 1073741824) : Ok (F_law_draw [.ref n, .int many] h) fun d S => ∃ r, d = .int r ∧ 0 ≤ r ∧ r < many ∧ Deck S.h n m ∧ Kp n m h S.h := by
  have D0 := dk
  obtain ⟨ne, s, xs, hn, hm, s0, s1, x0, xl⟩ := dk
  have ln := lt_of_at hn
  have lm := lt_of_at hm
  apply ok_runB
  by_cases c : many < 2
  · simp [p_law_draw, c]
    exact ⟨h1, D0, Kp.refl _ _ _⟩
  · have hn2 := at_old (t := [.lst []]) hn
    have hm2 := at_old (t := [.lst []]) hm
    have q1 := ne_nil ⟨[some (.ref n), some (.int many), none, none, none], h ++ [.lst []]⟩ xs hm2 (at_new h _)
    rcases List.eq_nil_or_concat xs with hx | ⟨ys, y, hx⟩
    · subst hx
      simp at q1 hm
      simp [p_law_draw, c, hn, hm, q1, hn2, hm2, val_deep, val_state, put_state]
      have o0 : 0 ≤ (s * 1181783497276652981 + 88172645463325) % 2305843009213693951 := Int.emod_nonneg _ (by decide)
      have o1 : (s * 1181783497276652981 + 88172645463325) % 2305843009213693951 < 2305843009213693951 := Int.emod_lt_of_pos _ (by decide)
      generalize (s * 1181783497276652981 + 88172645463325) % 2305843009213693951 = one at o0 o1
      have o2 : -18446744073709551616 < one := by omega
      have o3 : one < 18446744073709551616 := by omega
      have o4 : 0 < many := by omega
      simp [o2, o3, o4]
      refine ⟨Int.emod_nonneg _ (by omega), Int.emod_lt_of_pos _ o4, ⟨ne, one, [], ?_, ?_, o0, o1, by simp, by simp⟩, ?_⟩
      · rw [List.getElem?_set_self (by simp; omega)]
      · rw [List.getElem?_set_ne ne]; exact hm2
      · intro k ob k1 k2 e
        rw [List.getElem?_set_ne (Ne.symm k1)]
        exact at_old e
    · rw [List.concat_eq_append] at hx
      subst hx
      have y0 : 0 ≤ y := x0 y (by simp)
      have o4 : 0 < many := by omega
      have g1 : ((h ++ [Ob.lst []]).set m (Ob.lst (ys.map D.int)))[n]? = some (.dct [(.inr "deep", .ref m), (.inr "state", .int s)]) := by
        rw [List.getElem?_set_ne (Ne.symm ne)]; exact hn2
      have g2 : ((h ++ [Ob.lst []]).set m (Ob.lst (ys.map D.int)))[m]? = some (.lst (ys.map D.int)) := by
        rw [List.getElem?_set_self (by simp; omega)]
      have yl : ys.length < 1000000 := by simp at xl; omega
      rw [show (ys ++ [y]).isEmpty = false by cases ys <;> rfl] at q1
      simp [p_law_draw, c, hn, hm, q1, hn2, hm2, val_deep, val_state, put_state]
      by_cases c2 : many ≤ y
      · simp [c2, g1, g2, val_deep, o4, h2, yl]
        refine ⟨Int.emod_nonneg _ (by omega), Int.emod_lt_of_pos _ o4, ⟨ne, s, ys ++ [y / many], ?_, ?_, s0, s1, ?_, ?_⟩, ?_⟩
        · rw [List.getElem?_set_ne (Ne.symm ne)]; exact hn2
        · rw [List.getElem?_set_self (by simp; omega)]; simp
        · intro x hx
          rcases List.mem_append.mp hx with hx | hx
          · exact x0 x (by simp [hx])
          · rw [List.mem_singleton.mp hx]; exact Int.ediv_nonneg y0 (by omega)
        · simp at xl ⊢; omega
        · intro k ob k1 k2 e
          rw [List.getElem?_set_ne (Ne.symm k2)]
          exact at_old e
      · simp [c2, o4]
        refine ⟨Int.emod_nonneg _ (by omega), Int.emod_lt_of_pos _ o4, ⟨ne, s, ys, g1, g2, s0, s1, ?_, ?_⟩, ?_⟩
        · exact fun x hx => x0 x (by simp [hx])
        · simp at xl ⊢; omega
        · intro k ob k1 k2 e
          rw [List.getElem?_set_ne (Ne.symm k2)]
          exact at_old e

theorem cut63 {ns : List Int} (hl : ns.length ≤ 63) : cutD (ns.map D.int) none (some 63) = ns.map D.int := by
  apply cut_whole
  rw [List.length_map]
  refine ⟨rfl, ?_⟩
  show (if (63 : Int) < 0 then ((63 : Int) + (ns.length : Int)).toNat else min (63 : Int).toNat ns.length) = ns.length
  rw [if_neg (by decide)]
  exact Nat.min_eq_right hl
def Dk (h : List Ob) (n w : Nat) (ns : List Int) (i : Nat) (S : DS) : Prop := ∃ (a2 a3 a4 : Option D) (m : Nat) (s : Int) (xs : List Int), S.loc = [some (.ro (ns.map D.int)), some (.ref n), a2, a3, a4] ∧ S.h[w]? = some (.lst (ns.map D.int)) ∧ n ≠ m ∧ w ≠ m ∧ n ≠ w ∧ S.h[n]? = some (.dct [(.inr "deep", .ref m), (.inr "state", .int s)]) ∧ S.h[m]? = some (.lst (xs.map D.int)) ∧ 0 ≤ s ∧ (∀ x ∈ xs, 0 ≤ x) ∧ xs.length ≤ i ∧ h.length ≤ n ∧ Kp0 h S.h ∧ s < 2305843009213693951
theorem merge_ds (m : Nat) (s : Int) : mergeD [] [(.inr (Str.ofString "deep"), .ref m), (.inr (Str.ofString "state"), .int s)] = [(.inr (Str.ofString "deep"), .ref m), (.inr (Str.ofString "state"), .int s)] := by
  show putD (putD [] (.inr (Str.ofString "deep")) (.ref m)) (.inr (Str.ofString "state")) (.int s) = _
  have := of_decide_eq_false k_ds
  simp [putD, hasD, this]
theorem deck_ok {ns : List Int} (hl : ns.length ≤ 63) (h : List Ob) : Ok (F_law_deck [.ro (ns.map D.int)] h) fun d S => ∃ n m, d = .ref n ∧ Deck S.h n m ∧ Kp0 h S.h := by
  apply ok_runB
  simp [p_law_deck, dDict, evPairs, keyPairs, keyOf, cut63 hl, at_new, sFor, dIter, iOf, merge_ds]
  apply ok_forO (Dk h (h.length + 2) (h.length + 3) ns) (ns.map D.int)
  · rw [List.length_map]; omega
  · refine ⟨none, none, none, h.length, _, [], rfl, by simp, by omega, by omega, by omega, by simp; rfl, by simp, by omega, by simp, by simp, by omega, Kp0.app _ _, by omega⟩
  · rintro i S ⟨_, _, _, _, _, _, _, e, _⟩
    exact e
  · rintro i d ⟨loc, hh⟩ hd ⟨a2, a3, a4, m, s, xs, rfl, hw, nm, wm, nw, hn, hm, s0, x0, xl, hln, kp, s1⟩
    dsimp only at hw hn hm kp
    obtain ⟨c, hc, rfl⟩ : ∃ c, ns[i]? = some c ∧ d = .int c := by
      rw [List.getElem?_map] at hd
      cases q : ns[i]? with
      | none => rw [q] at hd; cases hd
      | some c => rw [q] at hd; cases hd; exact ⟨c, rfl, rfl⟩
    refine ⟨_, rfl, ?_⟩
    simp [hn, hm, val_deep, val_state, put_deep, put_state]
    have ln := lt_of_at hn
    have lm := lt_of_at hm
    have lw := lt_of_at hw
    have w0 : 0 ≤ if c < 0 then -c else c := by split <;> omega
    generalize (if c < 0 then -c else c) = whole at w0
    have hk : ∀ k ob, h[k]? = some ob → k ≠ h.length + 2 := fun k ob e q => by have := lt_of_at e; omega
    by_cases big : 1000000000000000000 ≤ whole
    · have g1 : (hh ++ [Ob.lst [.int whole]])[h.length + 2]? = some (.dct [(.inr "deep", .ref m), (.inr "state", .int s)]) := at_old hn
      have g2 : (hh ++ [Ob.lst [.int whole]])[m]? = some (.lst (xs.map D.int)) := at_old hm
      have g3 : (hh ++ [Ob.lst [.int whole]])[hh.length]? = some (.lst [.int whole]) := at_new _ _
      have g4 : (hh ++ [Ob.lst [D.int whole], Ob.lst (D.int whole :: xs.map D.int)])[h.length + 2]? = some (.dct [(.inr "deep", .ref m), (.inr "state", .int s)]) := at_old hn
      have g5 : (hh ++ [Ob.lst [D.int whole], Ob.lst (D.int whole :: xs.map D.int)])[h.length + 3]? = some (.lst (ns.map D.int)) := at_old hw
      have li : i < ns.length := (List.getElem?_eq_some_iff.mp hc).1
      have e1 : 1 + xs.length ≤ 1000000 := by omega
      have g6 : ((hh ++ [Ob.lst [D.int whole], Ob.lst (D.int whole :: xs.map D.int)]).set (h.length + 2) (.dct [(.inr "deep", .ref (hh.length + 1)), (.inr "state", .int s)]))[h.length + 2]? = some (.dct [(.inr "deep", .ref (hh.length + 1)), (.inr "state", .int s)]) := List.getElem?_set_self (by simp; omega)
      simp [big, g1, g2, g3, g4, g6, val_deep, val_state, put_deep, put_state, e1]
      refine ⟨some (.int c), some (.int whole), _, hh.length + 1, _, whole :: xs, rfl, ?_, ?_, ?_, nw, List.getElem?_set_self (by simp; omega), ?_, ?_, ?_, ?_, hln, ?_, ?_⟩
      · rw [List.getElem?_set_ne (by omega)]; exact g5
      · omega
      · omega
      · rw [List.getElem?_set_ne (by omega), List.getElem?_append_right (by omega)]; simp
      · exact Int.emod_nonneg _ (by decide)
      · exact fun x hx => by
          rcases List.mem_cons.mp hx with rfl | hx
          · exact w0
          · exact x0 x hx
      · simp; omega
      · intro k ob e
        rw [List.getElem?_set_ne (Ne.symm (hk k ob e))]
        exact at_old (kp k ob e)
      · exact Int.emod_lt_of_pos _ (by decide)
    · simp [big, hn, val_state, put_state]
      refine ⟨some (.int c), some (.int whole), _, m, _, xs, rfl, ?_, nm, wm, nw, List.getElem?_set_self ln, ?_, ?_, x0, ?_, hln, ?_, ?_⟩
      · rw [List.getElem?_set_ne (by omega)]; exact hw
      · rw [List.getElem?_set_ne nm]; exact hm
      · exact Int.emod_nonneg _ (by decide)
      · omega
      · intro k ob e
        rw [List.getElem?_set_ne (Ne.symm (hk k ob e))]
        exact kp k ob e
      · exact Int.emod_lt_of_pos _ (by decide)
  · rintro ⟨loc, hh⟩ ⟨a2, a3, a4, m, s, xs, rfl, hw, nm, wm, nw, hn, hm, s0, x0, xl, hln, kp, s1⟩
    dsimp only at hw hn hm kp
    rw [List.length_map] at xl
    simp
    exact ⟨⟨m, nm, s, xs, hn, hm, s0, s1, x0, by omega⟩, kp⟩

theorem Deck.keep {h h' : List Ob} {n m : Nat} (dk : Deck h n m) (k : Kp0 h h') : Deck h' n m := by
  obtain ⟨ne, s, xs, hn, hm, r⟩ := dk
  exact ⟨ne, s, xs, k _ _ hn, k _ _ hm, r⟩
theorem Deck.lst {h : List Ob} {n m k : Nat} {xs : List D} (dk : Deck h n m) (hk : h[k]? = some (.lst xs)) : k ≠ n := by
  obtain ⟨ne, s, ys, hn, hm, r⟩ := dk
  rintro rfl
  rw [hn] at hk; cases hk
theorem pick_ok {h : List Ob} {n m k : Nat} (dk : Deck h n m) {xs : List D} (hk : h[k]? = some (.lst xs)) (km : k ≠ m) (h1 : 1 ≤ xs.length) (h2 : xs.length < 1000000) : Ok (F_law_pick [.ref n, .ref k] h) fun d S => d ∈ xs ∧ Deck S.h n m ∧ Kp n m h S.h := by
  apply ok_runB
  obtain ⟨d1, S1, e1, r, rfl, r0, r1, D1, k1⟩ := (draw_ok dk (many := xs.length) (by omega) (by omega)).ex
  obtain ⟨d, hd, hm⟩ := atI_nat r0 r1
  have hk1 := k1 k _ (dk.lst hk) km hk
  simp [p_law_pick, hk, e1, hk1, hd]
  exact ⟨hm, D1, k1⟩
end K05

namespace K05
open PySem L2 PySem.Spec PyProof.Rows Den
/-! ### G. books -/
def subs {α : Type} : List α → List (List α)
  | [] => [[]]
  | x :: xs => subs xs ++ (subs xs).map (fun s => x :: s)
theorem subs_cons {α : Type} {x : α} {xs s : List α} (h : s ∈ subs xs) : s ∈ subs (x :: xs) ∧ x :: s ∈ subs (x :: xs) :=
  ⟨List.mem_append.mpr (.inl h), List.mem_append.mpr (.inr (List.mem_map.mpr ⟨s, h, rfl⟩))⟩
theorem subs_nil {α : Type} : ∀ xs : List α, [] ∈ subs xs
  | [] => by simp [subs]
  | x :: xs => (subs_cons (subs_nil xs)).1
abbrev Ts := Str × Str
abbrev Mn := Bool × List Str
def six : List Ts := [("G1", "G2"), ("G1", "S1"), ("G1", "S2"), ("G2", "S1"), ("G2", "S2"), ("S1", "S2")]
def four : List Str := ["got higher", "got lower", "sent higher", "sent lower"]
def testD (t : Ts) : D := .tup [.str t.1, .str t.2]
def manD (m : Mn) : D := .tup [.bl m.1, .tup (m.2.map .str)]
def testS (t : Ts) : Str := t.1 ++ Str.ofString "=" ++ t.2
def testsL (T : List Ts) : Str := if T.isEmpty then Str.ofString "tests none" else Str.ofString "tests " ++ Str.join (Str.ofString ", ") (T.map testS)
def headS (w : Bool) : Str := if w then Str.ofString "waits" else Str.ofString "any time"
def manL (m : Mn) : Str := if m.2.isEmpty then headS m.1 else headS m.1 ++ Str.ofString ": " ++ Str.join (Str.ofString ", ") m.2
def bookT (T : List Ts) (ms : List Mn) : Str := Str.join (Str.ofString "\n") (testsL T :: ms.map manL)
def bookD (T : List Ts) (ms : List Mn) : D := .tup [.tup (T.map testD), .tup (ms.map manD)]
structure Bk (T : List Ts) (ms : List Mn) : Prop where
  t : T ∈ subs six
  m : ∀ x ∈ ms, x.2 ∈ subs four
  l2 : 2 ≤ ms.length
  l6 : ms.length ≤ 6
/-! what is reckoned once for all -/
def tB (T : List Ts) : Bool := ascB' (testsL T) && decide ((testsL T).length ≤ 60) && decide (10 ∉ (testsL T).cps.toList) && joinOk (Str.ofString ", ") (T.map testS) && decide ((Str.ofString "tests ").length + (Str.join (Str.ofString ", ") (T.map testS)).length ≤ 1000000)
  where ascB' (x : Str) : Bool := x.cps.toList.all (fun c => decide (c < 128))
def mB (m : Mn) : Bool := tB.ascB' (manL m) && decide ((manL m).length ≤ 60) && decide (10 ∉ (manL m).cps.toList) && joinOk (Str.ofString ", ") m.2 && decide ((headS m.1).length + 2 ≤ 100) && decide ((headS m.1 ++ Str.ofString ": ").length + (Str.join (Str.ofString ", ") m.2).length ≤ 1000000)
theorem tB_all : (subs six).all tB = true := by decide +kernel
theorem mB_all : ((subs four).all fun n => mB (true, n) && mB (false, n)) = true := by decide +kernel
theorem t_ok {T : List Ts} (h : T ∈ subs six) : Asc (testsL T) ∧ (testsL T).length ≤ 60 ∧ 10 ∉ (testsL T).cps.toList ∧ joinOk (Str.ofString ", ") (T.map testS) = true ∧ (Str.ofString "tests ").length + (Str.join (Str.ofString ", ") (T.map testS)).length ≤ 1000000 := by
  have := List.all_eq_true.mp tB_all T h
  unfold tB at this
  simp only [Bool.and_eq_true, decide_eq_true_eq] at this
  exact ⟨asc_of this.1.1.1.1, this.1.1.1.2, this.1.1.2, this.1.2, this.2⟩
theorem m_ok {m : Mn} (h : m.2 ∈ subs four) : Asc (manL m) ∧ (manL m).length ≤ 60 ∧ 10 ∉ (manL m).cps.toList ∧ joinOk (Str.ofString ", ") m.2 = true ∧ (headS m.1).length + 2 ≤ 100 ∧ (headS m.1 ++ Str.ofString ": ").length + (Str.join (Str.ofString ", ") m.2).length ≤ 1000000 := by
  have := List.all_eq_true.mp mB_all m.2 h
  rw [Bool.and_eq_true] at this
  have hb : mB m = true := by
    obtain ⟨w, n⟩ := m
    cases w
    · exact this.2
    · exact this.1
  unfold mB at hb
  simp only [Bool.and_eq_true, decide_eq_true_eq] at hb
  exact ⟨asc_of hb.1.1.1.1.1, hb.1.1.1.1.2, hb.1.1.1.2, hb.1.1.2, hb.1.2, hb.2⟩
theorem nl_len : (Str.ofString "\n").length = 1 := by decide +kernel
theorem bookJ {T : List Ts} {ms : List Mn} (b : Bk T ms) : joinOk (Str.ofString "\n") (testsL T :: ms.map manL) = true ∧ (bookT T ms).length ≤ 1000 ∧ Asc (bookT T ms) := by
  obtain ⟨a1, a2, _⟩ := t_ok b.t
  have gl : ∀ u ∈ ms.map manL, Asc u ∧ u.length ≤ 60 := by
    intro u h
    obtain ⟨m, hm, rfl⟩ := List.mem_map.mp h
    obtain ⟨c1, c2, _⟩ := m_ok (b.m m hm)
    exact ⟨c1, c2⟩
  have l1 := lenS_le (n := 60) fun u hu => (gl u hu).2
  rw [List.length_map] at l1
  have l6 := b.l6
  have l2 : lenS (testsL T :: ms.map manL) = (testsL T).length + lenS (ms.map manL) := rfl
  have j1 := join_len (Str.ofString "\n") (testsL T :: ms.map manL)
  rw [nl_len, List.length_cons, List.length_map] at j1
  refine ⟨joinOk_of (by rw [nl_len, List.length_cons, List.length_map]; omega), by unfold bookT; omega, asc_join (asc_of (by decide +kernel)) fun u hu => ?_⟩
  rcases List.mem_cons.mp hu with rfl | hu
  · exact a1
  · exact (gl u hu).1
/-! writing -/
def joinE (d : D) : Option D := match d with
  | .tup [.str a, .str b] => some (.str (a ++ Str.ofString "=" ++ b))
  | _ => none
theorem joinE_all : ∀ T : List Ts, (T.map testD).filterMap joinE = (T.map testS).map D.str
  | [] => rfl
  | t :: T => by
    rw [List.map_cons, List.filterMap_cons, joinE_all T]; rfl
theorem eq_len : (Str.ofString "=").length = 1 := by decide +kernel
theorem six_len {T : List Ts} (h : T ∈ subs six) : T.length ≤ 6 ∧ ∀ t ∈ T, t ∈ six := by
  have gen : ∀ (l : List Ts) (T : List Ts), T ∈ subs l → T.length ≤ l.length ∧ ∀ t ∈ T, t ∈ l := by
    intro l
    induction l with
    | nil =>
      intro T h
      have : T = [] := by simpa [subs] using h
      subst this; exact ⟨Nat.le_refl _, fun _ h => (nomatch h)⟩
    | cons x xs ih =>
      intro T h
      rcases List.mem_append.mp h with h | h
      · obtain ⟨h1, h2⟩ := ih T h
        exact ⟨by simp; omega, fun t ht => List.mem_cons_of_mem _ (h2 t ht)⟩
      · obtain ⟨s, hs, rfl⟩ := List.mem_map.mp h
        obtain ⟨h1, h2⟩ := ih s hs
        exact ⟨by simp; omega, fun t ht => by
          rcases List.mem_cons.mp ht with rfl | ht
          · exact List.mem_cons_self
          · exact List.mem_cons_of_mem _ (h2 t ht)⟩
  exact gen six T h
theorem six_each {t : Ts} (h : t ∈ six) : t.1.length = 2 ∧ t.2.length = 2 ∧ Good t.1 ∧ Good t.2 := by
  unfold six at h
  simp only [List.mem_cons, List.not_mem_nil, or_false] at h
  rcases h with rfl | rfl | rfl | rfl | rfl | rfl <;> exact ⟨by decide +kernel, by decide +kernel, good_of (by decide +kernel), good_of (by decide +kernel)⟩
end K05

namespace K05
open PySem L2 PySem.Spec PyProof.Rows Den
/-! ### H. reading -/
theorem bls_map' : ∀ bs : List Bool, blsOf (bs.map D.bl) = some bs
  | [] => rfl
  | b :: bs => by
    show (blsOf (bs.map D.bl)).map (fun z => b :: z) = _
    rw [bls_map' bs]; rfl
def testP (t : Ts) : PyData := .tuple [.str t.1, .str t.2]
theorem toPy_test (h : List Ob) (n : Nat) (t : Ts) : toPy h (n + 1) (testD t) = some (testP t) := by
  show ([D.str t.1, D.str t.2].mapM (toPy h n)).map PyData.tuple = _
  cases n <;> rfl
theorem toPy_tests (h : List Ob) (n : Nat) : ∀ T : List Ts, (T.map testD).mapM (toPy h (n + 1)) = some (T.map testP)
  | [] => rfl
  | t :: T => by
    rw [List.map_cons, List.mapM_cons, toPy_test, toPy_tests h n T]; rfl
theorem py_test (S : DS) (t : Ts) : pyD S (testD t) = some (testP t) := toPy_test S.h 19 t
def ltB (p q : PyData) : Bool := PySem.W.alike p q && notNone p && decide (p.depth ≤ 64) && PySem.W.dataLt p q
theorem ltA_of {S : DS} {x y : D} {p q : PyData} (h1 : pyD S x = some p) (h2 : pyD S y = some q) (h : ltB p q = true) : oLtA x y S = .ok (.bl true) S := by
  unfold ltB at h
  rw [Bool.and_eq_true] at h
  unfold oLtA
  rw [h1, h2]
  dsimp only
  rw [h.1, if_pos rfl, h.2]
theorem ascT : ((subs six).all fun T => (T.zip (T.drop 1)).all fun p => ltB (testP p.1) (testP p.2)) = true := by decide +kernel
theorem ascW : ((subs four).all fun T => (T.zip (T.drop 1)).all fun p => ltB (.str p.1) (.str p.2)) = true := by decide +kernel
theorem cut_d1 (xs : List D) : Den.cutD xs (some 1) none = xs.drop 1 := by
  cases xs with
  | nil => rfl
  | cons x xs => rw [cut_tl]; rfl
theorem asc_ok {α : Type} (f : α → D) (xs : List α) (hl : xs.length ≤ 1000) (lt : ∀ p ∈ xs.zip (xs.drop 1), ∀ S, oLtA (f p.1) (f p.2) S = .ok (.bl true) S) (h : List Ob) : Ok (F_is_ascending [.tup (xs.map f)] h) fun d S => d = .bl true ∧ Kp0 h S.h := by
  apply ok_runB
  have z : zipD (xs.map f) ((xs.map f).drop 1) = (xs.zip (xs.drop 1)).map fun p => .tup [f p.1, f p.2] := by
    unfold zipD
    rw [← List.map_drop, List.zip_map, List.map_map]
    rfl
  have it : dZip (dCons (dVar 0) (dCons (dSl (dVar 0) (dPS (dC (.int 1))) dPN) dNil)) ⟨[some (.tup (xs.map f)), none, none], h⟩ = .ok (.vals ((xs.zip (xs.drop 1)).map fun p => .tup [f p.1, f p.2])) ⟨[some (.tup (xs.map f)), none, none], h⟩ := by
    unfold dZip
    simp [cut_d1]
    simpa using z
  have c : dComp [1, 2] (dZip (dCons (dVar 0) (dCons (dSl (dVar 0) (dPS (dC (.int 1))) dPN) dNil))) (gTup 2 (gCons (gN 1) (gCons (gN 2) gNil))) tTrue (dBin oLtA (dVar 1) (dVar 2)) ⟨[some (.tup (xs.map f)), none, none], h⟩ = _ :=
    comp_pure (fun _ => some (.bl true)) it rfl (by rw [List.length_map, List.length_zip, List.length_drop]; omega) fun d hd => by
      obtain ⟨p, hp, rfl⟩ := List.mem_map.mp hd
      refine ⟨_, rfl, ?_⟩
      simp [lt p hp]
  have e : ((xs.zip (xs.drop 1)).map fun p => D.tup [f p.1, f p.2]).filterMap (fun _ => some (D.bl true)) = ((xs.zip (xs.drop 1)).map fun _ => true).map D.bl := by
    rw [fm_some, List.map_map, List.map_map]; rfl
  rw [e] at c
  have al : ((xs.zip (xs.drop 1)).map fun _ => true).all id = true := by
    rw [List.all_map, List.all_eq_true]
    intro _ _; rfl
  simp [p_is_ascending, c, bls_map', al, -List.map_map, -List.all_map]
  exact Kp0.app _ _
end K05

namespace K05
open PySem L2 PySem.Spec PyProof.Rows Den
/-! ### I. ascending rows of some things -/
section
variable {α : Type} [BEq α] [LawfulBEq α]
theorem srt_eq (r : α → Nat) : ∀ {a b : List α}, a.Pairwise (fun x y => r x < r y) → b.Pairwise (fun x y => r x < r y) → (∀ x, x ∈ a ↔ x ∈ b) → a = b
  | [], [], _, _, _ => rfl
  | [], y :: b, _, _, h => absurd ((h y).mpr (by simp)) (by simp)
  | x :: a, [], _, _, h => absurd ((h x).mp (by simp)) (by simp)
  | x :: a, y :: b, pa, pb, h => by
    obtain ⟨pa1, pa2⟩ := List.pairwise_cons.mp pa
    obtain ⟨pb1, pb2⟩ := List.pairwise_cons.mp pb
    have hxy : x = y := by
      rcases List.mem_cons.mp ((h x).mp (by simp)) with e | e
      · exact e
      · rcases List.mem_cons.mp ((h y).mpr (by simp)) with e2 | e2
        · exact e2.symm
        · have := pb1 x e; have := pa1 y e2; omega
    subst hxy
    rw [srt_eq r pa2 pb2 fun z => ?_]
    constructor
    · intro hz
      rcases List.mem_cons.mp ((h z).mp (List.mem_cons_of_mem _ hz)) with e | e
      · subst e; have := pa1 z hz; omega
      · exact e
    · intro hz
      rcases List.mem_cons.mp ((h z).mpr (List.mem_cons_of_mem _ hz)) with e | e
      · subst e; have := pb1 z hz; omega
      · exact e
/-- neighbours ascend: all do -/
theorem pair_zip (r : α → Nat) : ∀ {a : List α}, (∀ p ∈ a.zip (a.drop 1), r p.1 < r p.2) → a.Pairwise (fun x y => r x < r y)
  | [], _ => .nil
  | [x], _ => by simp
  | x :: y :: a, h => by
    have ih : (y :: a).Pairwise (fun x y => r x < r y) := pair_zip r fun p hp => h p (by simp; right; simpa using hp)
    have h1 : r x < r y := h (x, y) (by simp)
    refine List.pairwise_cons.mpr ⟨fun z hz => ?_, ih⟩
    rcases List.mem_cons.mp hz with rfl | hz
    · exact h1
    · have := (List.pairwise_cons.mp ih).1 z hz
      omega
theorem zip_pair (r : α → Nat) : ∀ {a : List α}, a.Pairwise (fun x y => r x < r y) → ∀ p ∈ a.zip (a.drop 1), r p.1 < r p.2
  | [], _, p, hp => by simp at hp
  | [x], _, p, hp => by simp at hp
  | x :: y :: a, h, p, hp => by
    obtain ⟨h1, h2⟩ := List.pairwise_cons.mp h
    have hp2 : p = (x, y) ∨ p ∈ (y :: a).zip ((y :: a).drop 1) := by simpa using hp
    rcases hp2 with rfl | hp2
    · exact h1 y (by simp)
    · exact zip_pair r h2 p hp2
/-- all of l, and ascending: just what l has of it -/
theorem asc_iff (r : α → Nat) {l : List α} (hl : l.Pairwise (fun x y => r x < r y)) {a : List α} (hm : ∀ x ∈ a, x ∈ l) : ((a.zip (a.drop 1)).all fun p => decide (r p.1 < r p.2)) = (a == l.filter fun x => a.contains x) := by
  have pf : (l.filter fun x => a.contains x).Pairwise (fun x y => r x < r y) := List.Pairwise.filter _ hl
  have mm : ∀ x, x ∈ a ↔ x ∈ l.filter fun x => a.contains x := fun x => by
    rw [List.mem_filter, List.contains_iff_mem]
    exact ⟨fun h => ⟨hm x h, h⟩, fun h => h.2⟩
  cases hb : (a == l.filter fun x => a.contains x) with
  | true =>
    have e := eq_of_beq hb
    rw [List.all_eq_true]
    intro p hp
    exact decide_eq_true (zip_pair r (by rw [e]; exact pf) p hp)
  | false =>
    cases hc : ((a.zip (a.drop 1)).all fun p => decide (r p.1 < r p.2)) with
    | false => rfl
    | true =>
      have := srt_eq r (pair_zip r fun p hp => of_decide_eq_true (List.all_eq_true.mp hc p hp)) pf mm
      rw [← this, beq_self_eq_true] at hb
      cases hb
end
def rT (t : Ts) : Nat := six.findIdx (· == t)
def rW (w : Str) : Nat := four.findIdx (· == w)
theorem six_asc : six.Pairwise (fun x y => rT x < rT y) := by decide +kernel
theorem four_asc : four.Pairwise (fun x y => rW x < rW y) := by decide +kernel
def ltD (p q : PyData) : Bool := PySem.W.alike p q && notNone p && decide (p.depth ≤ 64)
theorem ltT_all : (six.all fun t => six.all fun u => ltD (testP t) (testP u) && (PySem.W.dataLt (testP t) (testP u) == decide (rT t < rT u))) = true := by decide +kernel
theorem ltW_all : (four.all fun t => four.all fun u => ltD (.str t) (.str u) && (PySem.W.dataLt (.str t) (.str u) == decide (rW t < rW u))) = true := by decide +kernel
theorem ltA_is {S : DS} {x y : D} {p q : PyData} {b : Bool} (h1 : pyD S x = some p) (h2 : pyD S y = some q) (h : (ltD p q && (PySem.W.dataLt p q == b)) = true) : oLtA x y S = .ok (.bl b) S := by
  rw [Bool.and_eq_true] at h
  unfold ltD at h
  unfold oLtA
  rw [h1, h2]
  dsimp only
  rw [h.1, if_pos rfl, eq_of_beq h.2]
theorem asc_val {α : Type} (f : α → D) (g : α → α → Bool) (xs : List α) (hl : xs.length ≤ 30000) (lt : ∀ p ∈ xs.zip (xs.drop 1), ∀ S, oLtA (f p.1) (f p.2) S = .ok (.bl (g p.1 p.2)) S) (h : List Ob) : Ok (F_is_ascending [.tup (xs.map f)] h) fun d S => d = .bl ((xs.zip (xs.drop 1)).all fun p => g p.1 p.2) ∧ Kp0 h S.h := by
  apply ok_runB
  have z : zipD (xs.map f) ((xs.map f).drop 1) = (xs.zip (xs.drop 1)).map fun p => .tup [f p.1, f p.2] := by
    unfold zipD
    rw [← List.map_drop, List.zip_map, List.map_map]
    rfl
  have it : dZip (dCons (dVar 0) (dCons (dSl (dVar 0) (dPS (dC (.int 1))) dPN) dNil)) ⟨[some (.tup (xs.map f)), none, none], h⟩ = .ok (.vals ((xs.zip (xs.drop 1)).map fun p => .tup [f p.1, f p.2])) ⟨[some (.tup (xs.map f)), none, none], h⟩ := by
    unfold dZip
    simp [cut_d1]
    simpa using z
  obtain ⟨gD, hgD⟩ : ∃ gD : D → Option D, ∀ p ∈ xs.zip (xs.drop 1), gD (.tup [f p.1, f p.2]) = some (.bl (g p.1 p.2)) := by
    refine ⟨fun d => match d with
      | .tup [x, y] => (match oLtA x y ⟨[], []⟩ with
        | .ok r _ => some r
        | _ => none)
      | _ => none, fun p hp => ?_⟩
    dsimp only
    rw [lt p hp]
  have c : dComp [1, 2] (dZip (dCons (dVar 0) (dCons (dSl (dVar 0) (dPS (dC (.int 1))) dPN) dNil))) (gTup 2 (gCons (gN 1) (gCons (gN 2) gNil))) tTrue (dBin oLtA (dVar 1) (dVar 2)) ⟨[some (.tup (xs.map f)), none, none], h⟩ = _ :=
    comp_pure gD it rfl (by rw [List.length_map, List.length_zip, List.length_drop]; omega) fun d hd => by
      obtain ⟨p, hp, rfl⟩ := List.mem_map.mp hd
      refine ⟨_, rfl, ?_⟩
      rw [hgD p hp]
      simp [lt p hp]
  have e : ((xs.zip (xs.drop 1)).map fun p => D.tup [f p.1, f p.2]).filterMap gD = ((xs.zip (xs.drop 1)).map fun p => g p.1 p.2).map D.bl := by
    rw [List.filterMap_map, List.map_map]
    generalize hL : xs.zip (xs.drop 1) = L at hgD
    clear c it z lt hL
    induction L with
    | nil => rfl
    | cons p L ih =>
      rw [List.filterMap_cons, show (gD ∘ fun p : α × α => D.tup [f p.1, f p.2]) p = some (.bl (g p.1 p.2)) from hgD p (by simp)]
      dsimp only
      rw [ih fun q hq => hgD q (List.mem_cons_of_mem _ hq), List.map_cons]
      rfl
  rw [e] at c
  simp [p_is_ascending, c, bls_map', -List.map_map, -List.all_map]
  exact ⟨by rw [List.all_map]; rfl, Kp0.app _ _⟩
end K05

namespace K05
open PySem L2 PySem.Spec PyProof.Rows Den
/-! ### J. the line of tests -/
theorem th_len : (Str.ofString "tests ").length = 6 := by decide +kernel
theorem cm_len : (Str.ofString ", ").length = 2 := by decide +kernel
theorem eqs_ne : Txt.split ⟨#[]⟩ (Str.ofString "=") ≠ [] := by decide +kernel
def inSix (p : Str) : Bool := six.any fun t => testS t == p
def pr (p : Str) : Ts := match Txt.split p (Str.ofString "=") with
  | [a, b] => (a, b)
  | _ => (p, p)
def spT (p : Str) : D := .tup ((Txt.split p (Str.ofString "=")).map D.str)
theorem pr_all : (six.all fun t => (pr (testS t) == t) && (Txt.split (testS t) (Str.ofString "=") == [t.1, t.2])) = true := by decide +kernel
theorem pr_testS {t : Ts} (h : t ∈ six) : pr (testS t) = t ∧ Txt.split (testS t) (Str.ofString "=") = [t.1, t.2] := by
  have := List.all_eq_true.mp pr_all t h
  rw [Bool.and_eq_true] at this
  exact ⟨eq_of_beq this.1, eq_of_beq this.2⟩
theorem inSix_iff {p : Str} : inSix p = true ↔ ∃ t ∈ six, testS t = p := by
  unfold inSix
  rw [List.any_eq_true]
  constructor
  · rintro ⟨t, ht, e⟩; exact ⟨t, ht, eq_of_beq e⟩
  · rintro ⟨t, ht, e⟩; exact ⟨t, ht, by rw [e]; exact beq_self_eq_true _⟩
theorem inSix_pr {p : Str} (h : inSix p = true) : pr p ∈ six ∧ testS (pr p) = p ∧ spT p = testD (pr p) := by
  obtain ⟨t, ht, rfl⟩ := inSix_iff.mp h
  obtain ⟨e1, e2⟩ := pr_testS ht
  rw [e1]
  refine ⟨ht, rfl, ?_⟩
  unfold spT
  rw [e2]
  rfl
theorem eqv_two (a b : Str) : ∀ ws : List Str, PyData.eqv (.tuple [.str a, .str b]) (.tuple (ws.map PyData.str)) = ([a, b] == ws)
  | [] => rfl
  | [x] => by
    show ((a == x) && false) = _
    simp
  | [x, y] => by
    show ((a == x) && ((b == y) && true)) = ([a, b] == [x, y])
    simp [List.beq_cons₂] 
  | x :: y :: z :: r => by
    show ((a == x) && ((b == y) && false)) = _
    simp
theorem two_split {t : Ts} (ht : t ∈ six) (p : Str) : ([t.1, t.2] == Txt.split p (Str.ofString "=")) = (testS t == p) := by
  have e := (pr_testS ht).2
  by_cases h : testS t = p
  · subst h
    rw [e, beq_self_eq_true, beq_self_eq_true]
  · rw [beq_false_of_ne h]
    apply beq_false_of_ne
    intro q
    apply h
    have := StrLaws.join_split p (Str.ofString "=")
    rw [← q] at this
    exact this
theorem not_in {p : Str} (g : Good p) (S : DS) : oNotIn (spT p) g_TESTS S = .ok (.bl (!inSix p)) S := by
  have gs : ∀ u ∈ Txt.split p (Str.ofString "="), Good u := good_split g
  have sT : SeqAt.shaped (.tuple (six.map testP)) = true := by decide +kernel
  have e1 : pyD S (spT p) = some (.tuple ((Txt.split p (Str.ofString "=")).map PyData.str)) := by
    show (((Txt.split p (Str.ofString "=")).map D.str).mapM (toPy S.h 19)).map PyData.tuple = _
    rw [toPy_strs]; rfl
  have e2 : (six.map testD).mapM (pyD S) = some (six.map testP) := toPy_tests S.h 19 six
  have e3 : ((six.map testP).any fun z => PyData.eqv z (.tuple ((Txt.split p (Str.ofString "=")).map PyData.str))) = inSix p := by
    have gen : ∀ l : List Ts, (∀ t ∈ l, t ∈ six) → ((l.map testP).any fun z => PyData.eqv z (.tuple ((Txt.split p (Str.ofString "=")).map PyData.str))) = l.any fun t => testS t == p := by
      intro l
      induction l with
      | nil => intro _; rfl
      | cons t l ih =>
        intro hm
        rw [List.map_cons, List.any_cons, List.any_cons, ih fun x hx => hm x (List.mem_cons_of_mem _ hx)]
        congr 1
        show PyData.eqv (.tuple [.str t.1, .str t.2]) _ = _
        rw [eqv_two, two_split (hm t (by simp))]
    exact gen six fun _ h => h
  have e : inD (spT p) g_TESTS S = some (inSix p) := by
    show (match pyD S (spT p), (six.map testD).mapM (pyD S) with
      | some p, some ps => if SeqAt.shaped p && SeqAt.shaped (.tuple ps) then some (ps.any fun z => PyData.eqv z p) else none
      | _, _ => none) = _
    rw [e1, e2]
    dsimp only
    rw [shaped_strsT gs, sT, if_pos (by rfl), e3]
  unfold oNotIn
  rw [e]
theorem numD_cons (k : Int) (x : D) (xs : List D) : numD k (x :: xs) = .tup [.int k, x] :: numD (k + 1) xs := by
  unfold numD
  rw [List.mapIdx_cons]
  congr 1
  · simp
  · congr 1
    funext i d
    have e : k + ((i + 1 : Nat) : Int) = k + 1 + (i : Nat) := by omega
    show D.tup [.int (k + ((i + 1 : Nat) : Int)), d] = D.tup [.int (k + 1 + (i : Nat)), d]
    rw [e]
def bodyE : DSt := sIf (tV (dBin oNotIn (dVar 2) (dC g_TESTS))) (sRet (dTup (dCons (dC (.str "test")) (dCons (dVar 1) dNil)))) sNop
theorem loopE (v : Option D) (h : List Ob) : ∀ (P : List Str) (k : Int) (a1 a2 : Option D), (∀ p ∈ P, Good p) →
    (P.all inSix = true → ∃ b1 b2, forV (gTup 2 (gCons (gN 1) (gCons (gN 2) gNil))) bodyE (numD k (P.map spT)) ⟨[v, a1, a2], h⟩ = .ok .next ⟨[v, b1, b2], h⟩) ∧
    (P.all inSix = false → ∃ d S', forV (gTup 2 (gCons (gN 1) (gCons (gN 2) gNil))) bodyE (numD k (P.map spT)) ⟨[v, a1, a2], h⟩ = .ok (.ret d) S' ∧ Den.isNon d = false ∧ S'.h = h)
  | [], k, a1, a2, _ => ⟨fun _ => ⟨a1, a2, rfl⟩, fun e => by cases e⟩
  | p :: P, k, a1, a2, g => by
    obtain ⟨ih1, ih2⟩ := loopE v h P (k + 1) (some (.int k)) (some (spT p)) fun q hq => g q (List.mem_cons_of_mem _ hq)
    have ni := not_in (g p (by simp))
    have bd : bodyE ⟨[v, some (.int k), some (spT p)], h⟩ = if inSix p = true then .ok .next ⟨[v, some (.int k), some (spT p)], h⟩ else .ok (.ret (.tup [.str "test", .int k])) ⟨[v, some (.int k), some (spT p)], h⟩ := by
      unfold bodyE
      cases hs : inSix p <;> simp [ni, hs]
    have st : ∀ S2 f, bodyE ⟨[v, some (.int k), some (spT p)], h⟩ = .ok f S2 → forV (gTup 2 (gCons (gN 1) (gCons (gN 2) gNil))) bodyE (numD k ((p :: P).map spT)) ⟨[v, a1, a2], h⟩ = match f with
        | .next => forV (gTup 2 (gCons (gN 1) (gCons (gN 2) gNil))) bodyE (numD (k + 1) (P.map spT)) S2
        | .cont => forV (gTup 2 (gCons (gN 1) (gCons (gN 2) gNil))) bodyE (numD (k + 1) (P.map spT)) S2
        | .brk => .ok .next S2
        | .ret d => .ok (.ret d) S2 := fun S2 f hb => by
      rw [List.map_cons, numD_cons]
      conv => lhs; unfold forV
      rw [g_two]
      dsimp only [List.set]
      rw [hb]
      rfl
    rw [List.all_cons]
    cases hs : inSix p with
    | true =>
      rw [hs, if_pos rfl] at bd
      have := st _ _ bd
      dsimp only at this
      rw [this, Bool.true_and]
      exact ⟨ih1, ih2⟩
    | false =>
      rw [hs, if_neg (by decide)] at bd
      have := st _ _ bd
      dsimp only at this
      rw [this, Bool.false_and]
      exact ⟨fun e => (by cases e), fun _ => ⟨_, _, rfl, rfl, rfl⟩⟩
def selT (P : List Str) : List Ts := six.filter fun t => P.contains (testS t)
def okT (P : List Str) : Bool := P == (selT P).map testS
theorem testS_inj {t u : Ts} (ht : t ∈ six) (hu : u ∈ six) (e : testS t = testS u) : t = u := by
  rw [← (pr_testS ht).1, e, (pr_testS hu).1]
theorem okT_all {P : List Str} (h : okT P = true) : P.all inSix = true := by
  rw [List.all_eq_true]
  intro p hp
  have e := eq_of_beq h
  rw [e] at hp
  obtain ⟨t, ht, rfl⟩ := List.mem_map.mp hp
  exact inSix_iff.mpr ⟨t, (List.mem_filter.mp ht).1, rfl⟩
theorem okT_pr {P : List Str} (h : P.all inSix = true) : okT P = (P.map pr == six.filter fun t => (P.map pr).contains t) := by
  have hp : ∀ p ∈ P, inSix p = true := List.all_eq_true.mp h
  have back : (P.map pr).map testS = P := by
    rw [List.map_map]
    conv => rhs; rw [← List.map_id P]
    exact List.map_congr_left fun p hp' => (inSix_pr (hp p hp')).2.1
  have sel : selT P = six.filter fun t => (P.map pr).contains t := by
    unfold selT
    apply List.filter_congr
    intro t ht
    rw [Bool.eq_iff_iff, List.contains_iff_mem, List.contains_iff_mem]
    constructor
    · intro hm
      exact List.mem_map.mpr ⟨_, hm, (pr_testS ht).1⟩
    · intro hm
      obtain ⟨p, hp', rfl⟩ := List.mem_map.mp hm
      rw [(inSix_pr (hp p hp')).2.1]
      exact hp'
  unfold okT
  rw [sel]
  rw [Bool.eq_iff_iff, beq_iff_eq, beq_iff_eq]
  constructor
  · intro e
    have e2 := congrArg (List.map pr) e
    refine e2.trans ?_
    generalize hF : (fun t => (P.map pr).contains t) = F
    rw [List.map_map]
    have : ∀ l : List Ts, (∀ t ∈ l, t ∈ six) → l.map (pr ∘ testS) = l := by
      intro l
      induction l with
      | nil => intro _; rfl
      | cons t l ih =>
        intro hm
        rw [List.map_cons, ih fun x hx => hm x (List.mem_cons_of_mem _ hx)]
        congr 1
        exact (pr_testS (hm t (by simp))).1
    exact this _ fun t ht => (List.mem_filter.mp ht).1
  · intro e
    rw [← e, back]
theorem tests_error_ok {P : List Str} (g : ∀ p ∈ P, Good p) (lp : P.length ≤ 30000) (h : List Ob) : Ok (F_tests_error [.tup (P.map spT)] h) fun d S => Den.isNon d = okT P ∧ Kp0 h S.h := by
  apply ok_runB
  obtain ⟨l1, l2⟩ := loopE (some (.tup (P.map spT))) h P 0 none none g
  have it : dEnumT (dCons (dVar 0) dNil) ⟨[some (.tup (P.map spT)), none, none], h⟩ = .ok (.vals (numD 0 (P.map spT))) ⟨[some (.tup (P.map spT)), none, none], h⟩ := rfl
  show Ok (sSeq (sFor (dEnumT (dCons (dVar 0) dNil)) (gTup 2 (gCons (gN 1) (gCons (gN 2) gNil))) bodyE) (sRet (dIf (tTr (dCall F_is_ascending (dCons (dVar 0) dNil))) (dC .non) (dC (.str "tests")))) ⟨[some (.tup (P.map spT)), none, none], h⟩) _
  rw [z_seq, sFor_vals it]
  cases hs : P.all inSix with
  | false =>
    obtain ⟨d, S', e, nd, eh⟩ := l2 hs
    rw [e, Res.bind_ok]
    have : okT P = false := by
      cases ho : okT P with
      | false => rfl
      | true => rw [okT_all ho] at hs; cases hs
    exact ⟨by rw [this]; exact nd, by rw [← eh]; exact Kp0.refl _⟩
  | true =>
    obtain ⟨b1, b2, e⟩ := l1 hs
    rw [e, Res.bind_ok]
    dsimp only
    have hp : ∀ p ∈ P, inSix p = true := List.all_eq_true.mp hs
    have ep : P.map spT = (P.map pr).map testD := by
      rw [List.map_map]
      exact List.map_congr_left fun p hp' => (inSix_pr (hp p hp')).2.2
    have mem : ∀ t ∈ P.map pr, t ∈ six := fun t ht => by
      obtain ⟨p, hp', rfl⟩ := List.mem_map.mp ht
      exact (inSix_pr (hp p hp')).1
    obtain ⟨d2, S2, q2, rfl, k2⟩ := (asc_val testD (fun a b => decide (rT a < rT b)) (P.map pr) (by rw [List.length_map]; exact lp) (fun q hq S => by
      have m1 := mem q.1 (List.of_mem_zip hq).1
      have m2 := mem q.2 (List.mem_of_mem_drop (List.of_mem_zip hq).2)
      exact ltA_is (py_test S q.1) (py_test S q.2) (List.all_eq_true.mp (List.all_eq_true.mp ltT_all q.1 m1) q.2 m2)) h).ex
    rw [asc_iff rT six_asc mem, ← okT_pr hs, ← ep] at q2
    cases ho : okT P <;> rw [ho] at q2 <;> simp [q2, -List.map_map] <;> exact ⟨rfl, k2⟩
end K05

namespace K05
open PySem L2 PySem.Spec PyProof.Rows Den
def pieces (l : Str) : List Str := Txt.split l (Str.ofString ", ")
def testsI (l : Str) : Option (List Ts) := if l == Str.ofString "tests none" then some [] else if Txt.startswith l (Str.ofString "tests ") then (if okT (pieces (cutS l (some 6) none)) then some (selT (pieces (cutS l (some 6) none))) else none) else none
def testsO : Option (List Ts) → D
  | none => .non
  | some T => .tup (T.map testD)
theorem tn_good : Good (Str.ofString "tests none") := good_of (by decide +kernel)
theorem piece_len {l p : Str} (h : p ∈ pieces l) : p.length ≤ l.length + 2 := by
  have h1 := le_lenS h
  have h2 := split_len l (Str.ofString ", ")
  rw [cm_len] at h2
  unfold pieces at h1
  omega
theorem pieces_count (l : Str) : (pieces l).length ≤ l.length + 2 := by
  have := split_count (x := l) (y := Str.ofString ", ") (by rw [cm_len]; omega)
  rw [cm_len] at this
  exact this
theorem pieces_good {l : Str} (g : Good l) : ∀ p ∈ pieces l, Good p := good_split g
theorem okT_sp {P : List Str} (h : okT P = true) : P.map spT = (selT P).map testD := by
  have e := eq_of_beq h
  have : ∀ l : List Ts, (∀ t ∈ l, t ∈ six) → (l.map testS).map spT = l.map testD := by
    intro l
    induction l with
    | nil => intro _; rfl
    | cons t l ih =>
      intro hm
      rw [List.map_cons, List.map_cons, List.map_cons, ih fun x hx => hm x (List.mem_cons_of_mem _ hx)]
      congr 1
      unfold spT
      rw [(pr_testS (hm t (by simp))).2]
      rfl
  conv => lhs; rw [e]
  exact this _ fun t ht => (List.mem_filter.mp ht).1
def spF (d : D) : D := match d with
  | .str s => spT s
  | _ => .non
theorem spF_all : ∀ P : List Str, (P.map D.str).map spF = P.map spT
  | [] => rfl
  | p :: P => by rw [List.map_cons, List.map_cons, List.map_cons, spF_all P]; rfl
theorem eqs_len : (Str.ofString "=").length = 1 := by decide +kernel
theorem tests_of_ok {l : Str} (g : Good l) (ll : l.length ≤ 20000) (h : List Ob) : Ok (F_tests_of [.str l] h) fun d S => d = testsO (testsI l) ∧ Kp0 h S.h := by
  apply ok_runB
  unfold testsI
  cases h1 : (l == Str.ofString "tests none") with
  | true =>
    simp [p_tests_of, g_NO_TESTS, eq_str g.shaped tn_good.shaped, h1, testsO]
    exact Kp0.refl _
  | false =>
    cases h2 : Txt.startswith l (Str.ofString "tests ") with
    | false =>
      simp [p_tests_of, g_NO_TESTS, g_TESTS_HEAD, eq_str g.shaped tn_good.shaped, h1, h2, testsO]
      exact Kp0.refl _
    | true =>
      rw [if_neg (by decide), if_pos rfl]
      have gc := g.cut (some 6) none
      generalize hP : pieces (cutS l (some 6) none) = P
      have gP : ∀ p ∈ P, Good p := by rw [← hP]; exact pieces_good gc
      have lc := len_cut l (some 6) none
      have lP : P.length ≤ 20002 := by rw [← hP]; have := pieces_count (cutS l (some 6) none); omega
      have lp : ∀ p ∈ P, p.length ≤ 20002 := by rw [← hP]; intro p hp; have := piece_len hp; omega
      have sP : Txt.split (cutS l (some 6) none) (Str.ofString ", ") = P := hP
      have l3 : (cutS l (some 6) none).length + 2 ≤ 1000000 := by omega
      have it : dIter (dMtS mSplit (dSl (dVar 0) (dPS (dCB cLen (dCons (dC g_TESTS_HEAD) dNil))) dPN) (dC (.str ", "))) ⟨[some (.str l), none, none], h⟩ = .ok (.dyn (lstIt h.length)) ⟨[some (.str l), none, none], h ++ [Ob.lst (P.map D.str)]⟩ :=
        iter_ref (xs := P.map D.str) (by
          have l1 : l.length ≤ 1000000 := by omega
          simp [g_TESTS_HEAD, th_len, l1, cm_len, l3, sP]) (at_new _ _)
      obtain ⟨h2', c, k2⟩ := comp_F (vs := [2]) (g := gN 2) (e := dCB cTuple (dCons (dMtS mSplit (dVar 2) (dC (.str "="))) dNil)) spF (fun h' => Kp0 (h ++ [Ob.lst (P.map D.str)]) h') it (fun h' k => over_lst (k _ _ (at_new _ _))) (by simp; omega) (Kp0.refl _) (by
        rintro d hd h' k2
        obtain ⟨s, hs, rfl⟩ := List.mem_map.mp hd
        have ls : s.length + 2 ≤ 1000000 := by have := lp s hs; omega
        refine ⟨_, rfl, ?_⟩
        simp [eqs_len, ls, spF, spT, -List.map_map]
        exact k2.trans (Kp0.app _ _))
      rw [spF_all] at c
      obtain ⟨d3, S3, q3, nd, k3⟩ := (tests_error_ok gP (by omega) (h2' ++ [Ob.lst (P.map spT)])).ex
      have kk := (((Kp0.app h [Ob.lst (P.map D.str)]).trans k2).trans (Kp0.app _ [Ob.lst (P.map spT)])).trans k3
      have isn : ∀ S, oIsN d3 .non S = .ok (.bl (okT P)) S := fun S => by
        have : oIsN d3 .non S = .ok (.bl (Den.isNon d3)) S := rfl
        rw [this, nd]
      simp [p_tests_of, g_NO_TESTS, eq_str g.shaped tn_good.shaped, h1, g_TESTS_HEAD, h2]
      simp only [g_TESTS_HEAD] at c
      cases ho : okT P with
      | true =>
        rw [ho] at nd
        simp [c, q3, nd, testsO, -List.map_map]
        exact ⟨okT_sp ho, kk⟩
      | false =>
        rw [ho] at nd
        simp [c, q3, nd, testsO, -List.map_map]
        exact kk
end K05

namespace K05
open PySem L2 PySem.Spec PyProof.Rows Den
/-! ### K. a manner's line -/
theorem four_good {t : Str} (h : t ∈ four) : Good t := by
  unfold four at h
  simp only [List.mem_cons, List.not_mem_nil, or_false] at h
  rcases h with rfl | rfl | rfl | rfl <;> exact good_of (by decide +kernel)
def selW (P : List Str) : List Str := four.filter fun w => P.contains w
def okW (P : List Str) : Bool := P == selW P
theorem notes_tup : g_NOTES = .tup (four.map D.str) := rfl
theorem is_notes_ok {P : List Str} (g : ∀ p ∈ P, Good p) (lp : P.length ≤ 30000) (h : List Ob) : Ok (F_is_notes [.tup (P.map D.str)] h) fun d S => d = .bl (okW P) ∧ Kp0 h S.h := by
  apply ok_runB
  have c : dComp [1] (dIter (dVar 0)) (gN 1) tTrue (dBin oIn (dVar 1) (dC g_NOTES)) ⟨[some (.tup (P.map D.str)), none], h⟩ = _ :=
    comp_pure (fun d => match d with
      | .str s => some (.bl (four.any fun u => u == s))
      | _ => none) (iter_tup (xs := P.map D.str) rfl) rfl (by rw [List.length_map]; omega) fun d hd => by
      obtain ⟨t, ht, rfl⟩ := List.mem_map.mp hd
      refine ⟨_, rfl, ?_⟩
      simp [notes_tup, oIn_strs (g t ht) (fun u hu => four_good hu), -List.any_eq_true]
  have e : (P.map D.str).filterMap (fun d => match d with
      | .str s => some (D.bl (four.any fun u => u == s))
      | _ => none) = (P.map fun s => four.any fun u => u == s).map D.bl := by
    rw [List.filterMap_map, List.map_map]
    induction P with
    | nil => rfl
    | cons p P ih =>
      rw [List.filterMap_cons]
      show _ :: _ = _
      rw [List.map_cons]
      congr 1
      have : ∀ Q : List Str, Q.filterMap ((fun d => match d with
        | .str s => some (D.bl (four.any fun u => u == s))
        | _ => none) ∘ D.str) = Q.map (D.bl ∘ fun s => four.any fun u => u == s) := by
        intro Q
        induction Q with
        | nil => rfl
        | cons q Q ih => rw [List.filterMap_cons]; show _ :: _ = _; rw [List.map_cons, ih]; rfl
      exact this P
  rw [e] at c
  have it : isaB "tuple" "tuple" = some true := by decide
  have al : (P.map fun s => four.any fun u => u == s).all id = P.all fun s => four.any fun u => u == s := by rw [List.all_map]; rfl
  cases hs : P.all fun s => four.any fun u => u == s with
  | false =>
    rw [hs] at al
    have no : okW P = false := by
      cases ho : okW P with
      | false => rfl
      | true =>
        have e1 := eq_of_beq ho
        have : P.all (fun s => four.any fun u => u == s) = true := by
          rw [List.all_eq_true]
          intro p hp
          rw [e1] at hp
          exact List.any_eq_true.mpr ⟨p, (List.mem_filter.mp hp).1, beq_self_eq_true _⟩
        rw [this] at hs; cases hs
    simp [p_is_notes, it, c, bls_map', al, no, -List.map_map, -List.all_map]
    exact Kp0.app _ _
  | true =>
    rw [hs] at al
    have mem : ∀ p ∈ P, p ∈ four := fun p hp => by
      obtain ⟨u, hu, e1⟩ := List.any_eq_true.mp (List.all_eq_true.mp hs p hp)
      rw [← eq_of_beq e1]; exact hu
    obtain ⟨d2, S2, q2, rfl, k2⟩ := (asc_val D.str (fun a b => decide (rW a < rW b)) P lp (fun q hq S => by
      have m1 := mem q.1 (List.of_mem_zip hq).1
      have m2 := mem q.2 (List.mem_of_mem_drop (List.of_mem_zip hq).2)
      exact ltA_is (z_pyS S q.1) (z_pyS S q.2) (List.all_eq_true.mp (List.all_eq_true.mp ltW_all q.1 m1) q.2 m2)) (h ++ [Ob.lst ((P.map fun s => four.any fun u => u == s).map D.bl)])).ex
    rw [asc_iff rW four_asc mem] at q2
    have q2' : F_is_ascending [.tup (P.map D.str)] (h ++ [Ob.lst ((P.map fun s => four.any fun u => u == s).map D.bl)]) = .ok (.bl (okW P)) S2 := q2
    simp [p_is_notes, it, c, bls_map', al, q2', -List.map_map, -List.all_map]
    exact (Kp0.app _ _).trans k2
/-! where a text is parted -/
theorem col_cps : (Str.ofString ": ").cps.toList = [58, 32] := by decide +kernel
theorem col_len : (Str.ofString ": ").length = 2 := by decide +kernel
theorem at_col (x : Str) (i : Nat) : StrLaws.At x (Str.ofString ": ") x.length i ↔ ∃ r, x.cps.toList.drop i = 58 :: 32 :: r := by
  unfold StrLaws.At
  rw [StrLaws.subAt_eq, col_len, col_cps]
  constructor
  · rintro ⟨h1, h2⟩
    have e := eq_of_beq h2
    match hd : x.cps.toList.drop i with
    | [] => rw [hd] at e; cases e
    | [a] => rw [hd] at e; cases e
    | a :: b :: r =>
      rw [hd] at e
      have : [a, b] = [58, 32] := e
      injection this with q1 q2
      injection q2 with q2 _
      exact ⟨r, by rw [q1, q2]⟩
  · rintro ⟨r, e⟩
    refine ⟨?_, by rw [e]; rfl⟩
    have := congrArg List.length e
    rw [List.length_drop] at this
    simp at this
    have hl : x.length = x.cps.toList.length := by simp [Str.length]
    rw [Array.length_toList] at hl
    omega
theorem str_ext {x y : Str} (h : x.cps.toList = y.cps.toList) : x = y := by
  obtain ⟨x⟩ := x
  obtain ⟨y⟩ := y
  have : x = y := Array.toList_inj.mp h
  rw [this]
theorem len_list (x : Str) : x.length = x.cps.toList.length := by simp [Str.length]
/-- w has no colon: where x is w, colon, blank, r, it is parted there -/
theorem part_at {w x : Str} {r : List Nat} (hw : 58 ∉ w.cps.toList) (e : x.cps.toList = w.cps.toList ++ 58 :: 32 :: r) : Txt.partition x (Str.ofString ": ") = (w, Str.ofString ": ", ⟨r.toArray⟩) := by
  have atw : StrLaws.At x (Str.ofString ": ") x.length w.cps.toList.length := (at_col x _).mpr ⟨r, by rw [e]; simp⟩
  rcases partition_whole x (Str.ofString ": ") with ⟨_, hn⟩ | ⟨i, hp, hi, hn⟩
  · exact absurd atw (hn _)
  · have hle : i ≤ w.cps.toList.length := by
      by_cases h : i ≤ w.cps.toList.length
      · exact h
      · exact absurd atw (hn _ (by omega))
    have hge : ¬ i < w.cps.toList.length := fun lt => by
      obtain ⟨r', e'⟩ := (at_col x i).mp hi
      rw [e, List.drop_append_of_le_length (by omega), List.drop_eq_getElem_cons lt] at e'
      injection e' with e1 _
      exact hw (by rw [← e1]; exact List.getElem_mem _)
    have hie : i = w.cps.toList.length := by omega
    rw [hp]
    refine Prod.ext ?_ (Prod.ext rfl ?_)
    · show PySem.Builtin.Str.strSub x 0 i = w
      apply str_ext
      rw [strSub_mk, hie, e]
      simp
    · show PySem.Builtin.Str.strSub x (i + (Str.ofString ": ").length) x.length = _
      apply str_ext
      rw [strSub_mk, hie, col_len, len_list x, e]
      show List.take _ (List.drop _ _) = r
      rw [List.drop_append, List.drop_eq_nil_of_le (by omega)]
      have : w.cps.toList.length + 2 - w.cps.toList.length = 2 := by omega
      rw [this]
      simp
      exact List.take_of_length_le (by omega)
end K05

namespace K05
open PySem L2 PySem.Spec PyProof.Rows Den
theorem wa_good : Good (Str.ofString "waits") := good_of (by decide +kernel)
theorem an_good : Good (Str.ofString "any time") := good_of (by decide +kernel)
theorem wa_an : (Str.ofString "waits" == Str.ofString "any time") = false := by decide +kernel
theorem an_wa : (Str.ofString "any time" == Str.ofString "waits") = false := by decide +kernel
def headW (b : Bool) : Str := if b then Str.ofString "waits" else Str.ofString "any time"
theorem headW_good (b : Bool) : Good (headW b) := by cases b; exact an_good; exact wa_good
theorem headW_col (b : Bool) : 58 ∉ (headW b).cps.toList := by cases b <;> decide +kernel
def colS : Str := Str.ofString ": "
/-- l is the word, colon, blank and more -/
def begW (b : Bool) (l : Str) : Bool := cutS l none (some ((headW b).length + 2)) == headW b ++ colS
def restW (b : Bool) (l : Str) : Str := cutS l (some ((headW b).length + 2)) none
def notesI (b : Bool) (r : Str) : Option Mn := if okW (pieces r) then some (b, selW (pieces r)) else none
def mannerI (l : Str) : Option Mn := if l == headW true then some (true, []) else if begW true l then notesI true (restW true l) else if l == headW false then some (false, []) else if begW false l then notesI false (restW false l) else none
def mannerO : Option Mn → D
  | none => .non
  | some m => manD m
theorem sIx_lo (n : Nat) (k : Nat) : HT.sIx n 0 (some (k : Int)) = min k n := by
  unfold HT.sIx
  simp
  intro h
  omega
theorem sIx_hi (n : Nat) (k : Nat) : HT.sIx n n (some (k : Int)) = min k n := by
  unfold HT.sIx
  simp
  intro h
  omega
theorem cut_to (x : Str) (k : Nat) : (cutS x none (some (k : Int))).cps.toList = x.cps.toList.take k := by
  unfold cutS
  have e0 : HT.sIx x.length 0 none = 0 := rfl
  rw [e0, sIx_hi]
  show List.take _ (List.drop 0 x.cps.toList) = _
  rw [List.drop_zero, len_list]
  rw [Nat.sub_zero]
  by_cases h : k ≤ x.cps.toList.length
  · rw [Nat.min_eq_left h]
  · rw [Nat.min_eq_right (by omega), List.take_length, List.take_of_length_le (by omega)]
theorem cut_from (x : Str) (k : Nat) : (cutS x (some (k : Int)) none).cps.toList = x.cps.toList.drop k := by
  unfold cutS
  have e0 : HT.sIx x.length x.length none = x.length := rfl
  rw [e0, sIx_lo]
  show List.take _ (List.drop _ x.cps.toList) = _
  rw [len_list]
  by_cases h : k ≤ x.cps.toList.length
  · rw [Nat.min_eq_left h, List.take_of_length_le (by rw [List.length_drop]; omega)]
  · rw [Nat.min_eq_right (by omega), List.drop_eq_nil_of_le (by omega), List.drop_eq_nil_of_le (by omega), List.take_nil]
theorem beg_iff (b : Bool) (l : Str) : begW b l = true ↔ ∃ r, l.cps.toList = (headW b).cps.toList ++ 58 :: 32 :: r := by
  have hc : (headW b ++ colS).cps.toList = (headW b).cps.toList ++ [58, 32] := by rw [sig_app]; congr 1
  have e := cut_to l ((headW b).length + 2)
  have hl : (headW b).length = (headW b).cps.toList.length := len_list _
  unfold begW
  constructor
  · intro h
    have h := eq_of_beq h
    have h2 := congrArg (fun s : Str => s.cps.toList) h
    rw [show ((headW b).length : Int) + 2 = (((headW b).length + 2 : Nat) : Int) by omega, e, hc] at h2
    refine ⟨l.cps.toList.drop ((headW b).length + 2), ?_⟩
    have := List.take_append_drop ((headW b).length + 2) l.cps.toList
    rw [h2] at this
    exact this.symm.trans (by rw [List.append_assoc]; rfl)
  · rintro ⟨r, h⟩
    apply beq_iff_eq.mpr
    apply str_ext
    rw [show ((headW b).length : Int) + 2 = (((headW b).length + 2 : Nat) : Int) by omega, e, hc, h, hl]
    rw [List.take_append, List.take_of_length_le (by omega)]
    have : (headW b).cps.toList.length + 2 - (headW b).cps.toList.length = 2 := by omega
    rw [this]
    rfl
theorem rest_is {b : Bool} {l : Str} {r : List Nat} (h : l.cps.toList = (headW b).cps.toList ++ 58 :: 32 :: r) : restW b l = ⟨r.toArray⟩ := by
  apply str_ext
  unfold restW
  rw [show ((headW b).length : Int) + 2 = (((headW b).length + 2 : Nat) : Int) by omega, cut_from, h, len_list]
  rw [List.drop_append, List.drop_eq_nil_of_le (by omega)]
  have : (headW b).cps.toList.length + 2 - (headW b).cps.toList.length = 2 := by omega
  rw [this]
  rfl
/-- where the text is parted, told by its beginning -/
theorem part_beg {b : Bool} {l : Str} (h : begW b l = true) : Txt.partition l colS = (headW b, colS, restW b l) := by
  obtain ⟨r, e⟩ := (beg_iff b l).mp h
  rw [rest_is e]
  exact part_at (headW_col b) e
theorem part_no {l : Str} (h1 : begW true l = false) (h2 : begW false l = false) : (Txt.partition l colS = (l, ⟨#[]⟩, ⟨#[]⟩)) ∨ (∃ H R, Txt.partition l colS = (H, colS, R) ∧ H ≠ headW true ∧ H ≠ headW false ∧ l ≠ headW true ∧ l ≠ headW false) := by
  have ps := StrLaws.partition_sum l colS
  rcases partition_whole l colS with ⟨e, _⟩ | ⟨i, e, hi, _⟩
  · exact .inl e
  · refine .inr ⟨_, _, e, ?_, ?_, ?_, ?_⟩
    all_goals rw [e] at ps
    · intro q
      rw [q] at ps
      have : begW true l = true := (beg_iff true l).mpr ⟨_, by rw [← ps, sig_app, sig_app, show colS.cps.toList = [58, 32] from col_cps]; simp; rfl⟩
      rw [this] at h1; cases h1
    · intro q
      rw [q] at ps
      have : begW false l = true := (beg_iff false l).mpr ⟨_, by rw [← ps, sig_app, sig_app, show colS.cps.toList = [58, 32] from col_cps]; simp; rfl⟩
      rw [this] at h2; cases h2
    · intro q
      obtain ⟨r, e'⟩ := (at_col l i).mp hi
      apply headW_col true
      rw [← q]
      exact List.mem_of_mem_drop (by rw [e']; simp)
    · intro q
      obtain ⟨r, e'⟩ := (at_col l i).mp hi
      apply headW_col false
      rw [← q]
      exact List.mem_of_mem_drop (by rw [e']; simp)
theorem beg_ne {b c : Bool} {l : Str} (h : begW b l = true) : (l == headW c) = false := by
  apply beq_false_of_ne
  intro q
  obtain ⟨r, e⟩ := (beg_iff b l).mp h
  apply headW_col c
  rw [← q, e]
  simp
theorem beg_one {l : Str} (h : begW false l = true) : begW true l = false := by
  cases q : begW true l with
  | false => rfl
  | true =>
    have e1 := part_beg h
    rw [part_beg q] at e1
    injection e1 with e1 _
    have : (headW true == headW false) = true := by rw [e1]; exact beq_self_eq_true _
    rw [show (headW true == headW false) = (Str.ofString "waits" == Str.ofString "any time") from rfl, wa_an] at this
    cases this
end K05

namespace K05
open PySem L2 PySem.Spec PyProof.Rows Den
theorem heads_tup : D.tup [g_WAITS, g_ANY_TIME] = .tup ([headW true, headW false].map D.str) := rfl
theorem head_in {H : Str} (g : Good H) (S : DS) : oNotIn (.str H) (.tup [g_WAITS, g_ANY_TIME]) S = .ok (.bl (!(headW true == H || headW false == H))) S := by
  rw [heads_tup, oNotIn_strs g (fun u hu => by
    simp only [List.mem_cons, List.not_mem_nil, or_false] at hu
    rcases hu with rfl | rfl
    · exact headW_good true
    · exact headW_good false)]
  rw [List.any_cons, List.any_cons, List.any_nil, Bool.or_false]
theorem head_eq (b : Bool) (S : DS) : oEq (.str (headW b)) g_WAITS S = .ok (.bl b) S := by
  rw [show g_WAITS = D.str (headW true) from rfl, eq_str (headW_good b).shaped (headW_good true).shaped]
  cases b
  · rw [show (headW false == headW true) = false from an_wa]
  · rw [beq_self_eq_true]
theorem headW_ne : (headW true == headW false) = false := wa_an
theorem asg_part {l H C R : Str} (ll : l.length ≤ 20000) (e : Txt.partition l colS = (H, C, R)) (h : List Ob) : sAsg (dMtS mPart (dVar 0) (dC (.str ": "))) (gTup 3 (gCons (gN 2) (gCons (gN 3) (gCons (gN 4) gNil)))) ⟨[some (.str l), none, none, none, none], h⟩ = .ok .next ⟨[some (.str l), none, some (.str H), some (.str C), some (.str R)], h⟩ := by
  have lm : l.length ≤ mxL := by
    have : (20000 : Nat) ≤ mxL := by decide
    omega
  have n0 : (Str.ofString ": ").length ≠ 0 := by decide +kernel
  have : mPart (.str l) [.str (Str.ofString ": ")] ⟨[some (.str l), none, none, none, none], h⟩ = .ok (.tup [.str H, .str C, .str R]) ⟨[some (.str l), none, none, none, none], h⟩ := by
    unfold mPart
    dsimp only
    rw [if_pos ⟨n0, lm⟩, show Txt.partition l (Str.ofString ": ") = (H, C, R) from e]
  unfold sAsg
  rw [show dMtS mPart (dVar 0) (dC (.str ": ")) ⟨[some (.str l), none, none, none, none], h⟩ = .ok (.tup [.str H, .str C, .str R]) ⟨[some (.str l), none, none, none, none], h⟩ by simpa using this]
  rfl
theorem rest_len (b : Bool) (l : Str) : (restW b l).length ≤ l.length := len_cut l _ _
theorem manner_of_ok {l : Str} (g : Good l) (ll : l.length ≤ 20000) (h : List Ob) : Ok (F_manner_of [.str l] h) fun d S => d = mannerO (mannerI l) ∧ Kp0 h S.h := by
  apply ok_runB
  have tC : ∀ S, toTru (D.str colS) S = .ok true S := fun S => by
    show (if colS.length ≤ mxL then Res.ok ((colS.length : Int) != 0) S else .stuck) = _
    rw [show colS.length = 2 from col_len, if_pos (by decide)]
    rfl
  have tE : ∀ S, toTru (D.str ⟨#[]⟩) S = .ok false S := fun S => rfl
  have case : ∀ b, begW b l = true → mannerI l = notesI b (restW b l) → Ok (p_manner_of ⟨[some (.str l), none, none, none, none], h⟩) fun f S => match f with
      | .ret d => d = mannerO (mannerI l) ∧ Kp0 h S.h
      | .next => D.non = mannerO (mannerI l) ∧ Kp0 h S.h
      | _ => False := by
    intro b hb hm
    have a1 := asg_part ll (part_beg hb) h
    rw [hm]
    unfold notesI
    have gr : Good (restW b l) := g.cut _ _
    have lr := rest_len b l
    have lP := pieces_count (restW b l)
    have gP := pieces_good gr
    generalize hP : pieces (restW b l) = P at lP gP
    have sP : Txt.split (restW b l) (Str.ofString ", ") = P := hP
    have l3 : (restW b l).length + 2 ≤ 1000000 := by omega
    obtain ⟨d2, S2, q2, rfl, k2⟩ := (is_notes_ok gP (by omega) (h ++ [Ob.lst (P.map D.str)])).ex
    have kk := (Kp0.app h [Ob.lst (P.map D.str)]).trans k2
    have hin := head_in (headW_good b)
    have hor : (headW true == headW b || headW false == headW b) = true := by cases b <;> simp
    rw [hor] at hin
    cases ho : okW P with
    | true =>
      rw [ho] at q2
      simp [p_manner_of, a1, tC, hin, cm_len, l3, sP, q2, head_eq, mannerO, manD, -List.map_map]
      exact ⟨by rw [← eq_of_beq ho], kk⟩
    | false =>
      rw [ho] at q2
      simp [p_manner_of, a1, tC, hin, cm_len, l3, sP, q2, head_eq, mannerO, -List.map_map]
      exact kk
  show Ok (p_manner_of ⟨[some (.str l), none, none, none, none], h⟩) _
  cases b1 : begW true l with
  | true => exact case true b1 (by unfold mannerI; rw [beg_ne b1, if_neg (by decide), if_pos b1])
  | false =>
    cases b2 : begW false l with
    | true => exact case false b2 (by unfold mannerI; rw [beg_ne b2, if_neg (by decide), if_neg (by rw [b1]; decide), beg_ne b2, if_neg (by decide), if_pos b2])
    | false =>
      clear case
      have un : mannerI l = if l == headW true then some (true, []) else if l == headW false then some (false, []) else none := by
        unfold mannerI
        rw [b1, b2]
        rfl
      rw [un]
      rcases part_no b1 b2 with e | ⟨H, R, e, n1, n2, n3, n4⟩
      · have a1 := asg_part ll e h
        have hin := head_in g
        obtain ⟨d2, S2, q2, rfl, k2⟩ := (is_notes_ok (P := []) (fun _ h => nomatch h) (by simp) h).ex
        rw [show okW [] = true by decide +kernel, List.map_nil] at q2
        cases c1 : (l == headW true) with
        | true =>
          have e1 := eq_of_beq c1
          subst e1
          rw [beq_self_eq_true, Bool.true_or] at hin
          have he := head_eq true
          simp [p_manner_of, a1, tE, hin, q2, he, mannerO, manD]
          exact k2
        | false =>
          cases c2 : (l == headW false) with
          | true =>
            have e1 := eq_of_beq c2
            subst e1
            rw [beq_self_eq_true, Bool.or_true] at hin
            have he := head_eq false
            simp [p_manner_of, a1, tE, hin, q2, he, mannerO, manD]
            exact k2
          | false =>
            have z : (headW true == l || headW false == l) = false := by
              rw [Bool.or_eq_false_iff]
              exact ⟨beq_false_of_ne fun q => (by rw [q, beq_self_eq_true] at c1; cases c1), beq_false_of_ne fun q => (by rw [q, beq_self_eq_true] at c2; cases c2)⟩
            rw [z] at hin
            simp [p_manner_of, a1, tE, hin, mannerO]
            exact Kp0.refl _
      · have a1 := asg_part ll e h
        have ps := StrLaws.partition_sum l colS
        rw [e] at ps
        dsimp only at ps
        have gH : Good H := by rw [← ps] at g; exact g.left.left
        have lR : R.length + 2 ≤ 1000000 := by
          have := congrArg Str.length ps
          rw [len_app, len_app] at this
          omega
        have hin := head_in gH
        have z : (headW true == H || headW false == H) = false := by
          rw [Bool.or_eq_false_iff]
          exact ⟨beq_false_of_ne fun q => n1 q.symm, beq_false_of_ne fun q => n2 q.symm⟩
        rw [z] at hin
        have z1 : (l == headW true) = false := beq_false_of_ne n3
        have z2 : (l == headW false) = false := beq_false_of_ne n4
        simp [p_manner_of, a1, tC, hin, cm_len, lR, z1, z2, mannerO]
        exact Kp0.app _ _
end K05

namespace K05
open PySem L2 PySem.Spec PyProof.Rows Den
def textX (j : Int) : Xn := ⟨Str.ofString "BadText", [(Str.ofString "line", .int j)]⟩
def bookX : Xn := ⟨Str.ofString "BadBook", [(Str.ofString "error", .str (Str.ofString "manners"))]⟩
def mannersI : Int → List Str → Except Int (List Mn)
  | _, [] => .ok []
  | k, l :: ls => match mannerI l with
    | none => .error k
    | some m => match mannersI (k + 1) ls with
      | .ok ms => .ok (m :: ms)
      | .error j => .error j
theorem enumS_var {i n : Nat} {k : Int} {S : DS} {xs : List D} (hk : -1000000 ≤ k ∧ k ≤ 1000000) (h1 : S.loc[i]? = some (some (.ref n))) (h2 : S.h[n]? = some (.lst xs)) : dEnumS (dCons (dVar i) dNil) (dCons (dC (.int k)) dNil) S = .ok (.dyn (numIt k (lstIt n))) S := by
  unfold dEnumS
  simp [h1, h2, hk, enumOf]
def bodyM : DSt := sSeq (sAsg (dCall F_manner_of (dCons (dVar 3) dNil)) (gN 4))
  (sSeq (sIf (tV (dBin oIsN (dVar 4) (dC .non))) (sRaise1 "BadText" "line" (dCons (dVar 2) dNil)) sNop)
  (sExpr (dMtL mAppend (dVar 1) (dCons (dVar 4) dNil))))
def g23 : DG := gTup 2 (gCons (gN 2) (gCons (gN 3) gNil))
theorem manners_eq : p_manners_of = sSeq (sAsg (dLst dNil) (gN 1))
  (sSeq (sFor (dEnumS (dCons (dVar 0) dNil) (dCons (dC (.int 1)) dNil)) g23 bodyM)
  (sRet (dCB cTuple (dCons (dVar 1) dNil)))) := rfl
theorem kp_set {h h1 : List Ob} {nd : Nat} {ob : Ob} (a : Kp0 h h1) (b : h.length ≤ nd) : Kp0 h (h1.set nd ob) := fun j o e => by
  have := lt_of_at e
  rw [List.getElem?_set_ne (by omega)]
  exact a j o e
theorem turnM {v a4 : Option D} {nd : Nat} {k : Int} {l : Str} (g : Good l) (ll : l.length ≤ 20000) {h h0 : List Ob} {acc : List D} (k0 : Kp0 h0 h) (ln : h0.length ≤ nd) (hd : h[nd]? = some (.lst acc)) (la : acc.length < 1000000) :
    match mannerI l with
    | none => ∃ S', bodyM ⟨[v, some (.ref nd), some (.int k), some (.str l), a4], h⟩ = .exc (textX k) S' ∧ Kp0 h0 S'.h
    | some m => ∃ h', bodyM ⟨[v, some (.ref nd), some (.int k), some (.str l), a4], h⟩ = .ok .next ⟨[v, some (.ref nd), some (.int k), some (.str l), some (manD m)], h'⟩ ∧ Kp0 h0 h' ∧ h'[nd]? = some (.lst (acc ++ [manD m])) := by
  obtain ⟨d, S, e, rfl, kp⟩ := (manner_of_ok g ll h).ex
  have hd1 := kp _ _ hd
  cases hm : mannerI l with
  | none =>
    rw [hm] at e
    refine ⟨⟨[v, some (.ref nd), some (.int k), some (.str l), some .non], S.h⟩, ?_, k0.trans kp⟩
    simp [bodyM, e, mannerO, Den.isNon, textX]
  | some m =>
    rw [hm] at e
    dsimp only [mannerO] at e
    have la' : acc.length < mxL := by
      have : mxL = 1000000 := by rfl
      omega
    have ap : mAppend (.ref nd) [manD m] ⟨[v, some (.ref nd), some (.int k), some (.str l), some (manD m)], S.h⟩ = .ok .non ⟨[v, some (.ref nd), some (.int k), some (.str l), some (manD m)], S.h.set nd (.lst (acc ++ [manD m]))⟩ := by
      unfold mAppend
      dsimp only
      rw [hd1]
      dsimp only
      rw [if_pos la']
    have il : isLst ⟨[v, some (.ref nd), some (.int k), some (.str l), some (manD m)], S.h⟩ (.ref nd) = true := by
      unfold isLst
      dsimp only
      rw [hd1]
    refine ⟨S.h.set nd (.lst (acc ++ [manD m])), ?_, kp_set (k0.trans kp) ln, by rw [List.getElem?_set_self (lt_of_at hd1)]⟩
    simp [bodyM, e, show Den.isNon (manD m) = false from rfl, il, ap]
theorem loopM {n nd : Nat} {h0 : List Ob} (ln : h0.length ≤ nd) {all : List Str} (hn : h0[n]? = some (.lst (all.map D.str))) (ga : ∀ l ∈ all, Good l ∧ l.length ≤ 20000) : ∀ (ls : List Str) (i fuel : Nat) (acc : List D) (h : List Ob) (a2 a3 a4 : Option D), all.drop i = ls → ls.length < fuel → acc.length + ls.length < 1000000 → Kp0 h0 h → h[nd]? = some (.lst acc) →
    match mannersI (1 + (i : Nat)) ls with
    | .ok ms => ∃ S', forO (numIt 1 (lstIt n)) g23 bodyM fuel i ⟨[some (.ref n), some (.ref nd), a2, a3, a4], h⟩ = .ok .next S' ∧ (∃ b2 b3 b4, S'.loc = [some (.ref n), some (.ref nd), b2, b3, b4]) ∧ Kp0 h0 S'.h ∧ S'.h[nd]? = some (.lst (acc ++ ms.map manD))
    | .error j => ∃ S', forO (numIt 1 (lstIt n)) g23 bodyM fuel i ⟨[some (.ref n), some (.ref nd), a2, a3, a4], h⟩ = .exc (textX j) S' ∧ Kp0 h0 S'.h
  | [], i, fuel, acc, h, a2, a3, a4, ed, hf, hl, k, e => by
    obtain ⟨f, rfl⟩ : ∃ f, fuel = f + 1 := ⟨fuel - 1, by simp at hf; omega⟩
    have nx : all[i]? = none := by
      have := congrArg List.head? ed
      rwa [List.head?_drop] at this
    refine ⟨_, forO_end ?_, ⟨_, _, _, rfl⟩, k, by simpa using e⟩
    rw [numIt_of (k _ _ hn), List.getElem?_map, nx]
    rfl
  | l :: ls, i, fuel, acc, h, a2, a3, a4, ed, hf, hl, k, e => by
    rw [List.length_cons] at hf hl
    obtain ⟨f, rfl⟩ : ∃ f, fuel = f + 1 := ⟨fuel - 1, by omega⟩
    have nx : all[i]? = some l := by
      have := congrArg List.head? ed
      rwa [List.head?_drop] at this
    have ed2 : all.drop (i + 1) = ls := by
      have := congrArg List.tail ed
      rwa [List.tail_drop] at this
    obtain ⟨gl, ll⟩ := ga l (List.mem_of_getElem? nx)
    have it : numIt 1 (lstIt n) h i = some (some (.tup [.int (1 + (i : Nat)), .str l])) := by
      rw [numIt_of (k _ _ hn), List.getElem?_map, nx]
      rfl
    have gt : g23 (.tup [.int (1 + (i : Nat)), .str l]) ⟨[some (.ref n), some (.ref nd), a2, a3, a4], h⟩ = some ⟨[some (.ref n), some (.ref nd), some (.int (1 + (i : Nat))), some (.str l), a4], h⟩ := rfl
    have tn := turnM (v := some (.ref n)) (a4 := a4) (k := 1 + (i : Nat)) gl ll k ln e (by omega)
    unfold mannersI
    cases hm : mannerI l with
    | none =>
      rw [hm] at tn
      obtain ⟨S', e1, k1⟩ := tn
      exact ⟨S', forO_exc it gt e1, k1⟩
    | some m =>
      rw [hm] at tn
      obtain ⟨h', e1, k1, hd1⟩ := tn
      have ih := loopM ln hn ga ls (i + 1) f (acc ++ [manD m]) h' (some (.int (1 + (i : Nat)))) (some (.str l)) (some (manD m)) ed2 (by omega) (by simp; omega) k1 hd1
      have ei : (1 + ((i + 1 : Nat) : Int)) = 1 + (i : Nat) + 1 := by omega
      rw [ei] at ih
      dsimp only
      cases hr : mannersI (1 + (i : Nat) + 1) ls with
      | ok ms =>
        rw [hr] at ih
        obtain ⟨S', e2, l2, k2, hd2⟩ := ih
        exact ⟨S', by rw [forO_next it gt e1, e2], l2, k2, by simpa using hd2⟩
      | error j =>
        rw [hr] at ih
        obtain ⟨S', e2, k2⟩ := ih
        exact ⟨S', by rw [forO_next it gt e1, e2], k2⟩
theorem manners_of_ok {all : List Str} (ga : ∀ l ∈ all, Good l ∧ l.length ≤ 20000) (la : all.length ≤ 30000) {h : List Ob} {n : Nat} (hn : h[n]? = some (.lst (all.map D.str))) :
    match mannersI 1 all with
    | .ok ms => ∃ S, F_manners_of [.ref n] h = .ok (.tup (ms.map manD)) S ∧ Kp0 h S.h
    | .error j => ∃ S, F_manners_of [.ref n] h = .exc (textX j) S ∧ Kp0 h S.h := by
  have e0 : sAsg (dLst dNil) (gN 1) ⟨[some (.ref n), none, none, none, none], h⟩ = .ok .next ⟨[some (.ref n), some (.ref h.length), none, none, none], h ++ [Ob.lst []]⟩ := by simp
  have hn2 : (h ++ [Ob.lst []])[n]? = some (.lst (all.map D.str)) := at_old hn
  have lp := loopM (nd := h.length) (Nat.le_refl _) hn ga all 0 100000 [] (h ++ [Ob.lst []]) none none none rfl (by omega) (by simp; omega) (Kp0.app _ _) (at_new _ _)
  have sf : sFor (dEnumS (dCons (dVar 0) dNil) (dCons (dC (.int 1)) dNil)) g23 bodyM ⟨[some (.ref n), some (.ref h.length), none, none, none], h ++ [Ob.lst []]⟩ = _ := sFor_dyn (enumS_var (by decide) rfl (xs := all.map D.str) hn2)
  rw [show (1 + ((0 : Nat) : Int)) = 1 from rfl] at lp
  cases hr : mannersI 1 all with
  | ok ms =>
    rw [hr] at lp
    obtain ⟨⟨loc, h2⟩, e2, ⟨b2, b3, b4, rfl⟩, k2, hd⟩ := lp
    refine ⟨⟨[], h2⟩, runB_ret (S := ⟨[some (.ref n), some (.ref h.length), b2, b3, b4], h2⟩) ?_, k2⟩
    rw [manners_eq]
    show sSeq _ _ ⟨[some (.ref n), none, none, none, none], h⟩ = _
    rw [z_seq, e0, Res.bind_ok]
    dsimp only
    rw [z_seq, sf, e2, Res.bind_ok]
    have hd' : h2[h.length]? = some (.lst (ms.map manD)) := by simpa using hd
    simp [hd']
  | error j =>
    rw [hr] at lp
    obtain ⟨S', e2, k2⟩ := lp
    refine ⟨⟨[], S'.h⟩, runB_exc (S := S') ?_, k2⟩
    rw [manners_eq]
    show sSeq _ _ ⟨[some (.ref n), none, none, none, none], h⟩ = _
    rw [z_seq, e0, Res.bind_ok]
    dsimp only
    rw [z_seq, sf, e2]
    rfl
end K05

namespace K05
open PySem L2 PySem.Spec PyProof.Rows Den
/-! ### L. the whole text -/
theorem is_many_ok (i : Int) (h : List Ob) : F_is_many [.int i] h = .ok (.bl (decide (2 ≤ i) && decide (i ≤ 6))) ⟨[], h⟩ := by
  have a : F_is_integer [.int i] h = .ok (.bl true) ⟨[], h⟩ := by
    refine runB_ret (S := ⟨[some (.int i)], h⟩) ?_
    simp [p_is_integer, show isaB "int" "int" = some true by decide, show isaB "int" "bool" = some false by decide]
  refine runB_ret (S := ⟨[some (.int i)], h⟩) ?_
  by_cases h2 : 2 ≤ i <;> simp [p_is_many, a, g_MAX_MACHINES, dChain, h2]
theorem at0 {α : Type} (x : α) (xs : List α) : atI (x :: xs) 0 = some x := by
  unfold atI ixN
  rw [if_pos (by decide), if_pos (by simp)]
  rfl
theorem nl_ne : Txt.split ⟨#[]⟩ (Str.ofString "\n") ≠ [] := by decide +kernel
abbrev Bks := List Ts × List Mn
def outL (l0 : Str) (ls : List Str) : Except Xn Bks := match testsI l0 with
  | none => .error (textX 0)
  | some T => match mannersI 1 ls with
    | .error j => .error (textX j)
    | .ok ms => if 2 ≤ ms.length ∧ ms.length ≤ 6 then .ok (T, ms) else .error bookX
def outB (x : Str) : Except Xn Bks := match Txt.split x (Str.ofString "\n") with
  | [] => .error (textX 0)
  | l0 :: ls => outL l0 ls
structure Lines (x l0 : Str) (ls : List Str) : Prop where
  e : Txt.split x (Str.ofString "\n") = l0 :: ls
  g0 : Good l0
  b0 : l0.length ≤ 20000
  g : ∀ l ∈ ls, Good l ∧ l.length ≤ 20000
  n : ls.length ≤ x.length
theorem lines_of {x : Str} (gx : Good x) (lx : x.length ≤ 15000) : ∃ l0 ls, Lines x l0 ls := by
  obtain ⟨l0, ls, hs⟩ := split_some (x := x) nl_ne
  have gl := good_split gx (y := Str.ofString "\n")
  have sl := split_len x (Str.ofString "\n")
  rw [hs, nl_len] at sl
  have l1 : lenS (l0 :: ls) = l0.length + lenS ls := rfl
  rw [l1, List.length_cons] at sl
  refine ⟨l0, ls, hs, gl l0 (by rw [hs]; simp), by omega, fun l hl => ⟨gl l (by rw [hs]; exact List.mem_cons_of_mem _ hl), ?_⟩, by omega⟩
  have := le_lenS hl
  omega
def ReadR (h : List Ob) (r : Res D) (o : Except Xn Bks) : Prop := match o with
  | .ok b => ∃ S, r = .ok (bookD b.1 b.2) S ∧ Kp0 h S.h
  | .error e => ∃ S, r = .exc e S ∧ Kp0 h S.h
theorem read_ok {x : Str} (gx : Good x) (lx : x.length ≤ 15000) (h : List Ob) : ReadR h (F_read_book [.str x] h) (outB x) := by
  obtain ⟨l0, ls, L⟩ := lines_of gx lx
  have q1 : x.length ≤ 999998 := by omega
  have isS : isaB "str" "str" = some true := by decide
  obtain ⟨d1, S1, e1, rfl, k1⟩ := (tests_of_ok L.g0 L.b0 (h ++ [Ob.lst ((l0 :: ls).map D.str)])).ex
  have hl := k1 _ _ (at_new _ _)
  have kt : Kp0 h S1.h := (Kp0.app _ _).trans k1
  have mo := manners_of_ok L.g (by have := L.n; omega) (h := S1.h ++ [Ob.lst (ls.map D.str)]) (at_new _ _)
  rw [List.map_cons] at e1 hl
  unfold outB
  rw [L.e]
  unfold ReadR outL
  dsimp only
  cases ht : testsI l0 with
  | none =>
    rw [ht] at e1
    refine ⟨⟨[], S1.h⟩, runB_exc (S := ⟨[some (.str x), some (.ref h.length), some .non, none], S1.h⟩) ?_, kt⟩
    simp [p_read_book, at0, isS, nl_len, q1, L.e, e1, testsO, Den.isNon, textX]
  | some T =>
    rw [ht] at e1
    dsimp only [testsO] at e1 ⊢
    cases hm : mannersI 1 ls with
    | error j =>
      rw [hm] at mo
      obtain ⟨S2, e2, k2⟩ := mo
      refine ⟨⟨[], S2.h⟩, runB_exc (S := ⟨[some (.str x), some (.ref h.length), some (.tup (T.map testD)), none], S2.h⟩) ?_, (kt.trans (Kp0.app _ _)).trans k2⟩
      simp [p_read_book, at0, isS, nl_len, q1, L.e, e1, Den.isNon, z_slL, hl, cut_tl, e2, -List.map_map]
    | ok ms =>
      rw [hm] at mo
      obtain ⟨S2, e2, k2⟩ := mo
      dsimp only
      have q3 := is_many_ok (ms.length : Nat) S2.h
      by_cases hz : 2 ≤ ms.length ∧ ms.length ≤ 6
      · rw [if_pos hz]
        have z : (decide ((2 : Int) ≤ (ms.length : Nat)) && decide (((ms.length : Nat) : Int) ≤ 6)) = true := by
          rw [Bool.and_eq_true, decide_eq_true_eq, decide_eq_true_eq]; omega
        rw [z] at q3
        refine ⟨⟨[], S2.h⟩, runB_ret (S := ⟨[some (.str x), some (.ref h.length), some (.tup (T.map testD)), some (.tup (ms.map manD))], S2.h⟩) ?_, (kt.trans (Kp0.app _ _)).trans k2⟩
        simp [p_read_book, at0, isS, nl_len, q1, L.e, e1, Den.isNon, z_slL, hl, cut_tl, e2, q3, bookD, -List.map_map]
      · rw [if_neg hz]
        have z : (decide ((2 : Int) ≤ (ms.length : Nat)) && decide (((ms.length : Nat) : Int) ≤ 6)) = false := by
          rw [Bool.and_eq_false_iff, decide_eq_false_iff_not, decide_eq_false_iff_not]; omega
        rw [z] at q3
        refine ⟨⟨[], S2.h⟩, runB_exc (S := ⟨[some (.str x), some (.ref h.length), some (.tup (T.map testD)), some (.tup (ms.map manD))], S2.h⟩) ?_, (kt.trans (Kp0.app _ _)).trans k2⟩
        simp [p_read_book, at0, isS, nl_len, q1, L.e, e1, Den.isNon, z_slL, hl, cut_tl, e2, q3, bookX, -List.map_map]
theorem read_not {d : D} {t : String} {h : List Ob} (e : ∀ loc, tyName ⟨loc, h⟩ d = some t) (f : isaB t "str" = some false) : F_read_book [d] h = .exc (textX 0) ⟨[], h⟩ := by
  refine runB_exc (S := ⟨[some d, none, none, none], h⟩) ?_
  simp [p_read_book, e, f, textX]
/-! what is heard -/
def outD : Except Xn Bks → List D
  | .ok b => [.str (Str.ofString "told"), bookD b.1 b.2]
  | .error e => if e.cls = Str.ofString "BadText" then [.str (Str.ofString "text"), (e.fs.lookup (Str.ofString "line")).getD .non, .bl true] else [.str (Str.ofString "book"), (e.fs.lookup (Str.ofString "error")).getD .non, .bl true]
theorem cls_ne : (Str.ofString "BadBook" = Str.ofString "BadText") = False := by
  apply eq_false; decide
theorem heard_told {d w : D} {b : Bool} {h : List Ob} {S : DS} (e : F_read_book [d] h = .ok w S) : F_law_heard [d, .bl b] h = .ok (.ref S.h.length) ⟨[], S.h ++ [.lst [.str "told", w]]⟩ := by
  refine runB_ret (S := ⟨[some d, some (.bl b), none], S.h ++ [.lst [.str "told", w]]⟩) ?_
  unfold p_law_heard sTryN
  have pk : pick [0] [d] = [d] := rfl
  cases b <;> simp [e, pk]
theorem heard_text {d : D} {b : Bool} {j : Int} {h : List Ob} {S : DS} (e : F_read_book [d] h = .exc (textX j) S) : F_law_heard [d, .bl b] h = .ok (.ref S.h.length) ⟨[], S.h ++ [.lst [.str "text", .int j, .bl true]]⟩ := by
  refine runB_ret (S := ⟨[some d, some (.bl b), none], S.h ++ [.lst [.str "text", .int j, .bl true]]⟩) ?_
  unfold p_law_heard sTryN
  have pk : pick [0] [d] = [d] := rfl
  have sb : sub_BadText (Str.ofString "BadText") = some true := by decide
  have cl : (textX j).cls = Str.ofString "BadText" := rfl
  cases b <;> simp [e, pk, tryH, cl, sb, sRetX, xLst, xCons, xC, xFld, xIsi, xNil] <;> simp [textX, List.lookup]
theorem heard_book {d : D} {b : Bool} {h : List Ob} {S : DS} (e : F_read_book [d] h = .exc bookX S) : F_law_heard [d, .bl b] h = .ok (.ref S.h.length) ⟨[], S.h ++ [.lst [.str "book", .str "manners", .bl true]]⟩ := by
  refine runB_ret (S := ⟨[some d, some (.bl b), none], S.h ++ [.lst [.str "book", .str "manners", .bl true]]⟩) ?_
  unfold p_law_heard sTryN
  have pk : pick [0] [d] = [d] := rfl
  have sb : sub_BadText (Str.ofString "BadBook") = some false := by decide
  have sb2 : sub_BadBook (Str.ofString "BadBook") = some true := by decide
  have cl : bookX.cls = Str.ofString "BadBook" := rfl
  cases b <;> simp [e, pk, tryH, cl, sb, sb2, sRetX, xLst, xCons, xC, xFld, xIsi, xNil] <;> simp [bookX, List.lookup]
/-- what can come of a reading -/
inductive Out where
  | text (j : Int) | book | told (T : List Ts) (ms : List Mn)
def outO : Except Xn Bks → Out → Prop
  | .ok b, o => o = .told b.1 b.2
  | .error e, o => (∃ j, e = textX j ∧ o = .text j) ∨ (e = bookX ∧ o = .book)
def outDD : Out → List D
  | .text j => [.str "text", .int j, .bl true]
  | .book => [.str "book", .str "manners", .bl true]
  | .told T ms => [.str "told", bookD T ms]
theorem heard_ok {d : D} {b : Bool} {h : List Ob} {r : Except Xn Bks} {o : Out} (ro : outO r o) (q : ReadR h (F_read_book [d] h) r) : ∃ k h', F_law_heard [d, .bl b] h = .ok (.ref k) ⟨[], h'⟩ ∧ Kp0 h h' ∧ h'[k]? = some (.lst (outDD o)) := by
  cases r with
  | ok w =>
    obtain ⟨S, e, kp⟩ := q
    cases ro
    exact ⟨_, _, heard_told e, kp.trans (Kp0.app _ _), at_new _ _⟩
  | error x =>
    obtain ⟨S, e, kp⟩ := q
    rcases ro with ⟨j, rfl, rfl⟩ | ⟨rfl, rfl⟩
    · exact ⟨_, _, heard_text e, kp.trans (Kp0.app _ _), at_new _ _⟩
    · exact ⟨_, _, heard_book e, kp.trans (Kp0.app _ _), at_new _ _⟩
end K05

namespace K05
open PySem L2 PySem.Spec PyProof.Rows Den
/-! ### M. the law's own reader -/
theorem eqv_strs : ∀ P Q : List Str, PyData.eqv (.list (P.map PyData.str)) (.list (Q.map PyData.str)) = (P == Q)
  | [], [] => rfl
  | [], _ :: _ => rfl
  | _ :: _, [] => rfl
  | p :: P, q :: Q => by
    have ih := eqv_strs P Q
    show ((p == q) && PyData.eqv (.list (P.map PyData.str)) (.list (Q.map PyData.str))) = ((p == q) && (P == Q))
    rw [ih]
theorem ne_lists {S : DS} {n m : Nat} {P Q : List Str} (gP : ∀ u ∈ P, Good u) (gQ : ∀ u ∈ Q, Good u) (hn : S.h[n]? = some (.lst (P.map D.str))) (hm : S.h[m]? = some (.lst (Q.map D.str))) : oNe (.ref n) (.ref m) S = .ok (.bl (!(P == Q))) S := by
  unfold oNe
  rw [pyD_lst hn, pyD_lst hm, toPy_strs, toPy_strs]
  show (if SeqAt.shaped (.list (P.map PyData.str)) && SeqAt.shaped (.list (Q.map PyData.str)) then Res.ok (D.bl (!PyData.eqv (.list (P.map PyData.str)) (.list (Q.map PyData.str)))) S else .stuck) = _
  rw [shaped_strsL gP, shaped_strsL gQ, if_pos (by rfl), eqv_strs]
theorem in_list {S : DS} {n : Nat} {a : Str} {us : List Str} (ga : Good a) (gu : ∀ u ∈ us, Good u) (hn : S.h[n]? = some (.lst (us.map D.str))) : oIn (.str a) (.ref n) S = .ok (.bl (us.any fun u => u == a)) S := by
  have e : inD (.str a) (.ref n) S = some (us.any fun u => u == a) := by
    unfold inD
    dsimp only
    rw [hn]
    dsimp only
    rw [z_pyS, mapM_strs]
    dsimp only
    rw [ga.shaped, shaped_strsL gu, if_pos (by rfl), any_strs]
  unfold oIn
  rw [e]
def pickO (W P : List Str) : Bool := P == W.filter fun w => P.any fun u => u == w
def pickE (P : List Str) (d : D) : Option D := match d with
  | .str w => if P.any (fun u => u == w) then some (.str w) else none
  | _ => none
theorem pickE_all (P : List Str) : ∀ W : List Str, (W.map D.str).filterMap (pickE P) = (W.filter fun w => P.any fun u => u == w).map D.str
  | [] => rfl
  | w :: W => by
    rw [List.map_cons, List.filterMap_cons, pickE_all P W, List.filter_cons]
    unfold pickE
    dsimp only
    cases P.any (fun u => u == w) <;> rfl
theorem picked_law {W P : List Str} (gW : ∀ w ∈ W, Good w) (gP : ∀ p ∈ P, Good p) (lW : W.length ≤ 100) {h : List Ob} {p w : Nat} (hp : h[p]? = some (.lst (P.map D.str))) (hw : h[w]? = some (.lst (W.map D.str))) :
    Ok (F_law_picked [.ref p, .ref w] h) fun d S => ∃ k, d = .ref k ∧ S.h[k]? = some (.lst (if pickO W P = true then [.tup (P.map D.str)] else [])) ∧ Kp0 h S.h := by
  apply ok_runB
  have c : dComp [2] (dIter (dVar 1)) (gN 2) (tV (dBin oIn (dVar 2) (dVar 0))) (dVar 2) ⟨[some (.ref p), some (.ref w), none], h⟩ = _ :=
    comp_pure (pickE P) (iter_ref rfl hw) (over_lst hw) (by rw [List.length_map]; omega) fun d hd => by
      obtain ⟨s, hs, rfl⟩ := List.mem_map.mp hd
      refine ⟨_, rfl, ?_⟩
      have il := fun loc => in_list (S := ⟨loc, h⟩) (n := p) (gW s hs) gP hp
      cases q : P.any fun u => u == s <;> simp [il, pickE, q, -List.any_eq_true, -List.any_eq_false]
  rw [pickE_all] at c
  have ne := fun loc => ne_lists (S := ⟨loc, h ++ [Ob.lst ((W.filter fun w => P.any fun u => u == w).map D.str)]⟩) (n := p) (m := h.length) gP (fun u hu => gW u (List.mem_filter.mp hu).1) (at_old hp) (at_new _ _)
  have hp2 : ∀ t, (h ++ t)[p]? = some (.lst (P.map D.str)) := fun t => at_old hp
  cases q : pickO W P with
  | true =>
    have q' : (P == W.filter fun w => P.any fun u => u == w) = true := q
    rw [q'] at ne
    simp [p_law_picked, c, ne, hp2, -List.any_eq_true]
    first | exact Kp0.app _ _ | exact ⟨by simp, Kp0.app _ _⟩
  | false =>
    have q' : (P == W.filter fun w => P.any fun u => u == w) = false := q
    rw [q'] at ne
    simp [p_law_picked, c, ne, -List.any_eq_true]
    first | exact Kp0.app _ _ | exact ⟨by simp, Kp0.app _ _⟩
theorem any_contains (P : List Str) (w : Str) : (P.any fun u => u == w) = P.contains w := by
  rw [Bool.eq_iff_iff, List.any_eq_true, List.contains_iff_mem]
  constructor
  · rintro ⟨u, hu, e⟩; rw [← eq_of_beq e]; exact hu
  · intro h; exact ⟨w, h, beq_self_eq_true _⟩
theorem pickO_T (P : List Str) : pickO (six.map testS) P = okT P := by
  unfold pickO okT selT
  rw [List.filter_map]
  congr 1
  congr 1
  apply List.filter_congr
  intro t ht
  exact any_contains P (testS t)
theorem pickO_W (P : List Str) : pickO four P = okW P := by
  unfold pickO okW selW
  congr 1
  apply List.filter_congr
  intro t ht
  exact any_contains P t
theorem six_good {t : Ts} (h : t ∈ six) : Good (testS t) := by
  unfold six at h
  simp only [List.mem_cons, List.not_mem_nil, or_false] at h
  rcases h with rfl | rfl | rfl | rfl | rfl | rfl <;> exact good_of (by decide +kernel)
theorem ltests (h : List Ob) : F_law_tests [] h = .ok (.ref h.length) ⟨[], h ++ [.lst (six.map testD)]⟩ := rfl
theorem lwords (h : List Ob) : F_law_words [] h = .ok (.ref h.length) ⟨[], h ++ [.lst (four.map D.str)]⟩ := rfl
def cutF (d : D) : Option D := match d with
  | .str s => some (.tup [.str (cutS s none (some 2)), .str (cutS s (some 3) none)])
  | _ => none
theorem cutF_six : (six.all fun t => (cutS (testS t) none (some 2) == t.1) && (cutS (testS t) (some 3) none == t.2) && decide ((testS t).length ≤ 10)) = true := by decide +kernel
theorem cutF_all : ∀ {T : List Ts}, (∀ t ∈ T, t ∈ six) → ((T.map testS).map D.str).filterMap cutF = T.map testD
  | [], _ => rfl
  | t :: T, h => by
    have := List.all_eq_true.mp cutF_six t (h t (by simp))
    simp only [Bool.and_eq_true] at this
    rw [List.map_cons, List.map_cons, List.filterMap_cons, cutF_all fun x hx => h x (List.mem_cons_of_mem _ hx), List.map_cons]
    show D.tup [.str _, .str _] :: _ = _
    rw [eq_of_beq this.1.1, eq_of_beq this.1.2]
    rfl
def testsR (l : Str) : List D := match testsI l with
  | none => []
  | some T => [.tup (T.map testD)]
theorem ts_good : Good (Str.ofString "tests ") := good_of (by decide +kernel)
theorem tests_in_ok {l : Str} (g : Good l) (ll : l.length ≤ 20000) (h : List Ob) : Ok (F_law_tests_in [.str l] h) fun d S => ∃ k, d = .ref k ∧ S.h[k]? = some (.lst (testsR l)) ∧ Kp0 h S.h := by
  apply ok_runB
  unfold testsR testsI
  have sw : Txt.startswith l (Str.ofString "tests ") = (cutS l none (some 6) == Str.ofString "tests ") := by rw [starts_cut, th_len]; rfl
  have l1 : l.length ≤ 1000000 := by omega
  cases h1 : (l == Str.ofString "tests none") with
  | true =>
    simp [p_law_tests_in, eq_str g.shaped tn_good.shaped, h1]
    first | exact Kp0.app _ _ | exact ⟨by simp, Kp0.app _ _⟩
  | false =>
    have ne : ∀ S, oNe (.str (cutS l none (some 6))) (.str (Str.ofString "tests ")) S = .ok (.bl (!(cutS l none (some 6) == Str.ofString "tests "))) S := fun S => ne_str (g.cut _ _).shaped ts_good.shaped
    rw [← sw] at ne
    cases h2 : Txt.startswith l (Str.ofString "tests ") with
    | false =>
      rw [h2] at ne
      simp [p_law_tests_in, l1, eq_str g.shaped tn_good.shaped, h1, ne]
      first | exact Kp0.app _ _ | exact ⟨by simp, Kp0.app _ _⟩
    | true =>
      rw [h2] at ne
      rw [if_neg (by decide), if_pos rfl]
      have gc := g.cut (some 6) none
      generalize hP : pieces (cutS l (some 6) none) = P
      have gP : ∀ p ∈ P, Good p := by rw [← hP]; exact pieces_good gc
      have lc := len_cut l (some 6) none
      have lP : P.length ≤ 20002 := by rw [← hP]; have := pieces_count (cutS l (some 6) none); omega
      have sP : Txt.split (cutS l (some 6) none) (Str.ofString ", ") = P := hP
      have l3 : (cutS l (some 6) none).length + 2 ≤ 1000000 := by omega
      have c1 : dComp [4, 5] (dIter (dCall F_law_tests dNil)) (gTup 2 (gCons (gN 4) (gCons (gN 5) gNil))) tTrue (dBin oAdd (dBin oAdd (dVar 4) (dC (.str "="))) (dVar 5)) ⟨[some (.str l), none, none, none, none, none, none], h⟩ = _ :=
        comp_pure joinE (S1 := ⟨[some (.str l), none, none, none, none, none, none], h ++ [Ob.lst (six.map testD)]⟩) (iter_ref (xs := six.map testD) (by simp [ltests, -List.map_map]) (at_new _ _)) (over_lst (at_new _ _)) (by decide) fun d hd => by
          obtain ⟨t, ht, rfl⟩ := List.mem_map.mp hd
          obtain ⟨e1, e2, _⟩ := six_each ht
          refine ⟨_, rfl, ?_⟩
          simp [joinE, testD, e1, e2, eq_len, len_app]
      rw [joinE_all] at c1
      have c1' : dComp [4, 5] (dIter (dCall F_law_tests dNil)) (gTup 2 (gCons (gN 4) (gCons (gN 5) gNil))) tTrue (dBin oAdd (dBin oAdd (dVar 4) (dC (.str "="))) (dVar 5)) ⟨[some (.str l), none, none, none, none, none, none], h⟩ = .ok (.ref (h.length + 1)) ⟨[some (.str l), none, none, none, none, none, none], h ++ [Ob.lst (six.map testD), Ob.lst ((six.map testS).map D.str)]⟩ := by
        rw [c1]; simp [-List.map_map]
      obtain ⟨d2, S2, q2, k, rfl, hk, k2⟩ := (picked_law (W := six.map testS) (P := P) (p := h.length + 2) (w := h.length + 1) (h := h ++ [Ob.lst (six.map testD), Ob.lst ((six.map testS).map D.str), Ob.lst (P.map D.str)]) (fun w hw => by
        obtain ⟨t, ht, rfl⟩ := List.mem_map.mp hw
        exact six_good ht) gP (by decide) (by simp) (by simp [-List.map_map])).ex
      rw [pickO_T] at hk
      have kk := (Kp0.app h [Ob.lst (six.map testD), Ob.lst ((six.map testS).map D.str), Ob.lst (P.map D.str)]).trans k2
      cases ho : okT P with
      | false =>
        rw [ho, if_neg (by decide)] at hk
        have c3 : dComp [3] (dIter (dVar 2)) (gN 3) tTrue (dCB cTuple (dCons (dComp [6] (dIter (dVar 3)) (gN 6) tTrue (dTup (dCons (dSl (dVar 6) dPN (dPS (dC (.int 2)))) (dCons (dSl (dVar 6) (dPS (dC (.int 3))) dPN) dNil)))) dNil)) ⟨[some (.str l), some (.ref (h.length + 1)), some (.ref k), none, none, none, none], S2.h⟩ = _ :=
          comp_pure (fun _ => none) (iter_ref (xs := []) rfl hk) (over_lst hk) (by decide) fun d hd => by simp at hd
        simp [p_law_tests_in, l1, eq_str g.shaped tn_good.shaped, h1, ne, c1', cm_len, l3, sP, q2, c3, -List.map_map]
        first | exact kk.trans (Kp0.app _ _) | exact ⟨by simp, kk.trans (Kp0.app _ _)⟩
      | true =>
        rw [ho, if_pos rfl] at hk
        have sel := eq_of_beq (show (P == (selT P).map testS) = true from ho)
        have msel : ∀ t ∈ selT P, t ∈ six := fun t ht => (List.mem_filter.mp ht).1
        have inner : ∀ h', dComp [6] (dIter (dVar 3)) (gN 6) tTrue (dTup (dCons (dSl (dVar 6) dPN (dPS (dC (.int 2)))) (dCons (dSl (dVar 6) (dPS (dC (.int 3))) dPN) dNil))) ⟨[some (.str l), some (.ref (h.length + 1)), some (.ref k), some (.tup (P.map D.str)), none, none, none], h'⟩ = .ok (.ref h'.length) ⟨[some (.str l), some (.ref (h.length + 1)), some (.ref k), some (.tup (P.map D.str)), none, none, none], h' ++ [Ob.lst ((selT P).map testD)]⟩ := fun h' => by
          have c4 : dComp [6] (dIter (dVar 3)) (gN 6) tTrue (dTup (dCons (dSl (dVar 6) dPN (dPS (dC (.int 2)))) (dCons (dSl (dVar 6) (dPS (dC (.int 3))) dPN) dNil))) ⟨[some (.str l), some (.ref (h.length + 1)), some (.ref k), some (.tup (P.map D.str)), none, none, none], h'⟩ = _ :=
            comp_pure cutF (iter_tup (xs := P.map D.str) rfl) rfl (by rw [List.length_map]; omega) fun d hd => by
              obtain ⟨s, hs, rfl⟩ := List.mem_map.mp hd
              have ls : s.length ≤ 1000000 := by
                rw [sel] at hs
                obtain ⟨t, ht, rfl⟩ := List.mem_map.mp hs
                have := List.all_eq_true.mp cutF_six t (msel t ht)
                simp only [Bool.and_eq_true, decide_eq_true_eq] at this
                omega
              refine ⟨_, rfl, ?_⟩
              simp [cutF, ls]
          have e : (P.map D.str).filterMap cutF = (selT P).map testD := by
            conv => lhs; rw [sel]
            exact cutF_all msel
          rw [e] at c4
          exact c4
        obtain ⟨h3, c3, k3⟩ := comp_F (vs := [3]) (it := dIter (dVar 2)) (g := gN 3) (e := dCB cTuple (dCons (dComp [6] (dIter (dVar 3)) (gN 6) tTrue (dTup (dCons (dSl (dVar 6) dPN (dPS (dC (.int 2)))) (dCons (dSl (dVar 6) (dPS (dC (.int 3))) dPN) dNil)))) dNil)) (S := ⟨[some (.str l), some (.ref (h.length + 1)), some (.ref k), none, none, none, none], S2.h⟩) (fun _ => .tup ((selT P).map testD)) (fun h' => Kp0 S2.h h') (iter_ref rfl hk) (fun h' k' => over_lst (k' _ _ hk)) (by simp) (Kp0.refl _) (by
          intro d hd h' k'
          have : d = .tup (P.map D.str) := by simpa using hd
          subst this
          refine ⟨_, rfl, ?_⟩
          have inn := inner h'
          simp [inn, -List.map_map]
          exact k'.trans (Kp0.app _ _))
        simp [p_law_tests_in, l1, eq_str g.shaped tn_good.shaped, h1, ne, c1', cm_len, l3, sP, q2, c3, -List.map_map]
        first | exact (kk.trans k3).trans (Kp0.app _ _) | exact ⟨by simp, (kk.trans k3).trans (Kp0.app _ _)⟩
end K05

namespace K05
open PySem L2 PySem.Spec PyProof.Rows Den
def bodyW : DSt := sSeq (sIf (tV (dBin oEq (dVar 0) (dVar 1))) (sRet (dLst (dCons (dTup (dCons (dBin oEq (dVar 1) (dC (.str "waits"))) (dCons (dTup dNil) dNil))) dNil))) sNop)
  (sIf (tV (dBin oEq (dSl (dVar 0) dPN (dPS (dBin oAdd (dCB cLen (dCons (dVar 1) dNil)) (dC (.int 2))))) (dBin oAdd (dVar 1) (dC (.str ": "))))) (sSeq (sAsg (dCall F_law_picked (dCons (dMtS mSplit (dSl (dVar 0) (dPS (dBin oAdd (dCB cLen (dCons (dVar 1) dNil)) (dC (.int 2)))) dPN) (dC (.str ", "))) (dCons (dCall F_law_words dNil) dNil))) (gN 2))
  (sRet (dComp [3] (dIter (dVar 2)) (gN 3) tTrue (dTup (dCons (dBin oEq (dVar 1) (dC (.str "waits"))) (dCons (dVar 3) dNil)))))) sNop)
theorem manner_in_eq : p_law_manner_in = sSeq (sFor (dIter (dTup (dCons (dC (.str "waits")) (dCons (dC (.str "any time")) dNil)))) (gN 1) bodyW) (sRet (dLst dNil)) := rfl
def manR (o : Option Mn) : List D := match o with
  | none => []
  | some m => [manD m]
theorem headW_len (b : Bool) : (headW b).length ≤ 8 := by cases b <;> decide +kernel
theorem turnW {l : Str} (g : Good l) (ll : l.length ≤ 20000) (b : Bool) (a2 a3 : Option D) (h : List Ob) :
    (l == headW b) = true ∧ (∃ k S', bodyW ⟨[some (.str l), some (.str (headW b)), a2, a3], h⟩ = .ok (.ret (.ref k)) S' ∧ S'.h[k]? = some (.lst [manD (b, [])]) ∧ Kp0 h S'.h) ∨
    (l == headW b) = false ∧ begW b l = true ∧ (∃ k S', bodyW ⟨[some (.str l), some (.str (headW b)), a2, a3], h⟩ = .ok (.ret (.ref k)) S' ∧ S'.h[k]? = some (.lst (manR (notesI b (restW b l)))) ∧ Kp0 h S'.h) ∨
    (l == headW b) = false ∧ begW b l = false ∧ bodyW ⟨[some (.str l), some (.str (headW b)), a2, a3], h⟩ = .ok .next ⟨[some (.str l), some (.str (headW b)), a2, a3], h⟩ := by
  have gw := headW_good b
  have lw : (headW b).length ≤ 1000000 := by have := headW_len b; omega
  have l1 : l.length ≤ 1000000 := by omega
  have q1 := fun S => eq_str (S := S) (x := l) (y := headW b) g.shaped gw.shaped
  have q2 : ∀ S, oEq (.str (headW b)) (.str (Str.ofString "waits")) S = .ok (.bl b) S := head_eq b
  have lwc : (headW b).length + (Str.ofString ": ").length ≤ 1000000 := by rw [col_len]; have := headW_len b; omega
  have gcol : Good colS := good_of (by decide +kernel)
  have q3 : ∀ S, oEq (.str (cutS l none (some ((headW b).length + 2)))) (.str (headW b ++ Str.ofString ": ")) S = .ok (.bl (begW b l)) S := fun S => eq_str (g.cut _ _).shaped (gw.app gcol).shaped
  cases c1 : (l == headW b) with
  | true =>
    rw [c1] at q1
    refine .inl ⟨rfl, h.length, ⟨[some (.str l), some (.str (headW b)), a2, a3], h ++ [Ob.lst [manD (b, [])]]⟩, ?_, at_new _ _, Kp0.app _ _⟩
    simp [bodyW, q1, q2, manD]
  | false =>
    rw [c1] at q1
    refine .inr ?_
    cases c2 : begW b l with
    | false =>
      rw [c2] at q3
      refine .inr ⟨rfl, rfl, ?_⟩
      simp [bodyW, q1, l1, lw, lwc, q3]
    | true =>
      rw [c2] at q3
      refine .inl ⟨rfl, rfl, ?_⟩
      have gr : Good (restW b l) := g.cut _ _
      have lr := rest_len b l
      have lP := pieces_count (restW b l)
      have gP := pieces_good gr
      unfold notesI
      generalize hP : pieces (restW b l) = P at lP gP
      have sP : Txt.split (cutS l (some ((headW b).length + 2)) none) (Str.ofString ", ") = P := hP
      have l3 : (cutS l (some ((headW b).length + 2)) none).length + 2 ≤ 1000000 := by
        have : (cutS l (some ((headW b).length + 2)) none).length ≤ l.length := lr
        omega
      obtain ⟨d2, S2, e2, k, rfl, hk, k2⟩ := (picked_law (W := four) (P := P) (p := h.length) (w := h.length + 1) (h := h ++ [Ob.lst (P.map D.str), Ob.lst (four.map D.str)]) (fun w hw => four_good hw) gP (by decide) (by simp) (by simp)).ex
      rw [pickO_W] at hk
      have kk := (Kp0.app h [Ob.lst (P.map D.str), Ob.lst (four.map D.str)]).trans k2
      cases ho : okW P with
      | false =>
        rw [ho, if_neg (by decide)] at hk
        have c3 : dComp [3] (dIter (dVar 2)) (gN 3) tTrue (dTup (dCons (dBin oEq (dVar 1) (dC (.str "waits"))) (dCons (dVar 3) dNil))) ⟨[some (.str l), some (.str (headW b)), some (.ref k), a3], S2.h⟩ = _ :=
          comp_pure (fun _ => none) (iter_ref (xs := []) rfl hk) (over_lst hk) (by decide) fun d hd => by simp at hd
        refine ⟨S2.h.length, ⟨[some (.str l), some (.str (headW b)), some (.ref k), a3], S2.h ++ [Ob.lst []]⟩, ?_, at_new _ _, kk.trans (Kp0.app _ _)⟩
        simp [bodyW, q1, l1, lw, lwc, q3, cm_len, l3, sP, lwords, e2, c3]
      | true =>
        rw [ho, if_pos rfl] at hk
        have c3 : dComp [3] (dIter (dVar 2)) (gN 3) tTrue (dTup (dCons (dBin oEq (dVar 1) (dC (.str "waits"))) (dCons (dVar 3) dNil))) ⟨[some (.str l), some (.str (headW b)), some (.ref k), a3], S2.h⟩ = _ :=
          comp_pure (fun d => some (.tup [.bl b, d])) (iter_ref rfl hk) (over_lst hk) (by simp) fun d hd => by
            refine ⟨_, rfl, ?_⟩
            simp [q2]
        refine ⟨S2.h.length, ⟨[some (.str l), some (.str (headW b)), some (.ref k), a3], S2.h ++ [Ob.lst [manD (b, selW P)]]⟩, ?_, at_new _ _, kk.trans (Kp0.app _ _)⟩
        have sel := eq_of_beq (show (P == selW P) = true from ho)
        rw [← sel]
        simp [bodyW, q1, l1, lw, lwc, q3, cm_len, l3, sP, lwords, e2, c3, manD]
theorem manner_in_ok {l : Str} (g : Good l) (ll : l.length ≤ 20000) (h : List Ob) : Ok (F_law_manner_in [.str l] h) fun d S => ∃ k, d = .ref k ∧ S.h[k]? = some (.lst (manR (mannerI l))) ∧ Kp0 h S.h := by
  apply ok_runB
  rw [manner_in_eq]
  show Ok (sSeq _ _ ⟨[some (.str l), none, none, none], h⟩) _
  have it : dIter (dTup (dCons (dC (.str "waits")) (dCons (dC (.str "any time")) dNil))) ⟨[some (.str l), none, none, none], h⟩ = .ok (.vals [.str (headW true), .str (headW false)]) ⟨[some (.str l), none, none, none], h⟩ := rfl
  rw [z_seq, sFor_vals it]
  have gn : ∀ (b : Bool) a1 a2 a3 hh, gN 1 (.str (headW b)) ⟨[some (.str l), a1, a2, a3], hh⟩ = some ⟨[some (.str l), some (.str (headW b)), a2, a3], hh⟩ := fun b a1 a2 a3 hh => rfl
  unfold forV
  rw [gn]
  dsimp only
  rcases turnW g ll true none none h with ⟨c1, k, S', e, hk, kp⟩ | ⟨c1, c2, k, S', e, hk, kp⟩ | ⟨c1, c2, e⟩
  · rw [e]
    exact ⟨k, rfl, by unfold mannerI; rw [c1, if_pos rfl]; exact hk, kp⟩
  · rw [e]
    exact ⟨k, rfl, by unfold mannerI; rw [c1, if_neg (by decide), if_pos c2]; exact hk, kp⟩
  · rw [e, Res.bind_ok]
    dsimp only
    unfold forV
    rw [gn]
    dsimp only
    rcases turnW g ll false none none h with ⟨d1, k, S', e, hk, kp⟩ | ⟨d1, d2, k, S', e, hk, kp⟩ | ⟨d1, d2, e⟩
    · rw [e]
      exact ⟨k, rfl, by unfold mannerI; rw [c1, if_neg (by decide), if_neg (by rw [c2]; decide), d1, if_pos rfl]; exact hk, kp⟩
    · rw [e]
      exact ⟨k, rfl, by unfold mannerI; rw [c1, if_neg (by decide), if_neg (by rw [c2]; decide), d1, if_neg (by decide), if_pos d2]; exact hk, kp⟩
    · rw [e, Res.bind_ok]
      dsimp only
      unfold forV
      rw [Res.bind_ok]
      simp
      have : mannerI l = none := by
        unfold mannerI
        rw [c1, if_neg (by decide), if_neg (by rw [c2]; decide), d1, if_neg (by decide), if_neg (by rw [d2]; decide)]
      rw [this]
      first | exact Kp0.app _ _ | exact ⟨by simp [manR], Kp0.app _ _⟩
end K05

namespace K05
open PySem L2 PySem.Spec PyProof.Rows Den
/-! ### N. what is due -/
def manP (m : Mn) : PyData := .tuple [.bool m.1, .tuple (m.2.map .str)]
theorem toPy_man (h : List Ob) (n : Nat) (m : Mn) : toPy h (n + 2) (manD m) = some (manP m) := by
  have e : toPy h (n + 1) (.tup (m.2.map D.str)) = some (.tuple (m.2.map .str)) := by
    show ((m.2.map D.str).mapM (toPy h n)).map PyData.tuple = _
    rw [toPy_strs]; rfl
  show ([D.bl m.1, D.tup (m.2.map D.str)].mapM (toPy h (n + 1))).map PyData.tuple = _
  rw [List.mapM_cons, List.mapM_cons, e]; rfl
theorem filter_subs {α : Type} (f : α → Bool) : ∀ l : List α, l.filter f ∈ subs l
  | [] => by simp [subs]
  | x :: xs => by
    rw [List.filter_cons]
    cases f x with
    | true => exact (subs_cons (filter_subs f xs)).2
    | false => exact (subs_cons (filter_subs f xs)).1
theorem testsI_sub {l : Str} {T : List Ts} (h : testsI l = some T) : T ∈ subs six := by
  unfold testsI at h
  split at h
  · cases h; exact subs_nil six
  · split at h
    · split at h
      · cases h; exact filter_subs _ _
      · cases h
    · cases h
theorem notesI_sub {b : Bool} {r : Str} {m : Mn} (h : notesI b r = some m) : m.2 ∈ subs four := by
  unfold notesI at h
  split at h
  · cases h; exact filter_subs _ _
  · cases h
theorem mannerI_sub {l : Str} {m : Mn} (h : mannerI l = some m) : m.2 ∈ subs four := by
  unfold mannerI at h
  split at h
  · cases h; exact subs_nil four
  · split at h
    · exact notesI_sub h
    · split at h
      · cases h; exact subs_nil four
      · split at h
        · exact notesI_sub h
        · cases h
theorem shT_all : ((subs six).all fun T => SeqAt.shaped (.list [.tuple (T.map testP)])) = true := by decide +kernel
theorem shM_all : ((subs four).all fun n => SeqAt.shaped (.list [manP (true, n)]) && SeqAt.shaped (.list [manP (false, n)])) = true := by decide +kernel
theorem eq_nil {S : DS} {a b : Nat} {xs : List D} {ps : List PyData} (ha : S.h[a]? = some (.lst xs)) (hb : S.h[b]? = some (.lst [])) (hp : xs.mapM (toPy S.h 19) = some ps) (sh : SeqAt.shaped (.list ps) = true) : oEq (.ref a) (.ref b) S = .ok (.bl ps.isEmpty) S := by
  unfold oEq
  rw [pyD_lst ha, pyD_lst hb, hp]
  show (if SeqAt.shaped (.list ps) && SeqAt.shaped (.list []) then Res.ok (D.bl (PyData.eqv (.list ps) (.list []))) S else .stuck) = _
  rw [sh, if_pos (by rfl)]
  cases ps <;> rfl
theorem eq_testsR {l : Str} {S : DS} {a b : Nat} (ha : S.h[a]? = some (.lst (testsR l))) (hb : S.h[b]? = some (.lst [])) : oEq (.ref a) (.ref b) S = .ok (.bl (testsI l).isNone) S := by
  unfold testsR at ha
  cases ht : testsI l with
  | none =>
    rw [ht] at ha
    exact eq_nil (ps := []) ha hb rfl (by decide)
  | some T =>
    rw [ht] at ha
    have e : [D.tup (T.map testD)].mapM (toPy S.h 19) = some [.tuple (T.map testP)] := by
      have e1 : toPy S.h 19 (.tup (T.map testD)) = some (.tuple (T.map testP)) := by
        show ((T.map testD).mapM (toPy S.h (17 + 1))).map PyData.tuple = _
        rw [toPy_tests]; rfl
      rw [List.mapM_cons, e1]; rfl
    exact eq_nil ha hb e (List.all_eq_true.mp shT_all T (testsI_sub ht))
theorem eq_manR {l : Str} {S : DS} {a b : Nat} (ha : S.h[a]? = some (.lst (manR (mannerI l)))) (hb : S.h[b]? = some (.lst [])) : oEq (.ref a) (.ref b) S = .ok (.bl (mannerI l).isNone) S := by
  cases ht : mannerI l with
  | none =>
    rw [ht] at ha
    exact eq_nil (xs := []) (ps := []) ha hb rfl (by decide)
  | some m =>
    rw [ht] at ha
    have e : [manD m].mapM (toPy S.h 19) = some [manP m] := by
      rw [List.mapM_cons, toPy_man S.h 17 m]; rfl
    have sh : SeqAt.shaped (.list [manP m]) = true := by
      have := List.all_eq_true.mp shM_all m.2 (mannerI_sub ht)
      rw [Bool.and_eq_true] at this
      obtain ⟨w, n⟩ := m
      cases w
      · exact this.2
      · exact this.1
    exact eq_nil (xs := [manD m]) ha hb e sh
def bodyD : DSt := sSeq (sAsg (dCall F_law_manner_in (dCons (dVar 5) dNil)) (gN 6))
  (sSeq (sIf (tV (dBin oEq (dVar 6) (dLst dNil))) (sRet (dLst (dCons (dC (.str "text")) (dCons (dBin oAdd (dVar 4) (dC (.int 1))) (dCons (dC (.bl true)) dNil))))) sNop)
  (sExpr (dMtL mExtend (dVar 3) (dCons (dVar 6) dNil))))
def g45 : DG := gTup 2 (gCons (gN 4) (gCons (gN 5) gNil))
theorem due_eq : p_law_due = sSeq (sIf (tNotD (tTr (dCB cIsi (dCons (dVar 0) (dCons (dC (.ty "str")) dNil))))) (sRet (dLst (dCons (dC (.str "text")) (dCons (dC (.int 0)) (dCons (dC (.bl true)) dNil))))) sNop)
  (sSeq (sAsg (dMtS mSplit (dVar 0) (dC (.str "\n"))) (gN 1))
  (sSeq (sPar 2 3 (dCons (dCall F_law_tests_in (dCons (dBin oIx (dVar 1) (dC (.int 0))) dNil)) (dCons (dLst dNil) dNil)))
  (sSeq (sIf (tV (dBin oEq (dVar 2) (dLst dNil))) (sRet (dLst (dCons (dC (.str "text")) (dCons (dC (.int 0)) (dCons (dC (.bl true)) dNil))))) sNop)
  (sSeq (sFor (dEnum (dCons (dSl (dVar 1) (dPS (dC (.int 1))) dPN) dNil)) g45 bodyD)
  (sSeq (sIf (tNotD (tV (dChain oLe oLe (dC (.int 2)) (dCB cLen (dCons (dVar 3) dNil)) (dC (.int 6))))) (sRet (dLst (dCons (dC (.str "book")) (dCons (dC (.str "manners")) (dCons (dC (.bl true)) dNil))))) sNop)
  (sRet (dLst (dCons (dC (.str "told")) (dCons (dTup (dCons (dBin oIx (dVar 2) (dC (.int 0))) (dCons (dCB cTuple (dCons (dVar 3) dNil)) dNil))) dNil))))))))) := rfl
theorem turnD {v r1 r2 a6 : Option D} {nd : Nat} {k : Int} {l : Str} (g : Good l) (ll : l.length ≤ 20000) {h : List Ob} {acc : List D} (hd : h[nd]? = some (.lst acc)) (la : acc.length < 900000) :
    match mannerI l with
    | none => ∃ S' j, bodyD ⟨[v, r1, r2, some (.ref nd), some (.int k), some (.str l), a6], h⟩ = .ok (.ret (.ref j)) S' ∧ S'.h[j]? = some (.lst [.str "text", .int (k + 1), .bl true]) ∧ Kp0 h S'.h
    | some m => ∃ h' b6, bodyD ⟨[v, r1, r2, some (.ref nd), some (.int k), some (.str l), a6], h⟩ = .ok .next ⟨[v, r1, r2, some (.ref nd), some (.int k), some (.str l), b6], h'⟩ ∧ h'[nd]? = some (.lst (acc ++ [manD m])) ∧ Kp nd nd h h' := by
  obtain ⟨d, S, e, j, rfl, hj, kp⟩ := (manner_in_ok g ll h).ex
  have hj2 : ∀ t, (S.h ++ t)[j]? = some (.lst (manR (mannerI l))) := fun t => at_old hj
  have eq := fun loc => eq_manR (S := ⟨loc, S.h ++ [Ob.lst []]⟩) (a := j) (b := S.h.length) (hj2 _) (at_new _ _)
  have hd1 := kp _ _ hd
  have hd2 : ∀ t, (S.h ++ t)[nd]? = some (.lst acc) := fun t => at_old hd1
  cases hm : mannerI l with
  | none =>
    rw [hm] at eq
    refine ⟨⟨[v, r1, r2, some (.ref nd), some (.int k), some (.str l), some (.ref j)], S.h ++ [Ob.lst [], Ob.lst [.str "text", .int (k + 1), .bl true]]⟩, S.h.length + 1, ?_, by simp, kp.trans (Kp0.app _ _)⟩
    have eq' : ∀ loc, oEq (.ref j) (.ref S.h.length) ⟨loc, S.h ++ [Ob.lst []]⟩ = .ok (.bl true) ⟨loc, S.h ++ [Ob.lst []]⟩ := eq
    simp [bodyD, e, eq']
  | some m =>
    rw [hm] at eq hj2
    have eq' : ∀ loc, oEq (.ref j) (.ref S.h.length) ⟨loc, S.h ++ [Ob.lst []]⟩ = .ok (.bl false) ⟨loc, S.h ++ [Ob.lst []]⟩ := eq
    have ex : ∀ loc, mExtend (.ref nd) [.ref j] ⟨loc, S.h ++ [Ob.lst []]⟩ = .ok .non ⟨loc, (S.h ++ [Ob.lst []]).set nd (.lst (acc ++ [manD m]))⟩ := fun loc => by
      unfold mExtend
      dsimp only
      rw [hd2, hj2]
      dsimp only [manR]
      have : acc.length + [manD m].length ≤ mxL := by
        have : mxL = 1000000 := by rfl
        simp; omega
      first | rw [if_pos this] | simp [this]
    have il : ∀ loc, isLst ⟨loc, S.h ++ [Ob.lst []]⟩ (.ref nd) = true := fun loc => by
      unfold isLst
      dsimp only
      rw [hd2]
    refine ⟨(S.h ++ [Ob.lst []]).set nd (.lst (acc ++ [manD m])), some (.ref j), ?_, by rw [List.getElem?_set_self (by have := lt_of_at hd1; simp; omega)], fun q ob n1 n2 eo => ?_⟩
    · simp [bodyD, e, eq', il, ex]
    · rw [List.getElem?_set_ne (Ne.symm n1)]
      exact at_old (kp q ob eo)
end K05

namespace K05
open PySem L2 PySem.Spec PyProof.Rows Den
theorem loopD {v r1 r2 : Option D} {n nd : Nat} (nn : n ≠ nd) {hb : List Ob} {all : List Str} (hn : hb[n]? = some (.lst (all.map D.str))) (ga : ∀ l ∈ all, Good l ∧ l.length ≤ 20000) : ∀ (ls : List Str) (i fuel : Nat) (acc : List D) (h : List Ob) (a4 a5 a6 : Option D), all.drop i = ls → ls.length < fuel → acc.length + ls.length < 900000 → Kp nd nd hb h → h[nd]? = some (.lst acc) →
    match mannersI (1 + (i : Nat)) ls with
    | .ok ms => ∃ S', forO (numIt 0 (lstIt n)) g45 bodyD fuel i ⟨[v, r1, r2, some (.ref nd), a4, a5, a6], h⟩ = .ok .next S' ∧ (∃ b4 b5 b6, S'.loc = [v, r1, r2, some (.ref nd), b4, b5, b6]) ∧ Kp nd nd hb S'.h ∧ S'.h[nd]? = some (.lst (acc ++ ms.map manD))
    | .error j => ∃ S' q, forO (numIt 0 (lstIt n)) g45 bodyD fuel i ⟨[v, r1, r2, some (.ref nd), a4, a5, a6], h⟩ = .ok (.ret (.ref q)) S' ∧ S'.h[q]? = some (.lst [.str "text", .int j, .bl true]) ∧ Kp nd nd hb S'.h
  | [], i, fuel, acc, h, a4, a5, a6, ed, hf, hl, k, e => by
    obtain ⟨f, rfl⟩ : ∃ f, fuel = f + 1 := ⟨fuel - 1, by simp at hf; omega⟩
    have nx : all[i]? = none := by
      have := congrArg List.head? ed
      rwa [List.head?_drop] at this
    refine ⟨_, forO_end ?_, ⟨_, _, _, rfl⟩, k, by simpa using e⟩
    rw [numIt_of (k _ _ nn nn hn), List.getElem?_map, nx]
    rfl
  | l :: ls, i, fuel, acc, h, a4, a5, a6, ed, hf, hl, k, e => by
    rw [List.length_cons] at hf hl
    obtain ⟨f, rfl⟩ : ∃ f, fuel = f + 1 := ⟨fuel - 1, by omega⟩
    have nx : all[i]? = some l := by
      have := congrArg List.head? ed
      rwa [List.head?_drop] at this
    have ed2 : all.drop (i + 1) = ls := by
      have := congrArg List.tail ed
      rwa [List.tail_drop] at this
    obtain ⟨gl, ll⟩ := ga l (List.mem_of_getElem? nx)
    have it : numIt 0 (lstIt n) h i = some (some (.tup [.int (0 + (i : Nat)), .str l])) := by
      rw [numIt_of (k _ _ nn nn hn), List.getElem?_map, nx]
      rfl
    have gt : g45 (.tup [.int (0 + (i : Nat)), .str l]) ⟨[v, r1, r2, some (.ref nd), a4, a5, a6], h⟩ = some ⟨[v, r1, r2, some (.ref nd), some (.int (0 + (i : Nat))), some (.str l), a6], h⟩ := rfl
    have tn := turnD (v := v) (r1 := r1) (r2 := r2) (a6 := a6) (k := 0 + (i : Nat)) gl ll e (by omega)
    unfold mannersI
    cases hm : mannerI l with
    | none =>
      rw [hm] at tn
      obtain ⟨S', q, e1, hq, k1⟩ := tn
      have ej : (0 + (i : Nat) + 1 : Int) = 1 + (i : Nat) := by omega
      rw [ej] at hq
      exact ⟨S', q, forO_ret it gt e1, hq, k.trans (k1.kp nd nd)⟩
    | some m =>
      rw [hm] at tn
      obtain ⟨h', b6, e1, hd1, k1⟩ := tn
      have ih := loopD (v := v) (r1 := r1) (r2 := r2) nn hn ga ls (i + 1) f (acc ++ [manD m]) h' (some (.int (0 + (i : Nat)))) (some (.str l)) b6 ed2 (by omega) (by simp; omega) (k.trans k1) hd1
      have ei : (1 + ((i + 1 : Nat) : Int)) = 1 + (i : Nat) + 1 := by omega
      rw [ei] at ih
      dsimp only
      cases hr : mannersI (1 + (i : Nat) + 1) ls with
      | ok ms =>
        rw [hr] at ih
        obtain ⟨S', e2, l2, k2, hd2⟩ := ih
        exact ⟨S', by rw [forO_next it gt e1, e2], l2, k2, by simpa using hd2⟩
      | error j =>
        rw [hr] at ih
        obtain ⟨S', q, e2, hq, k2⟩ := ih
        exact ⟨S', q, by rw [forO_next it gt e1, e2], hq, k2⟩
def outV (l0 : Str) (ls : List Str) : Out := match testsI l0 with
  | none => .text 0
  | some T => match mannersI 1 ls with
    | .error j => .text j
    | .ok ms => if 2 ≤ ms.length ∧ ms.length ≤ 6 then .told T ms else .book
theorem outV_ok (l0 : Str) (ls : List Str) : outO (outL l0 ls) (outV l0 ls) := by
  unfold outL outV
  cases testsI l0 with
  | none => exact .inl ⟨0, rfl, rfl⟩
  | some T =>
    dsimp only
    cases mannersI 1 ls with
    | error j => exact .inl ⟨j, rfl, rfl⟩
    | ok ms =>
      dsimp only
      split
      · exact rfl
      · exact .inr ⟨rfl, rfl⟩
def DueR (h : List Ob) (r : Res D) (o : Out) : Prop := ∃ S j, r = .ok (.ref j) S ∧ S.h[j]? = some (.lst (outDD o)) ∧ Kp0 h S.h
theorem due_not {d : D} {t : String} {h : List Ob} (e : ∀ loc, tyName ⟨loc, h⟩ d = some t) (f : isaB t "str" = some false) : DueR h (F_law_due [d] h) (.text 0) := by
  refine ⟨_, _, runB_ret (S := ⟨[some d, none, none, none, none, none, none], h ++ [Ob.lst (outDD (.text 0))]⟩) (d := .ref h.length) ?_, at_new _ _, Kp0.app _ _⟩
  simp [due_eq, e, f, outDD]
theorem kp_of {h h0 : List Ob} {nd : Nat} {h1 : List Ob} (a : Kp0 h0 h) (k : Kp nd nd h h1) (b : h0.length ≤ nd) : Kp0 h0 h1 := fun j ob e => k j ob (by have := lt_of_at e; omega) (by have := lt_of_at e; omega) (a j ob e)
theorem kp_len {h h1 : List Ob} (k : Kp0 h h1) : h.length ≤ h1.length := by
  by_cases z : h.length = 0
  · omega
  · have lt : h.length - 1 < h.length := by omega
    have := lt_of_at (k (h.length - 1) h[h.length - 1] (by simp [lt]))
    omega
theorem due_ok {x l0 : Str} {ls : List Str} (gx : Good x) (lx : x.length ≤ 15000) (L : Lines x l0 ls) (h : List Ob) : DueR h (F_law_due [.str x] h) (outV l0 ls) := by
  have q1 : x.length ≤ 999998 := by omega
  have isS : isaB "str" "str" = some true := by decide
  obtain ⟨d1, S1, e1, k, rfl, hk, k1⟩ := (tests_in_ok L.g0 L.b0 (h ++ [Ob.lst ((l0 :: ls).map D.str)])).ex
  rw [List.map_cons] at e1
  have hl := k1 _ _ (at_new _ _)
  rw [List.map_cons] at hl
  have kt : Kp0 h S1.h := (Kp0.app _ _).trans k1
  have eq := fun loc => eq_testsR (S := ⟨loc, S1.h ++ [Ob.lst [], Ob.lst []]⟩) (a := k) (b := S1.h.length + 1) (at_old hk) (by simp)
  unfold outV
  cases ht : testsI l0 with
  | none =>
    rw [ht] at eq
    have eq' : ∀ loc, oEq (.ref k) (.ref (S1.h.length + 1)) ⟨loc, S1.h ++ [Ob.lst [], Ob.lst []]⟩ = .ok (.bl true) ⟨loc, S1.h ++ [Ob.lst [], Ob.lst []]⟩ := eq
    refine ⟨_, _, runB_ret (S := ⟨[some (.str x), some (.ref h.length), some (.ref k), some (.ref S1.h.length), none, none, none], S1.h ++ [Ob.lst [], Ob.lst [], Ob.lst (outDD (.text 0))]⟩) (d := .ref (S1.h.length + 2)) ?_, by simp, kt.trans (Kp0.app _ _)⟩
    simp [due_eq, at0, isS, nl_len, q1, L.e, e1, eq', outDD]
  | some T =>
    rw [ht] at eq
    have eq' : ∀ loc, oEq (.ref k) (.ref (S1.h.length + 1)) ⟨loc, S1.h ++ [Ob.lst [], Ob.lst []]⟩ = .ok (.bl false) ⟨loc, S1.h ++ [Ob.lst [], Ob.lst []]⟩ := eq
    dsimp only
    have hkT : S1.h[k]? = some (.lst [.tup (T.map testD)]) := by rw [hk]; unfold testsR; rw [ht]
    have lp := loopD (v := some (.str x)) (r1 := some (.ref h.length)) (r2 := some (.ref k)) (nd := S1.h.length) (n := S1.h.length + 2) (by omega) (hb := S1.h ++ [Ob.lst [], Ob.lst [], Ob.lst (ls.map D.str)]) (all := ls) (by simp) L.g ls 0 100000 [] (S1.h ++ [Ob.lst [], Ob.lst [], Ob.lst (ls.map D.str)]) none none none rfl (by have := L.n; omega) (by have := L.n; simp; omega) (Kp.refl _ _ _) (by simp)
    have sF : sFor (dEnum (dCons (dSl (dVar 1) (dPS (dC (.int 1))) dPN) dNil)) g45 bodyD ⟨[some (.str x), some (.ref h.length), some (.ref k), some (.ref S1.h.length), none, none, none], S1.h ++ [Ob.lst [], Ob.lst []]⟩ = forO (numIt 0 (lstIt (S1.h.length + 2))) g45 bodyD 100000 0 ⟨[some (.str x), some (.ref h.length), some (.ref k), some (.ref S1.h.length), none, none, none], S1.h ++ [Ob.lst [], Ob.lst [], Ob.lst (ls.map D.str)]⟩ := by
      rw [sFor_dyn (enum_tail rfl (x := .str l0) (xs := ls.map D.str) (at_old hl))]
      simp
    rw [show (1 + ((0 : Nat) : Int)) = 1 from rfl] at lp
    have kk : ∀ {h1 : List Ob}, Kp S1.h.length S1.h.length (S1.h ++ [Ob.lst [], Ob.lst [], Ob.lst (ls.map D.str)]) h1 → Kp0 h h1 := fun q => kp_of (kt.trans (Kp0.app _ _)) q (kp_len kt)
    cases hm : mannersI 1 ls with
    | error j =>
      rw [hm] at lp
      obtain ⟨S', q, e2, hq, k2⟩ := lp
      rw [e2] at sF
      refine ⟨_, _, runB_ret (S := S') (d := .ref q) ?_, hq, kk k2⟩
      simp [due_eq, at0, isS, nl_len, q1, L.e, e1, eq', sF]
    | ok ms =>
      rw [hm] at lp
      obtain ⟨⟨loc, h2⟩, e2, ⟨b4, b5, b6, rfl⟩, k2, hd⟩ := lp
      rw [e2] at sF
      dsimp only at hd k2 ⊢
      have hd' : ∀ t, (h2 ++ t)[S1.h.length]? = some (.lst (ms.map manD)) := fun t => at_old hd
      have hd0 : h2[S1.h.length]? = some (.lst (ms.map manD)) := hd
      have lk := lt_of_at hkT
      have hk2 : h2[k]? = some (.lst [.tup (T.map testD)]) := k2 k _ (by omega) (by omega) (at_old hkT)
      have kf := kk k2
      by_cases hz : 2 ≤ ms.length ∧ ms.length ≤ 6
      · rw [if_pos hz]
        have zA : (2 : Int) ≤ (ms.length : Nat) := by omega
        have zB : ((ms.length : Nat) : Int) ≤ 6 := by omega
        refine ⟨_, _, runB_ret (S := ⟨[some (.str x), some (.ref h.length), some (.ref k), some (.ref S1.h.length), b4, b5, b6], h2 ++ [Ob.lst (outDD (.told T ms))]⟩) (d := .ref h2.length) ?_, at_new _ _, kf.trans (Kp0.app _ _)⟩
        simp [due_eq, at0, isS, nl_len, q1, L.e, e1, eq', sF, hd0, dChain, zA, zB, hk2, outDD, bookD, -List.map_map]
      · rw [if_neg hz]
        refine ⟨_, _, runB_ret (S := ⟨[some (.str x), some (.ref h.length), some (.ref k), some (.ref S1.h.length), b4, b5, b6], h2 ++ [Ob.lst (outDD .book)]⟩) (d := .ref h2.length) ?_, at_new _ _, kf.trans (Kp0.app _ _)⟩
        by_cases zA : (2 : Int) ≤ (ms.length : Nat)
        · have zB : ¬ (((ms.length : Nat) : Int) ≤ 6) := by omega
          simp [due_eq, at0, isS, nl_len, q1, L.e, e1, eq', sF, hd0, dChain, zA, zB, outDD, -List.map_map]
        · simp [due_eq, at0, isS, nl_len, q1, L.e, e1, eq', sF, hd0, dChain, zA, outDD, -List.map_map]
end K05

namespace K05
open PySem L2 PySem.Spec PyProof.Rows Den
/-! ### O. data and repr -/
def bookP (T : List Ts) (ms : List Mn) : PyData := .tuple [.tuple (T.map testP), .tuple (ms.map manP)]
theorem toPy_mans (h : List Ob) (n : Nat) : ∀ ms : List Mn, (ms.map manD).mapM (toPy h (n + 2)) = some (ms.map manP)
  | [] => rfl
  | d :: ds => by
    rw [List.map_cons, List.mapM_cons, toPy_man, toPy_mans h n ds]; rfl
theorem toPy_book (h : List Ob) (n : Nat) (T : List Ts) (ms : List Mn) : toPy h (n + 4) (bookD T ms) = some (bookP T ms) := by
  have e1 : toPy h (n + 3) (.tup (T.map testD)) = some (.tuple (T.map testP)) := by
    show ((T.map testD).mapM (toPy h (n + 1 + 1))).map PyData.tuple = _
    rw [toPy_tests]; rfl
  have e2 : toPy h (n + 3) (.tup (ms.map manD)) = some (.tuple (ms.map manP)) := by
    show ((ms.map manD).mapM (toPy h (n + 2))).map PyData.tuple = _
    rw [toPy_mans]; rfl
  show ([D.tup (T.map testD), D.tup (ms.map manD)].mapM (toPy h (n + 3))).map PyData.tuple = _
  rw [List.mapM_cons, e1, List.mapM_cons, e2]; rfl
theorem four_len {N : List Str} (h : N ∈ subs four) : N.length ≤ 4 ∧ ∀ t ∈ N, t ∈ four := by
  have gen : ∀ (l T : List Str), T ∈ subs l → T.length ≤ l.length ∧ ∀ t ∈ T, t ∈ l := by
    intro l
    induction l with
    | nil =>
      intro T h
      have : T = [] := by simpa [subs] using h
      subst this; exact ⟨Nat.le_refl _, fun _ h => (nomatch h)⟩
    | cons x xs ih =>
      intro T h
      rcases List.mem_append.mp h with h | h
      · obtain ⟨h1, h2⟩ := ih T h
        exact ⟨by simp; omega, fun t ht => List.mem_cons_of_mem _ (h2 t ht)⟩
      · obtain ⟨s, hs, rfl⟩ := List.mem_map.mp h
        obtain ⟨h1, h2⟩ := ih s hs
        exact ⟨by simp; omega, fun t ht => by
          rcases List.mem_cons.mp ht with rfl | ht
          · exact List.mem_cons_self
          · exact List.mem_cons_of_mem _ (h2 t ht)⟩
  exact gen four N h
theorem sm_test {t : Ts} (h : t ∈ six) : Sm (testP t) 20 1 := by
  unfold six at h
  simp only [List.mem_cons, List.not_mem_nil, or_false] at h
  rcases h with rfl | rfl | rfl | rfl | rfl | rfl <;> exact sm_of (by decide +kernel)
theorem sm_word {t : Str} (h : t ∈ four) : Sm (.str t) 20 0 := by
  unfold four at h
  simp only [List.mem_cons, List.not_mem_nil, or_false] at h
  rcases h with rfl | rfl | rfl | rfl <;> exact sm_of (by decide +kernel)
theorem sm_man {m : Mn} (h : m.2 ∈ subs four) : Sm (manP m) 300 2 := by
  obtain ⟨l4, mem⟩ := four_len h
  have s : Sm (.tuple (m.2.map PyData.str)) 100 1 := (sm_tup (n := 20) (d := 0) fun q hq => by
    obtain ⟨w, hw, rfl⟩ := List.mem_map.mp hq
    exact sm_word (mem w hw)).le (by rw [List.length_map]; omega) (by omega)
  refine (sm_tup (n := 100) (d := 1) (ps := [.bool m.1, .tuple (m.2.map .str)]) fun q hq => ?_).le (by show 2 * (100 + 2) + 3 ≤ 300; omega) (by omega)
  simp only [List.mem_cons, List.not_mem_nil, or_false] at hq
  rcases hq with rfl | rfl
  · exact (sm_bool m.1).le (by omega) (by omega)
  · exact s
structure Bk2 (T : List Ts) (ms : List Mn) : Prop where
  t : T ∈ subs six
  m : ∀ x ∈ ms, x.2 ∈ subs four
  l6 : ms.length ≤ 6
theorem sm_book {T : List Ts} {ms : List Mn} (b : Bk2 T ms) : Sm (bookP T ms) 5000 4 := by
  obtain ⟨t6, mem⟩ := six_len b.t
  have l6 := b.l6
  have s1 : Sm (.tuple (T.map testP)) 2000 3 := (sm_tup (n := 20) (d := 1) fun q hq => by
    obtain ⟨w, hw, rfl⟩ := List.mem_map.mp hq
    exact sm_test (mem w hw)).le (by rw [List.length_map]; omega) (by omega)
  have s2 : Sm (.tuple (ms.map manP)) 2000 3 := (sm_tup (n := 300) (d := 2) fun q hq => by
    obtain ⟨w, hw, rfl⟩ := List.mem_map.mp hq
    exact sm_man (b.m w hw)).le (by rw [List.length_map]; omega) (by omega)
  refine (sm_tup (n := 2000) (d := 3) (ps := [.tuple (T.map testP), .tuple (ms.map manP)]) fun q hq => ?_).le (by show 2 * (2000 + 2) + 3 ≤ 5000; omega) (by omega)
  simp only [List.mem_cons, List.not_mem_nil, or_false] at hq
  rcases hq with rfl | rfl
  · exact s1
  · exact s2
def okOut : Out → Prop
  | .text j => 0 ≤ j ∧ j ≤ 7301
  | .book => True
  | .told T ms => Bk2 T ms
def outP : Out → PyData
  | .text j => .list [.str "text", .int j, .bool true]
  | .book => .list [.str "book", .str "manners", .bool true]
  | .told T ms => .list [.str "told", bookP T ms]
theorem sm_7301 : ((List.range 7302).all fun k => smB (.int (k : Int)) 7 0) = true := by decide +kernel
theorem sm_int {j : Int} (h0 : 0 ≤ j) (h : j ≤ 7301) : Sm (.int j) 7 0 := by
  obtain ⟨k, rfl⟩ := Int.eq_ofNat_of_zero_le h0
  exact sm_of (List.all_eq_true.mp sm_7301 k (List.mem_range.mpr (by omega)))
theorem sm_out {o : Out} (ok : okOut o) : Sm (outP o) 60000 5 := by
  cases o with
  | text k =>
    refine (sm_list (n := 10) (d := 0) (ps := [.str "text", .int k, .bool true]) fun q hq => ?_).le (by show 3 * (10 + 2) + 2 ≤ 60000; omega) (by omega)
    simp only [List.mem_cons, List.not_mem_nil, or_false] at hq
    rcases hq with rfl | rfl | rfl
    · exact sm_of (by decide +kernel)
    · exact (sm_int ok.1 ok.2).le (by omega) (by omega)
    · exact sm_of (by decide +kernel)
  | book => exact (sm_of (n := 100) (d := 1) (by decide +kernel)).le (by omega) (by omega)
  | told T ms =>
    refine (sm_list (n := 5000) (d := 4) (ps := [.str "told", bookP T ms]) fun q hq => ?_).le (by show 2 * (5000 + 2) + 2 ≤ 60000; omega) (by omega)
    simp only [List.mem_cons, List.not_mem_nil, or_false] at hq
    rcases hq with rfl | rfl
    · exact (sm_of (n := 10) (d := 0) (by decide +kernel)).le (by omega) (by omega)
    · exact sm_book ok
theorem py_out {S : DS} {j : Nat} {o : Out} (h : S.h[j]? = some (.lst (outDD o))) : pyD S (.ref j) = some (outP o) := by
  rw [pyD_lst h]
  cases o with
  | text k => rfl
  | book => rfl
  | told ws ds =>
    show ([D.str "told", bookD ws ds].mapM (toPy S.h 19)).map PyData.list = _
    rw [List.mapM_cons, List.mapM_cons, toPy_book S.h 15]; rfl
theorem repr_out {S : DS} {j : Nat} {o : Out} (ok : okOut o) (h : S.h[j]? = some (.lst (outDD o))) : cRepr [.ref j] S = .ok (.str (outP o).shown) S := (sm_out ok).repr (by omega) (by omega) (py_out h)
theorem ne_out {S : DS} {o : Out} (ok : okOut o) : oNe (.str (outP o).shown) (.str (outP o).shown) S = .ok (.bl false) S := (sm_out ok).ne
theorem manners_bound : ∀ {ls : List Str} {k : Int} {j : Int}, mannersI k ls = .error j → k ≤ j ∧ j ≤ k + ls.length
  | [], k, j, h => by cases h
  | l :: ls, k, j, h => by
    unfold mannersI at h
    split at h
    · cases h; simp; omega
    · split at h
      · cases h
      · rename_i m _ j' hj
        cases h
        have := manners_bound hj
        simp; omega
theorem manners_sub : ∀ {ls : List Str} {k : Int} {ms : List Mn}, mannersI k ls = .ok ms → ∀ x ∈ ms, x.2 ∈ subs four
  | [], k, ms, h => by cases h; exact fun _ h => nomatch h
  | l :: ls, k, ms, h => by
    unfold mannersI at h
    split at h
    · cases h
    · rename_i m hm
      split at h
      · rename_i ms' hr
        cases h
        intro x hx
        rcases List.mem_cons.mp hx with rfl | hx
        · exact mannerI_sub hm
        · exact manners_sub hr x hx
      · cases h
theorem outV_fine {l0 : Str} {ls : List Str} (h : ls.length ≤ 7300) : okOut (outV l0 ls) := by
  unfold outV
  cases ht : testsI l0 with
  | none => exact ⟨by decide, by decide⟩
  | some T =>
    dsimp only
    cases hm : mannersI 1 ls with
    | error j =>
      have := manners_bound hm
      exact ⟨by omega, by omega⟩
    | ok ms =>
      dsimp only
      split
      · rename_i hz
        exact ⟨testsI_sub ht, manners_sub hm, hz.2⟩
      · trivial
structure Vl (n m : Nat) (h : List Ob) (d : D) (o : Out) : Prop where
  ok : okOut o
  due : ∀ h', Kp n m h h' → DueR h' (F_law_due [d] h') o
  read : ∀ h', Kp n m h h' → ∃ r, outO r o ∧ ReadR h' (F_read_book [d] h') r
theorem Vl.mono {n m : Nat} {h h1 : List Ob} {d : D} {o : Out} (v : Vl n m h d o) (k : Kp n m h h1) : Vl n m h1 d o := ⟨v.ok, fun h' k' => v.due h' (k.trans k'), fun h' k' => v.read h' (k.trans k')⟩
theorem vl_str {n m : Nat} {h : List Ob} {x : Str} (g : Good x) (l : x.length ≤ 7300) : ∃ o, Vl n m h (.str x) o := by
  obtain ⟨l0, ls, L⟩ := lines_of g (by omega)
  refine ⟨outV l0 ls, outV_fine (by have := L.n; omega), fun h' _ => due_ok g (by omega) L h', fun h' _ => ⟨outB x, ?_, read_ok g (by omega) h'⟩⟩
  unfold outB
  rw [L.e]
  exact outV_ok l0 ls
theorem vl_ty {n m : Nat} {h : List Ob} {d : D} {t : String} (f : isaB t "str" = some false) (e : ∀ h', Kp n m h h' → ∀ loc, tyName ⟨loc, h'⟩ d = some t) : Vl n m h d (.text 0) :=
  ⟨⟨by decide, by decide⟩, fun h' k => due_not (e h' k) f, fun h' k => ⟨.error (textX 0), .inl ⟨0, rfl, rfl⟩, _, read_not (e h' k) f, Kp0.refl _⟩⟩
theorem vl_ref {n m k : Nat} {h : List Ob} {ob : Ob} (kn : k ≠ n) (km : k ≠ m) (e : h[k]? = some ob) : ∃ o, Vl n m h (.ref k) o := by
  cases ob with
  | lst xs => exact ⟨_, vl_ty (t := "list") (by decide) fun h' kk loc => by rw [z_tyR]; dsimp only; rw [kk _ _ kn km e]⟩
  | dct xs => exact ⟨_, vl_ty (t := "dict") (by decide) fun h' kk loc => by rw [z_tyR]; dsimp only; rw [kk _ _ kn km e]⟩
  | fdct xs => exact ⟨_, vl_ty (t := "dict") (by decide) fun h' kk loc => by rw [z_tyR]; dsimp only; rw [kk _ _ kn km e]⟩
def bodyI : DSt := (sIf (tV (dBin oNe (dCB cRepr (dCons (dCall F_law_heard (dCons (dVar 7) (dCons (dBin oEq (dVar 6) (dBin oMod (dVar 2) (dC (.int 7)))) dNil))) dNil)) (dCB cRepr (dCons (dCall F_law_due (dCons (dVar 7) dNil)) dNil)))) (sRet (dC (.bl false))) sNop)
theorem turnI {n m : Nat} {h : List Ob} {d : D} {o : Out} (v : Vl n m h d o) {a0 a1 a3 a4 a5 : Option D} {t s : Int} :
    Ok (bodyI ⟨[a0, a1, some (.int t), a3, a4, a5, some (.int s), some d], h⟩) fun f S => f = .next ∧ S.loc = [a0, a1, some (.int t), a3, a4, a5, some (.int s), some d] ∧ Kp0 h S.h := by
  obtain ⟨r, ro, rd⟩ := v.read h (Kp.refl _ _ _)
  obtain ⟨j2, h2, e2, k2, hj2⟩ := heard_ok (b := s == t % 7) ro rd
  obtain ⟨S1, j, e1, hj, k1⟩ := v.due h2 (k2.kp _ _)
  have r1 : ∀ loc, cRepr [.ref j] ⟨loc, S1.h⟩ = .ok (.str (outP o).shown) ⟨loc, S1.h⟩ := fun loc => repr_out v.ok hj
  have r2 : ∀ loc, cRepr [.ref j2] ⟨loc, h2⟩ = .ok (.str (outP o).shown) ⟨loc, h2⟩ := fun loc => repr_out v.ok hj2
  simp [bodyI, e2, r2, e1, r1, ne_out v.ok]
  exact k2.trans k1
end K05

namespace K05
open PySem L2 PySem.Spec PyProof.Rows Den
/-! ### P. spoilt texts -/
theorem deck_new {h : List Ob} {n m : Nat} (dk : Deck h n m) : h.length ≠ m ∧ h.length ≠ n := by
  obtain ⟨_, _, _, hn, hm, _⟩ := dk
  have := lt_of_at hm
  have := lt_of_at hn
  omega
theorem picked {h : List Ob} {n m : Nat} (dk : Deck h n m) {xs : List D} (h1 : 1 ≤ xs.length) (h2 : xs.length < 1000000) : Ok (F_law_pick [.ref n, .ref h.length] (h ++ [.lst xs])) fun d S => d ∈ xs ∧ Deck S.h n m ∧ Kp n m h S.h := by
  obtain ⟨d, S, e, hd, D1, k1⟩ := (pick_ok (dk.keep (Kp0.app _ _)) (at_new h (.lst xs)) (deck_new dk).1 h1 h2).ex
  rw [e]
  exact ⟨hd, D1, ((Kp0.app _ _).kp n m).trans k1⟩
def sgn : List Str := [" ", ",", ", ", ":", ": ", "=", "1", "2", "G", "S", "w", "\n", "none", "waits", "\nwaits", "higher"]
def odd1 : List Str := ["\n", " ", ", ", "\nwaits:", "\nwaits: ", "\nany time", "\nAny time", ": sent lower"]
def shortB (xs : List Str) : Bool := xs.all fun x => goodB x && decide (x.length ≤ 20)
theorem short_of {xs : List Str} (h : shortB xs = true) {d : D} (hd : d ∈ xs.map D.str) : ∃ s, d = .str s ∧ Good s ∧ s.length ≤ 20 := by
  obtain ⟨s, hs, rfl⟩ := List.mem_map.mp hd
  have := List.all_eq_true.mp h s hs
  rw [Bool.and_eq_true] at this
  exact ⟨s, rfl, good_of this.1, of_decide_eq_true this.2⟩
theorem b1 : shortB sgn = true := by decide +kernel
theorem b2 : shortB odd1 = true := by decide +kernel
theorem lines_good {L : List Str} {x : Str} (h : ∀ p ∈ L, Good p) : Good (Str.join (Str.ofString "\n") L) := good_join (good_of (by decide +kernel)) h
structure Sp (n m : Nat) (h : List Ob) (x : Str) (d : D) (S : DS) : Prop where
  ex : ∃ z, d = .str z ∧ Good z ∧ z.length ≤ 4 * x.length + 60
  dk : Deck S.h n m
  k : Kp n m h S.h
def tail5 : DSt := (sSeq (sIf (tV (dBin oEq (dVar 7) (dC (.int 5)))) (sSeq (sAsg (dMtS mSplit (dBin oIx (dVar 2) (dVar 3)) (dC (.str ", "))) (gN 8))
  (sSeq (sAsg (dCall F_law_pick (dCons (dVar 0) (dCons (dLst (dCons (dRev (dVar 8)) (dCons (dBin oAdd (dVar 8) (dSl (dVar 8) (dPS (dNeg (dC (.int 1)))) dPN)) (dCons (dBin oAdd (dSl (dVar 8) (dPS (dC (.int 1))) dPN) (dSl (dVar 8) dPN (dPS (dC (.int 1))))) (dCons (dSl (dVar 8) dPN (dPS (dNeg (dC (.int 1))))) dNil))))) dNil))) (gN 8))
  (sSeq (sPut (dMtS mJoin (dC (.str ", ")) (dVar 8)) (dVar 2) (dVar 3))
  (sRet (dMtS mJoin (dC (.str "\n")) (dVar 2)))))) sNop)
  (sSeq (sIf (tV (dBin oEq (dVar 7) (dC (.int 6)))) (sSeq (sAsg (dLst (dCons (dRev (dVar 2)) (dCons (dSl (dVar 2) (dPS (dC (.int 1))) dPN) (dCons (dBin oAdd (dVar 2) (dLst (dCons (dC (.str "")) dNil))) (dCons (dBin oAdd (dVar 2) (dLst (dCons (dC (.str "waits: sent lower")) dNil))) (dCons (dSl (dVar 2) dPN (dPS (dC (.int 2)))) dNil)))))) (gN 5))
  (sRet (dMtS mJoin (dC (.str "\n")) (dCall F_law_pick (dCons (dVar 0) (dCons (dVar 5) dNil)))))) sNop)
  (sSeq (sAsg (dLst (dCons (dC (.str "\n")) (dCons (dC (.str " ")) (dCons (dC (.str ", ")) (dCons (dC (.str "\nwaits:")) (dCons (dC (.str "\nwaits: ")) (dCons (dC (.str "\nany time")) (dCons (dC (.str "\nAny time")) (dCons (dC (.str ": sent lower")) dNil))))))))) (gN 5))
  (sRet (dBin oAdd (dVar 1) (dCall F_law_pick (dCons (dVar 0) (dCons (dVar 5) dNil))))))))
/-- one of some lists of texts, joined -/
theorem pick_lists {H : List Ob} {n m k : Nat} {rs : List Nat} (dk : Deck H n m) (km : k ≠ m) (hk : H[k]? = some (.lst (rs.map D.ref))) (h1 : 1 ≤ rs.length) (h2 : rs.length ≤ 10) {P : List Str → Prop} (hr : ∀ r ∈ rs, r ≠ n ∧ r ≠ m ∧ ∃ us, H[r]? = some (.lst (us.map D.str)) ∧ P us) :
    Ok (F_law_pick [.ref n, .ref k] H) fun d S => ∃ r us, d = .ref r ∧ r ∈ rs ∧ S.h[r]? = some (.lst (us.map D.str)) ∧ P us ∧ Deck S.h n m ∧ Kp n m H S.h := by
  obtain ⟨d, S, e, hd, D1, k1⟩ := (pick_ok dk hk km (by simpa using h1) (by simp; omega)).ex
  rw [e]
  obtain ⟨r, hrm, rfl⟩ := List.mem_map.mp hd
  obtain ⟨n1, n2, us, hu, pu⟩ := hr r hrm
  exact ⟨r, us, rfl, hrm, k1 _ _ n1 n2 hu, pu, D1, k1⟩
theorem wsl_ok : goodB (Str.ofString "waits: sent lower") = true ∧ (Str.ofString "waits: sent lower").length = 17 := by constructor <;> decide +kernel
theorem lenS_rev (L : List Str) : lenS L.reverse = lenS L := by
  induction L with
  | nil => rfl
  | cons x xs ih =>
    rw [List.reverse_cons, lenS_app, ih]
    show lenS xs + (x.length + 0) = x.length + lenS xs
    omega
theorem lenS_set (z : Str) : ∀ (L : List Str) (i : Nat), lenS (L.set i z) ≤ lenS L + z.length
  | [], _ => Nat.zero_le _
  | x :: xs, 0 => by show z.length + lenS xs ≤ x.length + lenS xs + z.length; omega
  | x :: xs, i + 1 => by
    have := lenS_set z xs i
    show x.length + lenS (xs.set i z) ≤ x.length + lenS xs + z.length
    omega
theorem tail5_ok {H h0 : List Ob} {n m nl : Nat} (dk : Deck H n m) (k0 : Kp n m h0 H) (q0 : h0.length ≤ nl) (q1 : nl ≠ n) (q2 : nl ≠ m) {L : List Str} (hl : H[nl]? = some (.lst (L.map D.str))) {x : Str} (gx : Good x) (lx : x.length ≤ 3000) (gL : ∀ p ∈ L, Good p) (sl : lenS L + L.length ≤ x.length + 1) {sp w a : Int} (s0 : 0 ≤ sp) (s1 : sp < L.length) (a4 : Option D) :
    Ok (tail5 ⟨[some (.ref n), some (.str x), some (.ref nl), some (.int sp), a4, none, some (.int a), some (.int w), none], H⟩) fun f S => ∃ d, f = .ret d ∧ (∃ z, d = .str z ∧ Good z ∧ z.length ≤ 4 * x.length + 60) ∧ Deck S.h n m ∧ Kp n m h0 S.h := by
  have out : ∀ j, H.length + j ≠ n ∧ H.length + j ≠ m ∧ H.length + j ≠ nl := fun j => by
    obtain ⟨_, _, _, hn, hm, _⟩ := dk
    have := lt_of_at hn
    have := lt_of_at hm
    have := lt_of_at hl
    omega
  by_cases w5 : w = 5
  · obtain ⟨d0, hat, hmem⟩ := atI_nat (xs := L.map D.str) s0 (by simpa using s1)
    obtain ⟨line, hline, rfl⟩ := List.mem_map.mp hmem
    have ll := le_lenS hline
    have lQ := split_len line (Str.ofString ", ")
    have gQ : ∀ p ∈ Txt.split line (Str.ofString ", "), Good p := good_split (gL line hline)
    have l3 : line.length + 2 ≤ 1000000 := by omega
    generalize hQ : Txt.split line (Str.ofString ", ") = Q at lQ gQ
    rw [cm_len] at lQ
    obtain ⟨c1, e1⟩ := cutL_len Q (some (-1)) none
    obtain ⟨c2, e2⟩ := cutL_len Q (some 1) none
    obtain ⟨c3, e3⟩ := cutL_len Q none (some 1)
    obtain ⟨c4, e4⟩ := cutL_len Q none (some (-1))
    let hh : List Ob := [Ob.lst (Q.map D.str), Ob.lst (Q.reverse.map D.str), Ob.lst ((cutL Q (some (-1)) none).map D.str), Ob.lst ((Q ++ cutL Q (some (-1)) none).map D.str), Ob.lst ((cutL Q (some 1) none).map D.str), Ob.lst ((cutL Q none (some 1)).map D.str), Ob.lst ((cutL Q (some 1) none ++ cutL Q none (some 1)).map D.str), Ob.lst ((cutL Q none (some (-1))).map D.str), Ob.lst ([H.length + 1, H.length + 3, H.length + 6, H.length + 7].map D.ref)]
    have D1 : Deck (H ++ hh) n m := dk.keep (Kp0.app _ _)
    obtain ⟨d, S, e, r, us, rfl, hr, hu, ⟨gu, lu⟩, D2, k2⟩ := (pick_lists (k := H.length + 8) (rs := [H.length + 1, H.length + 3, H.length + 6, H.length + 7]) (P := fun us => (∀ p ∈ us, Good p) ∧ lenS us + us.length * 2 ≤ 2 * (lenS Q + Q.length * 2)) D1 (out 8).2.1 (by simp [hh]) (by simp) (by simp) (by
      intro r hr
      simp only [List.mem_cons, List.not_mem_nil, or_false] at hr
      rcases hr with rfl | rfl | rfl | rfl
      · exact ⟨(out 1).1, (out 1).2.1, Q.reverse, by simp [hh], fun p hp => gQ p (List.mem_reverse.mp hp), by rw [lenS_rev, List.length_reverse]; omega⟩
      · exact ⟨(out 3).1, (out 3).2.1, Q ++ cutL Q (some (-1)) none, by simp [hh], fun p hp => (List.mem_append.mp hp).elim (gQ p) fun h => gQ p (cutL_mem h), by rw [lenS_app, List.length_append]; omega⟩
      · exact ⟨(out 6).1, (out 6).2.1, cutL Q (some 1) none ++ cutL Q none (some 1), by simp [hh], fun p hp => (List.mem_append.mp hp).elim (fun h => gQ p (cutL_mem h)) fun h => gQ p (cutL_mem h), by rw [lenS_app, List.length_append]; omega⟩
      · exact ⟨(out 7).1, (out 7).2.1, cutL Q none (some (-1)), by simp [hh], fun p hp => gQ p (cutL_mem hp), by omega⟩)).ex
    have hl0 : ∀ t, (H ++ t)[nl]? = some (.lst (L.map D.str)) := fun t => at_old hl
    have hl2 : S.h[nl]? = some (.lst (L.map D.str)) := k2 _ _ q1 q2 (hl0 _)
    have e' := e
    simp only [hh, List.map_append, List.map_reverse, List.map_cons, List.map_nil] at e'
    have jl := join_len (Str.ofString ", ") us
    rw [cm_len] at jl
    have jo : joinOk (Str.ofString ", ") us = true := joinOk_of (by rw [cm_len]; omega)
    have js : strsOf (us.map D.str) = some us := strsOf_map _
    have zl : (Str.join (Str.ofString ", ") us).length ≤ 2 * (line.length + 2) := by omega
    have gz : Good (Str.join (Str.ofString ", ") us) := good_join (good_of (by decide +kernel)) gu
    generalize hz : Str.join (Str.ofString ", ") us = z at zl gz
    have ls := lenS_set z L sp.toNat
    have js2 : strsOf ((L.map D.str).set sp.toNat (D.str z)) = some (L.set sp.toNat z) := by rw [← List.map_set]; exact strsOf_map _
    have jl2 := join_len (Str.ofString "\n") (L.set sp.toNat z)
    rw [nl_len, List.length_set] at jl2
    have jo2 : joinOk (Str.ofString "\n") (L.set sp.toNat z) = true := joinOk_of (by rw [nl_len, List.length_set]; omega)
    have ix : ixN L.length sp = some sp.toNat := by
      unfold ixN
      rw [if_pos s0, if_pos (by omega)]
    have qa : Q.length + (cutL Q (some (-1)) none).length ≤ 1000000 := by omega
    have qb : (cutL Q (some 1) none).length + (cutL Q none (some 1)).length ≤ 1000000 := by omega
    have ln2 := lt_of_at hl2
    have pt : oPut (.ref nl) (.int sp) (.str z) ⟨[some (.ref n), some (.str x), some (.ref nl), some (.int sp), a4, none, some (.int a), some (.int w), some (.ref r)], S.h⟩ = some ⟨[some (.ref n), some (.str x), some (.ref nl), some (.int sp), a4, none, some (.int a), some (.int w), some (.ref r)], S.h.set nl (.lst ((L.set sp.toNat z).map D.str))⟩ := by
      unfold oPut
      dsimp only
      rw [hl2]
      dsimp only
      rw [List.length_map, ix]
      dsimp only
      rw [List.map_set]
    subst w5
    simp [tail5, hl, hat, cm_len, l3, hQ, z_revL, z_slL, cut_strs, hl0, qa, qb, e', hu, js, jo, tjoin, hz, pt, ln2, js2, jo2]
    refine ⟨⟨good_join (good_of (by decide +kernel)) fun p hp => ?_, by omega⟩, ?_, ?_⟩
    · rcases List.mem_or_eq_of_mem_set hp with hp | rfl
      · exact gL p hp
      · exact gz
    · obtain ⟨ne, s, xs, hn, hm, r⟩ := D2
      exact ⟨ne, s, xs, by rw [List.getElem?_set_ne q1]; exact hn, by rw [List.getElem?_set_ne q2]; exact hm, r⟩
    · intro j ob n1 n2 eo
      have lj := lt_of_at eo
      rw [List.getElem?_set_ne (by omega)]
      exact k2 j ob n1 n2 (at_old (k0 j ob n1 n2 eo))
  by_cases w6 : w = 6
  · obtain ⟨c2, e2⟩ := cutL_len L (some 1) none
    obtain ⟨c3, e3⟩ := cutL_len L none (some 2)
    let hh : List Ob := [Ob.lst (L.reverse.map D.str), Ob.lst ((cutL L (some 1) none).map D.str), Ob.lst ([Str.ofString ""].map D.str), Ob.lst ((L ++ [Str.ofString ""]).map D.str), Ob.lst ([Str.ofString "waits: sent lower"].map D.str), Ob.lst ((L ++ [Str.ofString "waits: sent lower"]).map D.str), Ob.lst ((cutL L none (some 2)).map D.str), Ob.lst ([H.length, H.length + 1, H.length + 3, H.length + 5, H.length + 6].map D.ref)]
    have D1 : Deck (H ++ hh) n m := dk.keep (Kp0.app _ _)
    have o0 : H.length ≠ n ∧ H.length ≠ m := by have := out 0; simpa using ⟨this.1, this.2.1⟩
    have lw1 : lenS [Str.ofString "waits: sent lower"] = 17 := by show (Str.ofString "waits: sent lower").length + 0 = 17; rw [wsl_ok.2]
    have lw0 : lenS [Str.ofString ""] = 0 := by decide +kernel
    obtain ⟨d, S, e, r, us, rfl, hr, hu, ⟨gu, lu⟩, D2, k2⟩ := (pick_lists (k := H.length + 7) (rs := [H.length, H.length + 1, H.length + 3, H.length + 5, H.length + 6]) (P := fun us => (∀ p ∈ us, Good p) ∧ lenS us + us.length ≤ lenS L + L.length + 20) D1 (out 7).2.1 (by simp [hh]) (by simp) (by simp) (by
      intro r hr
      simp only [List.mem_cons, List.not_mem_nil, or_false] at hr
      rcases hr with rfl | rfl | rfl | rfl | rfl
      · exact ⟨o0.1, o0.2, L.reverse, by simp [hh], fun p hp => gL p (List.mem_reverse.mp hp), by rw [lenS_rev, List.length_reverse]; omega⟩
      · exact ⟨(out 1).1, (out 1).2.1, cutL L (some 1) none, by simp [hh], fun p hp => gL p (cutL_mem hp), by omega⟩
      · exact ⟨(out 3).1, (out 3).2.1, L ++ [Str.ofString ""], by simp [hh], fun p hp => (List.mem_append.mp hp).elim (gL p) fun h => (by rw [List.mem_singleton.mp h]; exact good_of (by decide +kernel)), by rw [lenS_app, List.length_append, lw0]; simp; omega⟩
      · exact ⟨(out 5).1, (out 5).2.1, L ++ [Str.ofString "waits: sent lower"], by simp [hh], fun p hp => (List.mem_append.mp hp).elim (gL p) fun h => (by rw [List.mem_singleton.mp h]; exact good_of wsl_ok.1), by rw [lenS_app, List.length_append, lw1]; simp; omega⟩
      · exact ⟨(out 6).1, (out 6).2.1, cutL L none (some 2), by simp [hh], fun p hp => gL p (cutL_mem hp), by omega⟩)).ex
    have hl0 : ∀ t, (H ++ t)[nl]? = some (.lst (L.map D.str)) := fun t => at_old hl
    have e' := e
    simp only [hh, List.map_append, List.map_reverse, List.map_cons, List.map_nil] at e'
    have jl := join_len (Str.ofString "\n") us
    rw [nl_len] at jl
    have jo : joinOk (Str.ofString "\n") us = true := joinOk_of (by rw [nl_len]; omega)
    have js : strsOf (us.map D.str) = some us := strsOf_map _
    have qa : L.length + 1 ≤ 1000000 := by omega
    subst w6
    simp [tail5, hl, z_revL, z_slL, cut_strs, hl0, qa, e', hu, js, jo, tjoin]
    exact ⟨⟨good_join (good_of (by decide +kernel)) gu, by omega⟩, D2, k0.trans (((Kp0.app _ _).kp n m).trans k2)⟩
  · obtain ⟨d4, S4, e4, hd4, D4, k4⟩ := (picked dk (xs := odd1.map D.str) (by decide) (by decide)).ex
    obtain ⟨s, rfl, gs, lsn⟩ := short_of b2 hd4
    have e4' := e4
    simp [odd1] at e4'
    have q : x.length + s.length ≤ 1000000 := by omega
    simp [tail5, w5, w6, e4', q]
    exact ⟨⟨gx.app gs, by rw [len_app]; omega⟩, D4, k0.trans k4⟩
end K05

namespace K05
open PySem L2 PySem.Spec PyProof.Rows Den
theorem deck_len {h h' : List Ob} {n m : Nat} (d : Deck h n m) (d' : Deck h' n m) (k : Kp n m h h') : h.length ≤ h'.length := by
  obtain ⟨_, _, _, hn, hm, _⟩ := d
  obtain ⟨_, _, _, hn', hm', _⟩ := d'
  have a := lt_of_at hn
  have b := lt_of_at hn'
  have c := lt_of_at hm'
  by_cases e1 : h.length - 1 = n
  · omega
  by_cases e2 : h.length - 1 = m
  · omega
  have lt : h.length - 1 < h.length := by omega
  have := lt_of_at (k (h.length - 1) h[h.length - 1] e1 e2 (by simp [lt]))
  omega
theorem spoilt_eq : p_law_spoilt = (sSeq (sPar 6 7 (dCons (dCall F_law_draw (dCons (dVar 0) (dCons (dBin oAdd (dCB cLen (dCons (dVar 1) dNil)) (dC (.int 1))) dNil))) (dCons (dCall F_law_draw (dCons (dVar 0) (dCons (dC (.int 8)) dNil))) dNil)))
  (sSeq (sAsg (dMtS mSplit (dVar 1) (dC (.str "\n"))) (gN 2))
  (sSeq (sAsg (dCall F_law_draw (dCons (dVar 0) (dCons (dCB cLen (dCons (dVar 2) dNil)) dNil))) (gN 3))
  (sSeq (sAsg (dLst (dCons (dC (.str " ")) (dCons (dC (.str ",")) (dCons (dC (.str ", ")) (dCons (dC (.str ":")) (dCons (dC (.str ": ")) (dCons (dC (.str "=")) (dCons (dC (.str "1")) (dCons (dC (.str "2")) (dCons (dC (.str "G")) (dCons (dC (.str "S")) (dCons (dC (.str "w")) (dCons (dC (.str "\n")) (dCons (dC (.str "none")) (dCons (dC (.str "waits")) (dCons (dC (.str "\nwaits")) (dCons (dC (.str "higher")) dNil))))))))))))))))) (gN 4))
  (sSeq (sIf (tV (dBin oEq (dVar 7) (dC (.int 0)))) (sRet (dBin oAdd (dSl (dVar 1) dPN (dPS (dVar 6))) (dSl (dVar 1) (dPS (dBin oAdd (dVar 6) (dC (.int 1)))) dPN))) sNop)
  (sSeq (sIf (tV (dBin oEq (dVar 7) (dC (.int 1)))) (sRet (dBin oAdd (dBin oAdd (dSl (dVar 1) dPN (dPS (dVar 6))) (dCall F_law_pick (dCons (dVar 0) (dCons (dVar 4) dNil)))) (dSl (dVar 1) (dPS (dVar 6)) dPN))) sNop)
  (sSeq (sIf (tV (dBin oEq (dVar 7) (dC (.int 2)))) (sRet (dBin oAdd (dBin oAdd (dSl (dVar 1) dPN (dPS (dVar 6))) (dCall F_law_pick (dCons (dVar 0) (dCons (dVar 4) dNil)))) (dSl (dVar 1) (dPS (dBin oAdd (dVar 6) (dC (.int 1)))) dPN))) sNop)
  (sSeq (sIf (tV (dBin oEq (dVar 7) (dC (.int 3)))) (sRet (dBin oAdd (dBin oAdd (dSl (dVar 1) dPN (dPS (dVar 6))) (dRev (dSl (dVar 1) (dPS (dVar 6)) (dPS (dBin oAdd (dVar 6) (dC (.int 2))))))) (dSl (dVar 1) (dPS (dBin oAdd (dVar 6) (dC (.int 2)))) dPN))) sNop)
  (sSeq (sIf (tV (dBin oEq (dVar 7) (dC (.int 4)))) (sRet (dMtS mJoin (dC (.str "\n")) (dBin oAdd (dBin oAdd (dSl (dVar 2) dPN (dPS (dVar 3))) (dBin oMulA (dSl (dVar 2) (dPS (dVar 3)) (dPS (dBin oAdd (dVar 3) (dC (.int 1))))) (dCall F_law_draw (dCons (dVar 0) (dCons (dC (.int 3)) dNil))))) (dSl (dVar 2) (dPS (dBin oAdd (dVar 3) (dC (.int 1)))) dPN)))) sNop)
  tail5))))))))) := rfl
theorem ok_seq {a b : DSt} {S : DS} {Q : Fl → DS → Prop} (h : Ok (a S) fun f S1 => f = .next ∧ Ok (b S1) Q) : Ok (sSeq a b S) Q := by
  obtain ⟨f, S1, e, rfl, q⟩ := h.ex
  rw [z_seq, e]
  exact q
theorem okmp {α : Type} {r : Res α} {Q Q' : α → DS → Prop} (h : Ok r Q) (k : ∀ a S, Q a S → Q' a S) : Ok r Q' := by
  obtain ⟨a, S, e, q⟩ := h.ex
  rw [e]; exact k a S q
theorem spoilt_ok {h : List Ob} {n m : Nat} (dk : Deck h n m) {x : Str} (gx : Good x) (lx : x.length ≤ 2000) : Ok (F_law_spoilt [.ref n, .str x] h) fun d S => ∃ z, d = .str z ∧ Good z ∧ z.length ≤ 4 * x.length + 60 ∧ Deck S.h n m ∧ Kp n m h S.h := by
  apply ok_runB
  obtain ⟨d1, S1, e1, a, rfl, a0, a1, D1, k1⟩ := (draw_ok dk (many := x.length + 1) (by omega) (by omega)).ex
  obtain ⟨d2, S2, e2, w, rfl, w0, w1, D2, k2⟩ := (draw_ok D1 (many := 8) (by omega) (by omega)).ex
  have sl := split_len x (Str.ofString "\n")
  obtain ⟨l0, ls0, hs⟩ := split_some (x := x) nl_ne
  have hs' : Txt.split x (Str.ofString "\n") = l0 :: ls0 := hs
  have gls := good_split gx (y := Str.ofString "\n")
  have c1 : 1 ≤ (Txt.split x (Str.ofString "\n")).length := by rw [hs']; simp
  generalize hL : Txt.split x (Str.ofString "\n") = L at sl gls c1
  rw [nl_len] at sl
  have dn2 := deck_new D2
  have D2' : Deck (S2.h ++ [Ob.lst (L.map D.str)]) n m := D2.keep (Kp0.app _ _)
  obtain ⟨d3, S3, e3, sp, rfl, sp0, sp1, D3, k3⟩ := (draw_ok D2' (many := L.length) (by omega) (by omega)).ex
  have hl3 := k3 _ _ dn2.2 dn2.1 (at_new S2.h (.lst (L.map D.str)))
  have kk3 : Kp n m h S3.h := ((k1.trans k2).trans ((Kp0.app _ _).kp n m)).trans k3
  have lx2 : x.length ≤ 1000000 := by omega
  have q1 : x.length + 2 ≤ 1000000 := by omega
  have cA := len_cut x none (some a)
  have cB := len_cut x (some (a + 1)) none
  have cC := len_cut x (some a) none
  have cD := len_cut x (some a) (some (a + 2))
  have cE := len_cut x (some (a + 2)) none
  have dn3 := deck_new D3
  have hl4 : ∀ t, (S3.h ++ t)[S2.h.length]? = some (.lst (L.map D.str)) := fun t => at_old hl3
  simp [spoilt_eq, e1, e2, lx2, q1, nl_len, hL, e3]
  by_cases w00 : w = 0
  · have q : (cutS x none (some a)).length + (cutS x (some (a + 1)) none).length ≤ 1000000 := by omega
    simp [w00, q, lx2]
    exact ⟨(gx.cut _ _).app (gx.cut _ _), by rw [len_app]; omega, D3.keep (Kp0.app _ _), kk3.trans ((Kp0.app _ _).kp n m)⟩
  by_cases w01 : w = 1
  · obtain ⟨d4, S4, e4, hd4, D4, k4⟩ := (picked D3 (xs := sgn.map D.str) (by decide) (by decide)).ex
    obtain ⟨s, rfl, gs, lsn⟩ := short_of b1 hd4
    have e4' := e4
    simp [sgn] at e4'
    have q : (cutS x none (some a)).length + s.length ≤ 1000000 := by omega
    have q2 : (cutS x none (some a) ++ s).length + (cutS x (some a) none).length ≤ 1000000 := by rw [len_app]; omega
    simp [w01, q, q2, lx2, e4']
    exact ⟨((gx.cut _ _).app gs).app (gx.cut _ _), by rw [len_app, len_app]; omega, D4, kk3.trans k4⟩
  by_cases w02 : w = 2
  · obtain ⟨d4, S4, e4, hd4, D4, k4⟩ := (picked D3 (xs := sgn.map D.str) (by decide) (by decide)).ex
    obtain ⟨s, rfl, gs, lsn⟩ := short_of b1 hd4
    have e4' := e4
    simp [sgn] at e4'
    have q : (cutS x none (some a)).length + s.length ≤ 1000000 := by omega
    have q2 : (cutS x none (some a) ++ s).length + (cutS x (some (a + 1)) none).length ≤ 1000000 := by rw [len_app]; omega
    simp [w02, q, q2, lx2, e4']
    exact ⟨((gx.cut _ _).app gs).app (gx.cut _ _), by rw [len_app, len_app]; omega, D4, kk3.trans k4⟩
  by_cases w03 : w = 3
  · have q : (cutS x none (some a)).length + (revS (cutS x (some a) (some (a + 2)))).length ≤ 1000000 := by rw [revS_size]; omega
    have q0 : (cutS x (some a) (some (a + 2))).length ≤ 1000000 := by omega
    have q2 : (cutS x none (some a) ++ revS (cutS x (some a) (some (a + 2)))).length + (cutS x (some (a + 2)) none).length ≤ 1000000 := by rw [len_app, revS_size]; omega
    simp [w03, q, q2, lx2, q0]
    exact ⟨((gx.cut _ _).app (gx.cut _ _).rev).app (gx.cut _ _), by rw [len_app, len_app, revS_size]; omega, D3.keep (Kp0.app _ _), kk3.trans ((Kp0.app _ _).kp n m)⟩
  by_cases w04 : w = 4
  · obtain ⟨cl1, cs1⟩ := cutL_len L none (some sp)
    obtain ⟨cl2, cs2⟩ := cutL_len L (some sp) (some (sp + 1))
    obtain ⟨cl3, cs3⟩ := cutL_len L (some (sp + 1)) none
    have D4 : Deck (S3.h ++ [Ob.lst (sgn.map D.str), Ob.lst ((cutL L none (some sp)).map D.str), Ob.lst ((cutL L (some sp) (some (sp + 1))).map D.str)]) n m := D3.keep (Kp0.app _ _)
    obtain ⟨d5, S5, e5, r, rfl, r0, r1, D5, k5⟩ := (draw_ok D4 (many := 3) (by omega) (by omega)).ex
    have e5' := e5
    simp [sgn] at e5'
    have hA := k5 (S3.h.length + 1) (Ob.lst ((cutL L none (some sp)).map D.str)) (by have := lt_of_at D3.ex.choose_spec.choose_spec.1; omega) (by have := lt_of_at D3.ex.choose_spec.choose_spec.2.1; omega) (by simp)
    have hB := k5 (S3.h.length + 2) (Ob.lst ((cutL L (some sp) (some (sp + 1))).map D.str)) (by have := lt_of_at D3.ex.choose_spec.choose_spec.1; omega) (by have := lt_of_at D3.ex.choose_spec.choose_spec.2.1; omega) (by simp)
    have hC := k5 S2.h.length (Ob.lst (L.map D.str)) dn2.2 dn2.1 (hl4 _)
    have hA' : ∀ t, (S5.h ++ t)[S3.h.length + 1]? = some (Ob.lst ((cutL L none (some sp)).map D.str)) := fun t => at_old hA
    have hC' : ∀ t, (S5.h ++ t)[S2.h.length]? = some (Ob.lst (L.map D.str)) := fun t => at_old hC
    obtain ⟨rp1, rp2⟩ := lenS_rep (cutL L (some sp) (some (sp + 1))) r.toNat
    have rt : r.toNat ≤ 2 := by omega
    have m1 : r.toNat * lenS (cutL L (some sp) (some (sp + 1))) ≤ 2 * lenS (cutL L (some sp) (some (sp + 1))) := Nat.mul_le_mul_right _ rt
    have m2 : r.toNat * (cutL L (some sp) (some (sp + 1))).length ≤ 2 * (cutL L (some sp) (some (sp + 1))).length := Nat.mul_le_mul_right _ rt
    have r3 : -1000000 ≤ r ∧ r ≤ 1000000 := by omega
    have q3 : (cutL L (some sp) (some (sp + 1))).length * r.toNat ≤ 1000000 := by rw [Nat.mul_comm]; omega
    have q4 : (cutL L none (some sp)).length + (List.replicate r.toNat (cutL L (some sp) (some (sp + 1)))).flatten.length ≤ 1000000 := by omega
    generalize hR : (List.replicate r.toNat (cutL L (some sp) (some (sp + 1)))).flatten = R at rp1 rp2 q4
    have gR : ∀ p ∈ R, p ∈ L := fun p hp => by rw [← hR] at hp; exact cutL_mem (rep_mem hp)
    have q5 : (cutL L none (some sp)).length + R.length + (cutL L (some (sp + 1)) none).length ≤ 1000000 := by omega
    have js : strsOf ((cutL L none (some sp)).map D.str ++ (R.map D.str ++ (cutL L (some (sp + 1)) none).map D.str)) = some (cutL L none (some sp) ++ (R ++ cutL L (some (sp + 1)) none)) := by
      rw [← List.map_append, ← List.map_append]; exact strsOf_map _
    have ll : lenS (cutL L none (some sp) ++ (R ++ cutL L (some (sp + 1)) none)) + (cutL L none (some sp) ++ (R ++ cutL L (some (sp + 1)) none)).length * 1 ≤ 4 * x.length + 60 := by
      rw [lenS_app, lenS_app, List.length_append, List.length_append]; omega
    have jo : joinOk (Str.ofString "\n") (cutL L none (some sp) ++ (R ++ cutL L (some (sp + 1)) none)) = true := joinOk_of (by rw [nl_len]; omega)
    have jl := join_len (Str.ofString "\n") (cutL L none (some sp) ++ (R ++ cutL L (some (sp + 1)) none))
    rw [nl_len] at jl
    simp [w04, z_slL, hl4, cut_strs, e5', hA, hB, hA', hC', r3, q3, q4, rep_strs, hR, q5, js, jo, tjoin, -List.map_flatten, -List.map_replicate]
    refine ⟨good_join (good_of (by decide +kernel)) fun p hp => ?_, by omega, D5.keep (Kp0.app _ _), (kk3.trans ((Kp0.app _ _).kp n m)).trans (k5.trans ((Kp0.app _ _).kp n m))⟩
    rcases List.mem_append.mp hp with hp | hp
    · exact gls p (cutL_mem hp)
    rcases List.mem_append.mp hp with hp | hp
    · exact gls p (gR p hp)
    · exact gls p (cutL_mem hp)
  have c5 : w = 5 ∨ w = 6 ∨ w = 7 := by omega
  have sl2 : lenS L + L.length ≤ x.length + 1 := by omega
  have T := tail5_ok (h0 := h) (H := S3.h ++ [Ob.lst (sgn.map D.str)]) (nl := S2.h.length) (D3.keep (Kp0.app _ _)) (kk3.trans ((Kp0.app _ _).kp n m)) (deck_len dk D2 (k1.trans k2)) dn2.2 dn2.1 (at_old hl3) gx (by omega) gls sl2 sp0 sp1 (some (.ref S3.h.length)) (w := w) (a := a)
  have T' := T
  simp only [sgn, List.map_cons, List.map_nil] at T'
  simp [w00, w01, w02, w03, w04]
  refine okmp T' ?_
  rintro f S ⟨d, rfl, ⟨z, rfl, gz, lz⟩, D5, k5⟩
  exact ⟨z, rfl, gz, lz, D5, k5⟩
end K05

namespace K05
open PySem L2 PySem.Spec PyProof.Rows Den
/-! ### Q. the law's books -/
/-! the law's own text -/
def tN (T : List Ts) : Bool := SeqAt.shaped (.tuple (T.map testP)) && decide ((Str.ofString "tests ").length + (Str.join (Str.ofString ", ") (T.map testS)).length ≤ 1000000)
theorem tN_all : (subs six).all tN = true := by decide +kernel
theorem ne_tests {T : List Ts} (hT : T ∈ subs six) (S : DS) : oNe (.tup (T.map testD)) (.tup []) S = .ok (.bl (!T.isEmpty)) S := by
  have g := List.all_eq_true.mp tN_all T hT
  unfold tN at g
  rw [Bool.and_eq_true] at g
  have e1 : pyD S (.tup (T.map testD)) = some (.tuple (T.map testP)) := by
    show ((T.map testD).mapM (toPy S.h (18 + 1))).map PyData.tuple = _
    rw [toPy_tests]; rfl
  unfold oNe
  rw [e1]
  show (if SeqAt.shaped (.tuple (T.map testP)) && SeqAt.shaped (.tuple []) then Res.ok (D.bl (!PyData.eqv (.tuple (T.map testP)) (.tuple []))) S else .stuck) = _
  rw [g.1, if_pos (by rfl)]
  cases T <;> rfl
theorem ne_words {N : List Str} (hN : N ∈ subs four) (S : DS) : oNe (.tup (N.map D.str)) (.tup []) S = .ok (.bl (!N.isEmpty)) S := by
  obtain ⟨_, mem⟩ := four_len hN
  have e1 : pyD S (.tup (N.map D.str)) = some (.tuple (N.map PyData.str)) := by
    show ((N.map D.str).mapM (toPy S.h 19)).map PyData.tuple = _
    rw [toPy_strs]; rfl
  unfold oNe
  rw [e1]
  show (if SeqAt.shaped (.tuple (N.map PyData.str)) && SeqAt.shaped (.tuple []) then Res.ok (D.bl (!PyData.eqv (.tuple (N.map PyData.str)) (.tuple []))) S else .stuck) = _
  rw [shaped_strsT fun u hu => four_good (mem u hu), if_pos (by rfl)]
  cases N <;> rfl
def bodyT : DSt := sSeq (sAsg (dIf (tTr (dVar 4)) (dC (.str "waits")) (dC (.str "any time"))) (gN 6))
  (sExpr (dMtL mAppend (dVar 1) (dCons (dIf (tV (dBin oNe (dVar 5) (dTup dNil))) (dBin oAdd (dBin oAdd (dVar 6) (dC (.str ": "))) (dMtS mJoin (dC (.str ", ")) (dVar 5))) (dVar 6)) dNil)))
def gT45 : DG := gTup 2 (gCons (gN 4) (gCons (gN 5) gNil))
theorem turnT {a0 a2 a3 a4 a5 a6 a7 a8 : Option D} {nd : Nat} {m : Mn} (hm : m.2 ∈ subs four) {h0 h : List Ob} {acc : List D} (k0 : Kp0 h0 h) (ln : h0.length ≤ nd) (hd : h[nd]? = some (.lst acc)) (la : acc.length < 1000000) :
    ∃ h2 a6', bodyT ⟨[a0, some (.ref nd), a2, a3, some (.bl m.1), some (.tup (m.2.map D.str)), a6, a7, a8], h⟩ = .ok .next ⟨[a0, some (.ref nd), a2, a3, some (.bl m.1), some (.tup (m.2.map D.str)), a6', a7, a8], h2⟩ ∧ Kp0 h0 h2 ∧ h2[nd]? = some (.lst (acc ++ [.str (manL m)])) := by
  obtain ⟨_, _, _, jo, hl, q⟩ := m_ok hm
  have js : strsOf (m.2.map D.str) = some m.2 := strsOf_map _
  have q1 : (headS m.1).length + (Str.ofString ": ").length ≤ 1000000 := by rw [col_len]; omega
  have la' : acc.length < mxL := by
    have : mxL = 1000000 := by rfl
    omega
  have nw := ne_words hm
  refine ⟨h.set nd (.lst (acc ++ [.str (manL m)])), some (.str (headS m.1)), ?_, kp_set k0 ln, by rw [List.getElem?_set_self (lt_of_at hd)]⟩
  obtain ⟨w, ns⟩ := m
  dsimp only at js jo q nw
  have il : ∀ loc, isLst ⟨loc, h⟩ (.ref nd) = true := by
    intro loc
    unfold isLst
    dsimp only
    rw [hd]
  have ap : ∀ loc d, mAppend (.ref nd) [d] ⟨loc, h⟩ = .ok .non ⟨loc, h.set nd (.lst (acc ++ [d]))⟩ := by
    intro loc d
    unfold mAppend
    dsimp only
    rw [hd]
    dsimp only
    rw [if_pos la']
  cases hz : ns.isEmpty with
  | true =>
    rw [hz] at nw
    cases w <;> simp [bodyT, manL, headS, hz, nw, il, ap]
  | false =>
    rw [hz] at nw
    cases w <;> simp [headS] at q q1 <;> simp [bodyT, manL, headS, hz, nw, il, ap, js, jo, tjoin, q, q1]
theorem loopT {a0 a2 a3 : Option D} {nd : Nat} {h0 : List Ob} (ln : h0.length ≤ nd) : ∀ (ms : List Mn) (acc : List D) (h : List Ob) (a4 a5 a6 a7 a8 : Option D), (∀ x ∈ ms, x.2 ∈ subs four) → acc.length + ms.length < 1000000 → Kp0 h0 h → h[nd]? = some (.lst acc) →
    ∃ S', forV gT45 bodyT (ms.map manD) ⟨[a0, some (.ref nd), a2, a3, a4, a5, a6, a7, a8], h⟩ = .ok .next S' ∧ (∃ b4 b5 b6 b7 b8, S'.loc = [a0, some (.ref nd), a2, a3, b4, b5, b6, b7, b8]) ∧ Kp0 h0 S'.h ∧ S'.h[nd]? = some (.lst (acc ++ (ms.map manL).map D.str))
  | [], acc, h, a4, a5, a6, a7, a8, _, _, k, e => ⟨_, rfl, ⟨_, _, _, _, _, rfl⟩, k, by simpa using e⟩
  | m :: ms, acc, h, a4, a5, a6, a7, a8, hm, hl, k, e => by
    rw [List.length_cons] at hl
    obtain ⟨h2, a6', q, k2, e2⟩ := turnT (a0 := a0) (a2 := a2) (a3 := a3) (a4 := a4) (a5 := a5) (a6 := a6) (a7 := a7) (a8 := a8) (hm m (by simp)) k ln e (by omega)
    obtain ⟨S', q2, l, k3, e3⟩ := loopT ln ms (acc ++ [.str (manL m)]) h2 (some (.bl m.1)) (some (.tup (m.2.map D.str))) a6' a7 a8 (fun x hx => hm x (List.mem_cons_of_mem _ hx)) (by simp; omega) k2 e2
    refine ⟨S', ?_, l, k3, by simpa using e3⟩
    rw [List.map_cons]
    unfold forV
    have g : gT45 (manD m) ⟨[a0, some (.ref nd), a2, a3, a4, a5, a6, a7, a8], h⟩ = some ⟨[a0, some (.ref nd), a2, a3, some (.bl m.1), some (.tup (m.2.map D.str)), a6, a7, a8], h⟩ := rfl
    rw [g]
    dsimp only
    rw [q]
    exact q2
theorem law_text_eq : p_law_text = sSeq (sAsg (dVar 0) (gTup 2 (gCons (gN 2) (gCons (gN 3) gNil))))
  (sSeq (sAsg (dIf (tV (dBin oNe (dVar 2) (dTup dNil))) (dLst (dCons (dBin oAdd (dC (.str "tests ")) (dMtS mJoin (dC (.str ", ")) (dComp [7, 8] (dIter (dVar 2)) (gTup 2 (gCons (gN 7) (gCons (gN 8) gNil))) tTrue (dBin oAdd (dBin oAdd (dVar 7) (dC (.str "="))) (dVar 8))))) dNil)) (dLst (dCons (dC (.str "tests none")) dNil))) (gN 1))
  (sSeq (sFor (dIter (dVar 3)) gT45 bodyT) (sRet (dMtS mJoin (dC (.str "\n")) (dVar 1))))) := rfl
theorem law_text_ok {T : List Ts} {ms : List Mn} (b : Bk T ms) (h : List Ob) : Ok (F_law_text [bookD T ms] h) fun d S => d = .str (bookT T ms) ∧ Kp0 h S.h := by
  apply ok_runB
  have l6 := b.l6
  obtain ⟨t6, mem⟩ := six_len b.t
  obtain ⟨_, _, _, jo, q⟩ := t_ok b.t
  have js : strsOf ((T.map testS).map D.str) = some (T.map testS) := strsOf_map _
  have nt := ne_tests b.t
  have a0 : sAsg (dVar 0) (gTup 2 (gCons (gN 2) (gCons (gN 3) gNil))) ⟨[some (bookD T ms), none, none, none, none, none, none, none, none], h⟩ = .ok .next ⟨[some (bookD T ms), none, some (.tup (T.map testD)), some (.tup (ms.map manD)), none, none, none, none, none], h⟩ := rfl
  have a1 : Ok (sAsg (dIf (tV (dBin oNe (dVar 2) (dTup dNil))) (dLst (dCons (dBin oAdd (dC (.str "tests ")) (dMtS mJoin (dC (.str ", ")) (dComp [7, 8] (dIter (dVar 2)) (gTup 2 (gCons (gN 7) (gCons (gN 8) gNil))) tTrue (dBin oAdd (dBin oAdd (dVar 7) (dC (.str "="))) (dVar 8))))) dNil)) (dLst (dCons (dC (.str "tests none")) dNil))) (gN 1) ⟨[some (bookD T ms), none, some (.tup (T.map testD)), some (.tup (ms.map manD)), none, none, none, none, none], h⟩) fun f S => f = .next ∧ ∃ nd, h.length ≤ nd ∧ S.loc = [some (bookD T ms), some (.ref nd), some (.tup (T.map testD)), some (.tup (ms.map manD)), none, none, none, none, none] ∧ Kp0 h S.h ∧ S.h[nd]? = some (.lst [.str (testsL T)]) := by
    have c : dComp [7, 8] (dIter (dVar 2)) (gTup 2 (gCons (gN 7) (gCons (gN 8) gNil))) tTrue (dBin oAdd (dBin oAdd (dVar 7) (dC (.str "="))) (dVar 8)) ⟨[some (bookD T ms), none, some (.tup (T.map testD)), some (.tup (ms.map manD)), none, none, none, none, none], h⟩ = _ :=
      comp_pure joinE (iter_tup (xs := T.map testD) rfl) rfl (by rw [List.length_map]; omega) fun d hd => by
        obtain ⟨t, ht, rfl⟩ := List.mem_map.mp hd
        obtain ⟨e1, e2, _⟩ := six_each (mem t ht)
        refine ⟨_, rfl, ?_⟩
        simp [joinE, testD, e1, e2, eq_len, len_app]
    rw [joinE_all] at c
    cases hz : T.isEmpty with
    | true =>
      have : T = [] := List.isEmpty_iff.mp hz
      subst this
      simp at nt
      simp [nt, testsL]
      exact ⟨_, Nat.le_refl _, rfl, Kp0.app _ _, at_new _ _⟩
    | false =>
      have hne : T ≠ [] := by intro z; rw [z] at hz; cases hz
      rw [hz] at nt
      simp [nt, c, js, jo, tjoin, q, testsL, hz, -List.map_map]
      exact ⟨_, Nat.le_succ _, rfl, Kp0.app _ _, by simp⟩
  obtain ⟨f, ⟨loc, h1⟩, e1, rfl, nd, lnd, rfl, k1, hd⟩ := a1.ex
  obtain ⟨⟨loc2, h2⟩, e2, ⟨b4, b5, b6, b7, b8, rfl⟩, k2, hd2⟩ := loopT (a0 := some (bookD T ms)) (a2 := some (.tup (T.map testD))) (a3 := some (.tup (ms.map manD))) lnd ms [.str (testsL T)] h1 none none none none none b.m (by simp; omega) k1 hd
  have sf : sFor (dIter (dVar 3)) gT45 bodyT ⟨[some (bookD T ms), some (.ref nd), some (.tup (T.map testD)), some (.tup (ms.map manD)), none, none, none, none, none], h1⟩ = .ok .next ⟨[some (bookD T ms), some (.ref nd), some (.tup (T.map testD)), some (.tup (ms.map manD)), b4, b5, b6, b7, b8], h2⟩ := by
    have it : dIter (dVar 3) ⟨[some (bookD T ms), some (.ref nd), some (.tup (T.map testD)), some (.tup (ms.map manD)), none, none, none, none, none], h1⟩ = _ := iter_tup (xs := ms.map manD) rfl
    rw [sFor_vals it]
    exact e2
  have js2 : strsOf ((testsL T :: ms.map manL).map D.str) = some (testsL T :: ms.map manL) := strsOf_map _
  rw [List.map_cons] at js2
  have jo2 := (bookJ b).1
  rw [law_text_eq]
  show Ok (sSeq _ _ ⟨[some (bookD T ms), none, none, none, none, none, none, none, none], h⟩) _
  rw [z_seq, a0, Res.bind_ok]
  dsimp only
  rw [z_seq, e1, Res.bind_ok]
  dsimp only
  rw [z_seq, sf, Res.bind_ok]
  have hd3 : h2[nd]? = some (.lst (.str (testsL T) :: (ms.map manL).map D.str)) := hd2
  simp [hd3, js2, jo2, tjoin, -List.map_map]
  exact ⟨rfl, k2⟩
/-! a comprehension that leaves out some of what it walks -/
theorem comp_S {vs : List Nat} {it : DS → Res Iter0} {g : DG} {t : DT} {e : DE} {S S1 : DS} {I : Iter0} {xs : List D} (P : List Ob → Prop) (hi : it S = .ok I S1) (ov : ∀ h, P h → Over I xs h) (hl : xs.length < 100000) (j0 : P S1.h) (p : ∀ d ∈ xs, ∀ h, P h → ∃ S0, g d ⟨wipeD S1.loc vs, h⟩ = some S0 ∧ Ok (t S0) fun c S2 => P S2.h ∧ (c = true → Ok (e S2) fun y S3 => y = d ∧ P S3.h)) :
    ∃ acc h2, dComp vs it g t e S = .ok (.ref h2.length) ⟨S1.loc, h2 ++ [.lst acc]⟩ ∧ P h2 ∧ acc.Sublist xs := by
  have step : ∀ d ∈ xs, ∀ (acc : List D) h, P h → acc.length < 1000000 → ∃ S0 S2 b, g d ⟨wipeD S1.loc vs, h⟩ = some S0 ∧ compT t e S0 acc = .ok (acc ++ if b = true then [d] else []) S2 ∧ P S2.h := fun d hd acc h j l => by
    obtain ⟨S0, h1, h3⟩ := p d hd h j
    obtain ⟨c, S2, e1, j2, h4⟩ := h3.ex
    cases c with
    | true =>
      obtain ⟨y, S3, e2, rfl, j3⟩ := (h4 rfl).ex
      refine ⟨S0, S3, true, h1, ?_, j3⟩
      unfold compT
      rw [e1, Res.only_ok, if_pos rfl, e2, Res.only_ok, mxL_eq, if_pos l, if_pos rfl]
    | false =>
      refine ⟨S0, S2, false, h1, ?_, j2⟩
      unfold compT
      rw [e1, Res.only_ok, if_neg (by decide), if_neg (by decide), List.append_nil]
  have sub : ∀ (b : Bool) (d : D) (ds ys : List D), ys.Sublist ds → ((if b = true then [d] else []) ++ ys).Sublist (d :: ds) := fun b d ds ys h => by
    cases b with
    | true => exact h.cons₂ d
    | false => exact h.cons d
  cases I with
  | vals ys =>
    obtain rfl : ys = xs := ov _ j0
    have go : ∀ (zs acc : List D) (h : List Ob), (∀ z ∈ zs, z ∈ ys) → acc.length + zs.length ≤ 1000000 → P h → ∃ h2 a2, compV g t e (wipeD S1.loc vs) zs acc h = .ok (acc ++ a2) ⟨wipeD S1.loc vs, h2⟩ ∧ P h2 ∧ a2.Sublist zs := by
      intro zs
      induction zs with
      | nil => exact fun acc h _ _ j => ⟨h, [], by simp [compV], j, List.Sublist.refl _⟩
      | cons z zs ih =>
        intro acc h hz l j
        simp only [List.length_cons] at l
        obtain ⟨S0, S2, b, h1, h2, j2⟩ := step z (hz z (by simp)) acc h j (by omega)
        obtain ⟨h3, a3, e3, j3, s3⟩ := ih (acc ++ if b = true then [z] else []) S2.h (fun w hw => hz w (List.mem_cons_of_mem _ hw)) (by cases b <;> simp <;> omega) j2
        refine ⟨h3, (if b = true then [z] else []) ++ a3, ?_, j3, sub b z zs a3 s3⟩
        unfold compV
        rw [h1]
        dsimp only
        rw [h2, Res.only_ok, e3, List.append_assoc]
    obtain ⟨h2, a2, e2, j, s⟩ := go ys [] S1.h (fun _ h => h) (by simp; omega) j0
    refine ⟨a2, h2, ?_, j, s⟩
    unfold dComp
    rw [hi, Res.bind_ok]
    dsimp only
    rw [e2]
    rfl
  | dyn it2 =>
    have go : ∀ (k i : Nat) (acc : List D) (h : List Ob), xs.length < i + k → i ≤ xs.length → acc.length + (xs.length - i) ≤ 1000000 → P h → ∃ h2 a2, compO it2 g t e (wipeD S1.loc vs) k i acc h = .ok (acc ++ a2) ⟨wipeD S1.loc vs, h2⟩ ∧ P h2 ∧ a2.Sublist (xs.drop i) := by
      intro k
      induction k with
      | zero => intro i acc h h1 h2; omega
      | succ k ih =>
        intro i acc h hk hi' hl' j
        by_cases lt : i < xs.length
        · obtain ⟨S0, S2, b, h1, h2, j2⟩ := step xs[i] (List.getElem_mem lt) acc h j (by omega)
          obtain ⟨h3, a3, e3, j3, s3⟩ := ih (i + 1) (acc ++ if b = true then [xs[i]] else []) S2.h (by omega) (by omega) (by cases b <;> simp <;> omega) j2
          refine ⟨h3, (if b = true then [xs[i]] else []) ++ a3, ?_, j3, by rw [List.drop_eq_getElem_cons lt]; exact sub b _ _ _ s3⟩
          unfold compO
          rw [ov h j i, List.getElem?_eq_getElem lt]
          dsimp only
          rw [h1]
          dsimp only
          rw [h2, Res.only_ok, e3, List.append_assoc]
        · refine ⟨h, [], ?_, j, List.nil_sublist _⟩
          unfold compO
          rw [ov h j i, List.getElem?_eq_none (by omega), List.append_nil]
    obtain ⟨h2, a2, e2, j, s⟩ := go 100000 0 [] S1.h (by omega) (by omega) (by simp; omega) j0
    refine ⟨a2, h2, ?_, j, by simpa using s⟩
    unfold dComp
    rw [hi, Res.bind_ok]
    dsimp only
    rw [e2]
    rfl
theorem sub_of {α : Type} (f : α → D) : ∀ (l : List α) (acc : List D), acc.Sublist (l.map f) → ∃ T, T ∈ subs l ∧ acc = T.map f
  | [], acc, h => ⟨[], by simp [subs], by simpa using h⟩
  | x :: xs, acc, h => by
    rw [List.map_cons] at h
    cases h with
    | cons _ h =>
      obtain ⟨T, hT, rfl⟩ := sub_of f xs _ h
      exact ⟨T, (subs_cons hT).1, rfl⟩
    | cons_cons _ h =>
      obtain ⟨T, hT, rfl⟩ := sub_of f xs _ h
      exact ⟨x :: T, (subs_cons hT).2, rfl⟩
def IsMan (d : D) : Prop := ∃ q, d = manD q ∧ q.2 ∈ subs four
theorem isMan (b : Bool) {N : List Str} (hN : N ∈ subs four) : IsMan (.tup [.bl b, .tup (N.map D.str)]) := ⟨(b, N), rfl, hN⟩
theorem lmanner_ok {h : List Ob} {n m : Nat} (dk : Deck h n m) : Ok (F_law_manner [.ref n] h) fun d S => IsMan d ∧ Deck S.h n m := by
  apply ok_runB
  have it : dIter (dCall F_law_words dNil) ⟨[some (.ref n), none, none], h⟩ = .ok (.dyn (lstIt h.length)) ⟨[some (.ref n), none, none], h ++ [Ob.lst (four.map D.str)]⟩ :=
    iter_ref (xs := four.map D.str) (by simp [lwords]) (at_new _ _)
  obtain ⟨acc, h2, c, ⟨D2, _⟩, sb⟩ := comp_S (vs := [2]) (g := gN 2) (t := tV (dBin oEq (dCall F_law_draw (dCons (dVar 0) (dCons (dC (.int 2)) dNil))) (dC (.int 0)))) (e := dVar 2) (fun h' => Deck h' n m ∧ h'[h.length]? = some (.lst (four.map D.str))) it (fun h' j => over_lst j.2) (by decide) ⟨dk.keep (Kp0.app _ _), at_new _ _⟩ (by
    rintro d hd h' ⟨D2, e2⟩
    obtain ⟨d3, S3, q3, r, rfl, r0, r1, D3, k3⟩ := (draw_ok D2 (many := 2) (by omega) (by omega)).ex
    have e3 := k3 _ _ (deck_new dk).2 (deck_new dk).1 e2
    refine ⟨_, rfl, ?_⟩
    simp [q3]
    exact ⟨⟨D3, e3⟩, fun _ => ⟨D3, e3⟩⟩)
  obtain ⟨N, hN, rfl⟩ := sub_of D.str four acc sb
  obtain ⟨d3, S3, q3, r, rfl, r0, r1, D3, k3⟩ := (draw_ok (D2.keep (Kp0.app _ [Ob.lst (N.map D.str)])) (many := 2) (by omega) (by omega)).ex
  simp [p_law_manner, c, q3, -List.map_map]
  exact ⟨isMan _ hN, D3⟩
theorem mans_of : ∀ acc : List D, (∀ d ∈ acc, IsMan d) → ∃ ms : List Mn, acc = ms.map manD ∧ ∀ x ∈ ms, x.2 ∈ subs four
  | [], _ => ⟨[], rfl, fun _ h => (nomatch h)⟩
  | d :: ds, h => by
    obtain ⟨q, rfl, hq⟩ := h d (by simp)
    obtain ⟨ms, rfl, hm⟩ := mans_of ds fun x hx => h x (List.mem_cons_of_mem _ hx)
    exact ⟨q :: ms, rfl, fun x hx => by
      rcases List.mem_cons.mp hx with rfl | hx
      · exact hq
      · exact hm x hx⟩
def AllM (acc : List D) : Prop := ∀ d ∈ acc, IsMan d
def IsBk (d : D) : Prop := ∃ T ms, d = bookD T ms ∧ Bk T ms
theorem isBk {T : List Ts} {ms : List Mn} (b : Bk T ms) : IsBk (.tup [.tup (T.map testD), .tup (ms.map manD)]) := ⟨T, ms, rfl, b⟩
theorem flat_one (q : Mn) : ∀ n : Nat, (List.replicate n [manD q]).flatten = (List.replicate n q).map manD
  | 0 => rfl
  | n + 1 => by rw [List.replicate_succ, List.flatten_cons, flat_one q n, List.replicate_succ, List.map_cons]; rfl
theorem mulB_one (q : Mn) {j : Int} (h2 : 2 ≤ j) (h6 : j ≤ 6) (S : DS) : oMulB (.tup [manD q]) (.int j) S = .ok (.tup ((List.replicate j.toNat q).map manD)) S := by
  show (if [manD q] ≠ [] ∧ 2 ≤ j ∧ j ≤ 1000 ∧ [manD q].length ≤ 1000 then Res.ok (D.tup (List.replicate j.toNat [manD q]).flatten) S else .stuck) = _
  rw [if_pos ⟨by simp, h2, by omega, by simp⟩, flat_one]
theorem lbook_ok {h : List Ob} {n m : Nat} (dk : Deck h n m) : Ok (F_law_book [.ref n] h) fun d S => IsBk d ∧ Deck S.h n m := by
  apply ok_runB
  have it : dIter (dCall F_law_tests dNil) ⟨[some (.ref n), none, none, none, none, none], h⟩ = .ok (.dyn (lstIt h.length)) ⟨[some (.ref n), none, none, none, none, none], h ++ [Ob.lst (six.map testD)]⟩ :=
    iter_ref (xs := six.map testD) (by simp [ltests, -List.map_map]) (at_new _ _)
  obtain ⟨acc, h2, c, ⟨D2, _⟩, sb⟩ := comp_S (vs := [4]) (g := gN 4) (t := tV (dBin oEq (dCall F_law_draw (dCons (dVar 0) (dCons (dC (.int 3)) dNil))) (dC (.int 0)))) (e := dVar 4) (fun h' => Deck h' n m ∧ h'[h.length]? = some (.lst (six.map testD))) it (fun h' j => over_lst j.2) (by decide) ⟨dk.keep (Kp0.app _ _), at_new _ _⟩ (by
    rintro d hd h' ⟨D2, e2⟩
    obtain ⟨d3, S3, q3, r, rfl, r0, r1, D3, k3⟩ := (draw_ok D2 (many := 3) (by omega) (by omega)).ex
    have e3 := k3 _ _ (deck_new dk).2 (deck_new dk).1 e2
    refine ⟨_, rfl, ?_⟩
    simp [q3]
    exact ⟨⟨D3, e3⟩, fun _ => ⟨D3, e3⟩⟩)
  obtain ⟨T, hT, rfl⟩ := sub_of testD six acc sb
  obtain ⟨d3, S3, q3, r, rfl, r0, r1, D3, k3⟩ := (draw_ok (D2.keep (Kp0.app _ [Ob.lst (T.map testD)])) (many := 5) (by omega) (by omega)).ex
  obtain ⟨d4, S4, q4, ⟨q, rfl, hq⟩, D4⟩ := (lmanner_ok D3).ex
  obtain ⟨d5, S5, q5, a, rfl, a0, a1, D5, k5⟩ := (draw_ok D4 (many := 3) (by omega) (by omega)).ex
  by_cases za : a = 0
  · have mu := mulB_one q (j := 2 + r) (by omega) (by omega)
    have bk : Bk T (List.replicate (2 + r).toNat q) := ⟨hT, fun x hx => by rw [(List.mem_replicate.mp hx).2]; exact hq, by rw [List.length_replicate]; omega, by rw [List.length_replicate]; omega⟩
    generalize hR : List.replicate (2 + r).toNat q = R at mu bk
    simp [p_law_book, c, q3, q4, q5, za, mu, -List.map_map, -List.map_replicate]
    exact ⟨isBk bk, D5⟩
  · have it2 : dRng (dCons (dVar 2) dNil) ⟨[some (.ref n), some (.tup (T.map testD)), some (.int (2 + r)), some (manD q), none, none], S5.h⟩ = .ok (.vals (rgD 0 (2 + r).toNat)) ⟨[some (.ref n), some (.tup (T.map testD)), some (.int (2 + r)), some (manD q), none, none], S5.h⟩ := rng_of (by simp) (by omega)
    obtain ⟨acc, h6, c6, ⟨D6, im⟩, l6⟩ := comp_K (vs := [5]) (g := gN 5) (e := dCall F_law_manner (dCons (dVar 0) dNil)) (fun acc h' => Deck h' n m ∧ AllM acc) it2 (fun _ _ _ => rfl) (by rw [rgD_len]; omega) ⟨D5, (fun _ h => nomatch h)⟩ (by
      rintro d hd acc h' ⟨D6, im⟩
      obtain ⟨d7, S7, q7, i7, D7⟩ := (lmanner_ok D6).ex
      refine ⟨_, rfl, ?_⟩
      have im2 : AllM (acc ++ [d7]) := fun d hd => by
        rcases List.mem_append.mp hd with hd | hd
        · exact im d hd
        · rw [List.mem_singleton.mp hd]; exact i7
      simp [q7]
      exact ⟨D7, im2⟩)
    obtain ⟨ms, rfl, hm⟩ := mans_of acc im
    rw [List.length_map, rgD_len] at l6
    have bk : Bk T ms := ⟨hT, hm, by omega, by omega⟩
    simp [p_law_book, c, q3, q4, q5, za, c6, -List.map_map]
    exact ⟨isBk bk, D6.keep (Kp0.app _ _)⟩
end K05

namespace K05
open PySem L2 PySem.Spec PyProof.Rows Den
/-! ### R. the law -/
def s1 : DSt := (sAsg (dCall F_law_text (dCons (dCall F_law_book (dCons (dVar 1) dNil)) dNil)) (gN 3))
def s2 : DSt := (sAsg (dLst (dCons (dVar 3) (dCons (dCall F_law_spoilt (dCons (dVar 1) (dCons (dVar 3) dNil))) (dCons (dCall F_law_spoilt (dCons (dVar 1) (dCons (dVar 3) dNil))) dNil)))) (gN 4))
def s3 : DSt := (sExpr (dMtL mAppend (dVar 4) (dCons (dCall F_law_spoilt (dCons (dVar 1) (dCons (dBin oIx (dVar 4) (dNeg (dC (.int 1)))) dNil))) dNil)))
def s4 : DSt := (sExpr (dMtL mAppend (dVar 4) (dCons (dBin oAdd (dC (.str "tests none")) (dBin oMulA (dC (.str "\nwaits")) (dCall F_law_pick (dCons (dVar 1) (dCons (dLst (dCons (dC (.int 0)) (dCons (dC (.int 1)) (dCons (dC (.int 2)) (dCons (dC (.int 6)) (dCons (dC (.int 7)) (dCons (dC (.int 1000)) dNil))))))) dNil))))) dNil)))
def s5 : DSt := (sAsg (dLst (dCons (dC .non) (dCons (dC (.int 0)) (dCons (dC (.bl true)) (dCons (dLst dNil) (dCons dNew0 (dCons (dTup (dCons (dC (.str "tests none")) dNil)) (dCons (dC (.str "")) (dCons (dC (.str "tests")) (dCons (dC (.str "tests ")) (dCons (dC (.str "test none\nwaits\nwaits")) dNil))))))))))) (gN 5))
def s6 : DSt := (sAsg (dBin oAdd (dVar 5) (dLst (dCons (dC (.str "waits\nwaits")) (dCons (dC (.str "tests none, G1=S1\nwaits\nwaits")) (dCons (dBin oMulA (dC (.str "\n")) (dC (.int 3000))) (dCons (dC (.str "tests  none\nwaits\nwaits")) dNil)))))) (gN 5))
def s7 : DSt := (sExpr (dMtL mAppend (dVar 4) (dCons (dCall F_law_pick (dCons (dVar 1) (dCons (dVar 5) dNil))) dNil)))
def s8 : DSt := (sFor (dEnum (dCons (dVar 4) dNil)) (gTup 2 (gCons (gN 6) (gCons (gN 7) gNil))) bodyI)
def bodyO : DSt := (sSeq s1 (sSeq s2 (sSeq s3 (sSeq s4 (sSeq s5 (sSeq s6 (sSeq s7 s8)))))))
theorem p_law_eq : p_law = sSeq (sAsg (dCall F_law_deck (dCons (dVar 0) dNil)) (gN 1)) (sSeq (sFor (dRng (dCons (dC (.int 10)) dNil)) (gN 2) bodyO) (sRet (dC (.bl true)))) := rfl
variable {a0 a3 a4 a5 a6 a7 : Option D} {t : Int} {n m : Nat} {h : List Ob}
theorem book_len {T : List Ts} {ms : List Mn} (b : Bk T ms) : (bookT T ms).length ≤ 430 ∧ Good (bookT T ms) := by
  refine ⟨?_, (bookJ b).2.2.good⟩
  obtain ⟨a1, a2, _⟩ := t_ok b.t
  have l1 := lenS_le (n := 60) (ps := ms.map manL) fun u hu => by
    obtain ⟨m, hm, rfl⟩ := List.mem_map.mp hu
    exact (m_ok (b.m m hm)).2.1
  rw [List.length_map] at l1
  have l6 := b.l6
  have l2 : lenS (testsL T :: ms.map manL) = (testsL T).length + lenS (ms.map manL) := rfl
  have j1 := join_len (Str.ofString "\n") (testsL T :: ms.map manL)
  rw [nl_len, List.length_cons, List.length_map] at j1
  unfold bookT
  omega
theorem s1_ok (dk : Deck h n m) : Ok (s1 ⟨[a0, some (.ref n), some (.int t), a3, a4, a5, a6, a7], h⟩) fun f S => f = .next ∧ ∃ x : Str, Good x ∧ x.length ≤ 430 ∧ S.loc = [a0, some (.ref n), some (.int t), some (.str x), a4, a5, a6, a7] ∧ Deck S.h n m := by
  obtain ⟨d1, S1, e1, ⟨T, ms, rfl, bk⟩, D1⟩ := (lbook_ok dk).ex
  obtain ⟨d2, S2, e2, rfl, k2⟩ := (law_text_ok bk S1.h).ex
  simp [s1, e1, e2]
  exact ⟨_, (book_len bk).2, (book_len bk).1, rfl, D1.keep k2⟩
structure Some (n m : Nat) (h : List Ob) (ns : Nat) (ss : List Str) : Prop where
  n1 : ns ≠ n
  n2 : ns ≠ m
  e : h[ns]? = some (.lst (ss.map D.str))
  g : ∀ s ∈ ss, Good s ∧ s.length ≤ 7300
theorem s2_ok (dk : Deck h n m) {x : Str} (gx : Good x) (lx : x.length ≤ 430) : Ok (s2 ⟨[a0, some (.ref n), some (.int t), some (.str x), a4, a5, a6, a7], h⟩) fun f S => f = .next ∧ ∃ (ns : Nat) (y z : Str), Some n m S.h ns [x, y, z] ∧ z.length ≤ 1780 ∧ S.loc = [a0, some (.ref n), some (.int t), some (.str x), some (.ref ns), a5, a6, a7] ∧ Deck S.h n m := by
  obtain ⟨d1, S1, e1, y, rfl, gy, ly, D1, k1⟩ := (spoilt_ok dk gx (by omega)).ex
  obtain ⟨d2, S2, e2, z, rfl, gz, lz, D2, k2⟩ := (spoilt_ok D1 gx (by omega)).ex
  simp [s2, e1, e2]
  obtain ⟨q1, q2⟩ := deck_new D2
  refine ⟨_, y, z, ⟨q2, q1, at_new _ _, fun s hs => ?_⟩, by omega, rfl, D2.keep (Kp0.app _ _)⟩
  simp only [List.mem_cons, List.not_mem_nil, or_false] at hs
  rcases hs with rfl | rfl | rfl
  · exact ⟨gx, by omega⟩
  · exact ⟨gy, by omega⟩
  · exact ⟨gz, by omega⟩
theorem deck_set {h : List Ob} {n m k : Nat} {ob : Ob} (dk : Deck h n m) (kn : k ≠ n) (km : k ≠ m) : Deck (h.set k ob) n m := by
  obtain ⟨ne, s, xs, hn, hm, r⟩ := dk
  exact ⟨ne, s, xs, by rw [List.getElem?_set_ne kn]; exact hn, by rw [List.getElem?_set_ne km]; exact hm, r⟩
theorem s3_ok (dk : Deck h n m) {x y z : Str} {ns : Nat} (so : Some n m h ns [x, y, z]) (lz : z.length ≤ 1780) : Ok (s3 ⟨[a0, some (.ref n), some (.int t), some (.str x), some (.ref ns), a5, a6, a7], h⟩) fun f S => f = .next ∧ ∃ w : Str, Some n m S.h ns [x, y, z, w] ∧ S.loc = [a0, some (.ref n), some (.int t), some (.str x), some (.ref ns), a5, a6, a7] ∧ Deck S.h n m := by
  obtain ⟨d1, S1, e1, w, rfl, gw, lw, D1, k1⟩ := (spoilt_ok dk (so.g z (by simp)).1 (by omega)).ex
  have e2 := k1 _ _ so.n1 so.n2 so.e
  have e3 := so.e
  simp at e2 e3
  have i3 : atI [D.str x, D.str y, D.str z] (-1) = some (.str z) := rfl
  simp [s3, e3, i3, e1, e2]
  refine ⟨⟨w, ⟨so.n1, so.n2, by rw [List.getElem?_set_self (lt_of_at e2)]; rfl, fun s hs => ?_⟩⟩, deck_set D1 so.n1 so.n2⟩
  simp only [List.mem_cons, List.not_mem_nil, or_false] at hs
  rcases hs with rfl | rfl | rfl | rfl
  · exact so.g _ (by simp)
  · exact so.g _ (by simp)
  · exact so.g _ (by simp)
  · exact ⟨gw, by omega⟩
def nw : Str := Str.ofString "\nwaits"
theorem nw_len : nw.length = 6 := by decide +kernel
theorem nw_good : Good nw := good_of (by decide +kernel)
theorem rep_gen {z : Str} {c : Int} (hc : 2 ≤ c) (hz : z.length ≠ 0) (g : Good z) : Good (repS z c) ∧ (repS z c).length = c.toNat * z.length := by
  have e0 := repS_cps hc (z := z) (by omega)
  constructor
  · intro c' hc'
    rw [e0] at hc'
    obtain ⟨l, hl, hc'⟩ := List.mem_flatten.mp hc'
    rw [(List.mem_replicate.mp hl).2] at hc'
    exact g c' hc'
  · have e := congrArg List.length e0
    rw [← len_list] at e
    rw [e, List.length_flatten, List.map_replicate, List.sum_replicate_nat, ← len_list]
theorem rep_ok {c : Int} (h0 : 0 ≤ c) (h1 : c ≤ 1000) : Good (repS nw c) ∧ (repS nw c).length ≤ 6000 := by
  by_cases c2 : 2 ≤ c
  · obtain ⟨g, l⟩ := rep_gen c2 (by rw [nw_len]; decide) nw_good
    refine ⟨g, ?_⟩
    rw [l, nw_len]
    omega
  · have : c = 0 ∨ c = 1 := by omega
    rcases this with rfl | rfl
    · exact ⟨good_of (by decide +kernel), by decide +kernel⟩
    · exact ⟨nw_good, by show nw.length ≤ 6000; rw [nw_len]; decide⟩
theorem tn_len : (Str.ofString "tests none").length = 10 := by decide +kernel
theorem s4_ok (dk : Deck h n m) {ss : List Str} {x : Str} {ns : Nat} (so : Some n m h ns ss) (ls : ss.length ≤ 10) : Ok (s4 ⟨[a0, some (.ref n), some (.int t), some (.str x), some (.ref ns), a5, a6, a7], h⟩) fun f S => f = .next ∧ ∃ w : Str, Some n m S.h ns (ss ++ [w]) ∧ S.loc = [a0, some (.ref n), some (.int t), some (.str x), some (.ref ns), a5, a6, a7] ∧ Deck S.h n m := by
  obtain ⟨d0, S0, e0, hd0, D0, k0⟩ := (picked dk (xs := [.int 0, .int 1, .int 2, .int 6, .int 7, .int 1000]) (by decide) (by decide)).ex
  have hm : ∃ c : Int, d0 = .int c ∧ 0 ≤ c ∧ c ≤ 1000 := by
    simp only [List.mem_cons, List.not_mem_nil, or_false] at hd0
    rcases hd0 with rfl | rfl | rfl | rfl | rfl | rfl <;> exact ⟨_, rfl, by decide, by decide⟩
  obtain ⟨c, rfl, c0, c1⟩ := hm
  obtain ⟨gr, lr⟩ := rep_ok c0 c1
  have e2 := k0 _ _ so.n1 so.n2 so.e
  have mu : ∀ S, oMulA (.str (Str.ofString "\nwaits")) (.int c) S = .ok (.str (repS nw c)) S := fun S => by
    show (if -1000000 ≤ c ∧ c ≤ 1000000 ∧ nw.length * c.toNat ≤ mxL ∧ (repS nw c).length ≤ mxL then Res.ok (D.str (repS nw c)) S else .stuck) = _
    rw [if_pos ⟨by omega, by omega, by rw [nw_len]; have : mxL = 1000000 := by rfl
                                       omega, by have : mxL = 1000000 := by rfl
                                                 omega⟩]
  generalize repS nw c = r at gr lr mu
  have q : (Str.ofString "tests none").length + r.length ≤ 1000000 := by rw [tn_len]; omega
  have hs : ∀ tl, (h ++ tl)[ns]? = some (.lst (ss.map D.str)) := fun tl => at_old so.e
  have ls' : ss.length < 1000000 := by omega
  simp [s4, so.e, hs, e0, mu, q, e2, ls', -z_mulL]
  refine ⟨⟨Str.ofString "tests none" ++ r, ⟨so.n1, so.n2, by rw [List.getElem?_set_self (lt_of_at e2)]; simp, fun s hs => ?_⟩⟩, deck_set D0 so.n1 so.n2⟩
  rcases List.mem_append.mp hs with hs | hs
  · exact so.g s hs
  · rw [List.mem_singleton.mp hs]
    exact ⟨tn_good.app gr, by rw [len_app, tn_len]; omega⟩
def n3 : Str := repS (Str.ofString "\n") 3000
theorem n3_len : n3.length = 3000 := repS_len (by decide) nl_len
theorem n3_ok : Good n3 ∧ n3.length ≤ 5000 := ⟨repS_good (by decide) nl_len (good_of (by decide +kernel)), by rw [n3_len]; omega⟩
def oddL (k : Nat) : List D := [.non, .int 0, .bl true, .ref k, .ref (k + 1), .tup [.str "tests none"], .str "", .str "tests", .str "tests ", .str "test none\nwaits\nwaits"]
def oddM : List D := [.str "waits\nwaits", .str "tests none, G1=S1\nwaits\nwaits", .str n3, .str "tests  none\nwaits\nwaits"]
theorem s56_ok {x : Str} {ns : Nat} : Ok (sSeq s5 s6 ⟨[a0, some (.ref n), some (.int t), some (.str x), some (.ref ns), a5, a6, a7], h⟩) fun f S => f = .next ∧ S.loc = [a0, some (.ref n), some (.int t), some (.str x), some (.ref ns), some (.ref (h.length + 4)), a6, a7] ∧ S.h = h ++ [Ob.lst [], Ob.dct [], Ob.lst (oddL h.length), Ob.lst oddM, Ob.lst (oddL h.length ++ oddM)] := by
  have q : ∀ S, oMulA (.str (Str.ofString "\n")) (.int 3000) S = .ok (.str n3) S := fun S => by
    show (if -1000000 ≤ (3000 : Int) ∧ (3000 : Int) ≤ 1000000 ∧ (Str.ofString "\n").length * (3000 : Int).toNat ≤ mxL ∧ n3.length ≤ mxL then Res.ok (D.str n3) S else .stuck) = _
    rw [if_pos ⟨by decide, by decide, by rw [nl_len]; decide, by rw [n3_len]; decide⟩]
  simp [s5, s6, q, oddL, oddM]
theorem s7_ok (dk : Deck h n m) {x : Str} {ss : List Str} {ns : Nat} (so : Some n m h ns ss) (ls : ss.length ≤ 10) : Ok (s7 ⟨[a0, some (.ref n), some (.int t), some (.str x), some (.ref ns), some (.ref (h.length + 4)), a6, a7], h ++ [Ob.lst [], Ob.dct [], Ob.lst (oddL h.length), Ob.lst oddM, Ob.lst (oddL h.length ++ oddM)]⟩) fun f S => f = .next ∧ ∃ d, (∃ o, Vl n m S.h d o) ∧ S.h[ns]? = some (.lst (ss.map D.str ++ [d])) ∧ S.loc = [a0, some (.ref n), some (.int t), some (.str x), some (.ref ns), some (.ref (h.length + 4)), a6, a7] ∧ Deck S.h n m := by
  have D1 : Deck (h ++ [Ob.lst [], Ob.dct [], Ob.lst (oddL h.length), Ob.lst oddM, Ob.lst (oddL h.length ++ oddM)]) n m := dk.keep (Kp0.app _ _)
  have out : ∀ j, h.length + j ≠ n ∧ h.length + j ≠ m := fun j => by
    obtain ⟨_, _, _, hn, hm, _⟩ := dk
    have := lt_of_at hn
    have := lt_of_at hm
    omega
  obtain ⟨d, S, e, hd, D2, k2⟩ := (pick_ok D1 (k := h.length + 4) (xs := oddL h.length ++ oddM) (by simp) (out 4).2 (by simp [oddL]) (by simp [oddL, oddM])).ex
  have hs := k2 _ _ so.n1 so.n2 (at_old so.e)
  have lns := lt_of_at so.e
  have v : ∃ o, Vl n m (S.h.set ns (.lst (ss.map D.str ++ [d]))) d o := by
    have g0 : (S.h.set ns (.lst (ss.map D.str ++ [d])))[h.length]? = some (Ob.lst []) := by
      rw [List.getElem?_set_ne (by omega)]
      exact k2 h.length (Ob.lst []) (out 0).1 (out 0).2 (by simp)
    have g1 : (S.h.set ns (.lst (ss.map D.str ++ [d])))[h.length + 1]? = some (Ob.dct []) := by
      rw [List.getElem?_set_ne (by omega)]
      exact k2 (h.length + 1) (Ob.dct []) (out 1).1 (out 1).2 (by simp)
    generalize S.h.set ns (.lst (ss.map D.str ++ [d])) = H at g0 g1
    simp only [oddL, oddM, List.cons_append, List.nil_append, List.mem_cons, List.not_mem_nil, or_false] at hd
    rcases hd with rfl | rfl | rfl | rfl | rfl | rfl | rfl | rfl | rfl | rfl | rfl | rfl | rfl | rfl
    · exact ⟨_, vl_ty (t := "NoneType") (by decide) fun _ _ _ => rfl⟩
    · exact ⟨_, vl_ty (t := "int") (by decide) fun _ _ _ => rfl⟩
    · exact ⟨_, vl_ty (t := "bool") (by decide) fun _ _ _ => rfl⟩
    · exact vl_ref (out 0).1 (out 0).2 g0
    · exact vl_ref (out 1).1 (out 1).2 g1
    · exact ⟨_, vl_ty (t := "tuple") (by decide) fun _ _ _ => rfl⟩
    · exact vl_str (good_of (by decide +kernel)) (by decide +kernel)
    · exact vl_str (good_of (by decide +kernel)) (by decide +kernel)
    · exact vl_str (good_of (by decide +kernel)) (by decide +kernel)
    · exact vl_str (good_of (by decide +kernel)) (by decide +kernel)
    · exact vl_str (good_of (by decide +kernel)) (by decide +kernel)
    · exact vl_str (good_of (by decide +kernel)) (by decide +kernel)
    · exact vl_str n3_ok.1 (by have := n3_ok.2; omega)
    · exact vl_str (good_of (by decide +kernel)) (by decide +kernel)
  obtain ⟨o, v⟩ := v
  have hs0 : ∀ tl, (h ++ tl)[ns]? = some (.lst (ss.map D.str)) := fun tl => at_old so.e
  have ls' : ss.length < 1000000 := by omega
  generalize hO : oddL h.length ++ oddM = O at e
  simp [s7, hs0, e, hs, ls']
  refine ⟨d, ⟨o, v⟩, ?_, deck_set D2 so.n1 so.n2⟩
  rw [List.getElem?_set_self (lt_of_at hs)]
theorem s8_ok (dk : Deck h n m) {vs : List D} {ns : Nat} (hs : h[ns]? = some (.lst vs)) (lv : vs.length < 100000) (va : ∀ d ∈ vs, ∃ o, Vl n m h d o) : Ok (s8 ⟨[a0, some (.ref n), some (.int t), a3, some (.ref ns), a5, a6, a7], h⟩) fun f S => f = .next ∧ (∃ b6 b7, S.loc = [a0, some (.ref n), some (.int t), a3, some (.ref ns), a5, b6, b7]) ∧ Deck S.h n m := by
  unfold s8
  rw [sFor_dyn (enum_var (i := 4) (n := ns) (xs := vs) rfl hs)]
  have o := ok_dyn (g := gTup 2 (gCons (gN 6) (gCons (gN 7) gNil))) (b := bodyI) (K := fun f S => .ok f S) (Q := fun f S => f = .next ∧ (∃ b6 b7, S.loc = [a0, some (.ref n), some (.int t), a3, some (.ref ns), a5, b6, b7]) ∧ Deck S.h n m) (it := numIt 0 (lstIt ns)) (S := ⟨[a0, some (.ref n), some (.int t), a3, some (.ref ns), a5, a6, a7], h⟩)
    (fun i S => (∃ b6 b7, S.loc = [a0, some (.ref n), some (.int t), a3, some (.ref ns), a5, b6, b7]) ∧ Kp0 h S.h) ((List.range vs.length).map fun i => D.tup [.int (i : Nat), vs.getD i .non]) (by simpa using lv) ⟨⟨_, _, rfl⟩, Kp0.refl _⟩ (by
      rintro i S ⟨_, k⟩
      rw [numIt_of (k _ _ hs), List.getElem?_map]
      by_cases hi : i < vs.length
      · rw [List.getElem?_eq_getElem hi, List.getElem?_range hi]
        simp [hi]
      · rw [List.getElem?_eq_none (by omega), List.getElem?_eq_none (by simp; omega)]; rfl) (by
      rintro i d ⟨loc, h1⟩ hd ⟨⟨b6, b7, rfl⟩, k⟩
      rw [List.getElem?_map] at hd
      by_cases hi : i < vs.length
      · rw [List.getElem?_range hi] at hd
        cases hd
        refine ⟨_, g_two 6 7 _ _ _, ?_⟩
        obtain ⟨o, v⟩ := va (vs.getD i .non) (by simp [hi])
        obtain ⟨f, S2, e, rfl, l, k2⟩ := (turnI (v.mono (k.kp n m)) (a0 := a0) (a1 := some (.ref n)) (a3 := a3) (a4 := some (.ref ns)) (a5 := a5) (t := t) (s := (i : Nat))).ex
        have e' := e
        dsimp only [List.set] at e' ⊢
        rw [e']
        exact ⟨.inl rfl, ⟨_, _, l⟩, k.trans k2⟩
      · rw [List.getElem?_eq_none (by simp; omega)] at hd; cases hd) (by
      rintro S ⟨l, k⟩
      exact ⟨rfl, l, dk.keep k⟩)
  obtain ⟨f, S, e, q⟩ := o.ex
  generalize hr : forO (numIt 0 (lstIt ns)) (gTup 2 (gCons (gN 6) (gCons (gN 7) gNil))) bodyI 100000 0 ⟨[a0, some (.ref n), some (.int t), a3, some (.ref ns), a5, a6, a7], h⟩ = r at e
  cases r with
  | ok f2 S2 =>
    rw [Res.bind_ok] at e
    cases e
    exact q
  | exc u S2 => cases e
  | stuck => cases e
theorem seq3 {a b c : DSt} {S : DS} {Q : Fl → DS → Prop} (h : Ok (sSeq a b S) fun f S1 => f = .next ∧ Ok (c S1) Q) : Ok (sSeq a (sSeq b c) S) Q := by
  obtain ⟨f, S1, e, rfl, q⟩ := h.ex
  rw [z_seq] at e
  rw [z_seq]
  generalize a S = r at e
  cases r with
  | ok f2 S2 =>
    rw [Res.bind_ok] at e ⊢
    cases f2 with
    | next =>
      dsimp only at e ⊢
      rw [z_seq, e]
      exact q
    | brk => cases e
    | cont => cases e
    | ret d => cases e
  | exc u S2 => cases e
  | stuck => cases e
theorem bodyO_ok (dk : Deck h n m) : Ok (bodyO ⟨[a0, some (.ref n), some (.int t), a3, a4, a5, a6, a7], h⟩) fun f S => f = .next ∧ (∃ b3 b4 b5 b6 b7, S.loc = [a0, some (.ref n), some (.int t), b3, b4, b5, b6, b7]) ∧ Deck S.h n m := by
  unfold bodyO
  refine ok_seq (okmp (s1_ok dk) ?_)
  rintro f ⟨loc, h1⟩ ⟨rfl, x, gx, lx, rfl, D1⟩
  refine ⟨rfl, ok_seq (okmp (s2_ok D1 gx lx) ?_)⟩
  rintro f ⟨loc, h2⟩ ⟨rfl, ns, y, z, so, lz, rfl, D2⟩
  refine ⟨rfl, ok_seq (okmp (s3_ok D2 so lz) ?_)⟩
  rintro f ⟨loc, h3⟩ ⟨rfl, w, so3, rfl, D3⟩
  refine ⟨rfl, ok_seq (okmp (s4_ok D3 so3 (by simp)) ?_)⟩
  rintro f ⟨loc, h4⟩ ⟨rfl, w4, so4, rfl, D4⟩
  refine ⟨rfl, seq3 (okmp s56_ok ?_)⟩
  rintro f ⟨loc, h5⟩ ⟨rfl, rfl, rfl⟩
  refine ⟨rfl, ok_seq (okmp (s7_ok D4 so4 (by simp)) ?_)⟩
  rintro f ⟨loc, h6⟩ ⟨rfl, d, vd, hs, rfl, D6⟩
  refine ⟨rfl, okmp (s8_ok D6 hs (by simp) fun d' hd => ?_) ?_⟩
  · rcases List.mem_append.mp hd with hd | hd
    · obtain ⟨s, hs, rfl⟩ := List.mem_map.mp hd
      obtain ⟨g, l⟩ := so4.g s hs
      exact vl_str g l
    · rw [List.mem_singleton.mp hd]; exact vd
  · rintro f S ⟨rfl, ⟨b6, b7, l⟩, D7⟩
    exact ⟨rfl, ⟨_, _, _, _, _, l⟩, D7⟩
theorem holds : ∀ ns : List Int, ns.length ≤ 63 → ∃ S', F_law [.ro (ns.map D.int)] [] = .ok (.bl true) S' := by
  intro ns hl
  have go : Ok (F_law [.ro (ns.map D.int)] []) fun d _ => d = .bl true := by
    apply ok_runB
    obtain ⟨d1, S1, q1, n, m, rfl, D1, k1⟩ := (deck_ok hl []).ex
    rw [p_law_eq]
    refine ok_seq ?_
    simp [q1]
    refine okmp (Q := fun f S => f = .ret (.bl true)) ?_ (by rintro f S rfl; rfl)
    refine ok_seq ?_
    have loop := ok_sForV (g := gN 2) (b := bodyO) (K := fun f S => .ok f S) (S := ⟨[some (.ro (ns.map D.int)), some (.ref n), none, none, none, none, none, none], S1.h⟩) (Q := fun f S => f = .next ∧ (∃ b2 b3 b4 b5 b6 b7, S.loc = [some (.ro (ns.map D.int)), some (.ref n), b2, b3, b4, b5, b6, b7]) ∧ Deck S.h n m) (rng_one 10 (by decide) _)
      (fun S => (∃ b2 b3 b4 b5 b6 b7, S.loc = [some (.ro (ns.map D.int)), some (.ref n), b2, b3, b4, b5, b6, b7]) ∧ Deck S.h n m) ⟨⟨_, _, _, _, _, _, rfl⟩, D1⟩ (by
        rintro d hd ⟨loc, h⟩ ⟨⟨b2, b3, b4, b5, b6, b7, rfl⟩, D2⟩
        obtain ⟨i, rfl, _, _⟩ := mem_rgD hd
        refine ⟨_, rfl, ?_⟩
        obtain ⟨f, S2, q2, rfl, ⟨c3, c4, c5, c6, c7, l⟩, D3⟩ := (bodyO_ok (t := i) (a0 := some (.ro (ns.map D.int))) (a3 := b3) (a4 := b4) (a5 := b5) (a6 := b6) (a7 := b7) D2).ex
        dsimp only [gN, List.set]
        rw [q2]
        exact ⟨.inl rfl, ⟨_, _, _, _, _, _, l⟩, D3⟩) (by
        rintro S ⟨l, D⟩
        exact ⟨rfl, l, D⟩)
    obtain ⟨f, S, q, rfl, ⟨b2, b3, b4, b5, b6, b7, l⟩, D2⟩ := loop.ex
    have q2 : sFor (dRng (dCons (dC (.int 10)) dNil)) (gN 2) bodyO ⟨[some (.ro (ns.map D.int)), some (.ref n), none, none, none, none, none, none], S1.h⟩ = .ok .next S := by
      generalize sFor (dRng (dCons (dC (.int 10)) dNil)) (gN 2) bodyO ⟨[some (.ro (ns.map D.int)), some (.ref n), none, none, none, none, none, none], S1.h⟩ = r at q
      cases r with
      | ok f2 S2 => rw [Res.bind_ok] at q; exact q
      | exc u S2 => cases q
      | stuck => cases q
    rw [q2]
    exact ⟨rfl, by simp⟩
  obtain ⟨d, S, q, rfl⟩ := go.ex
  exact ⟨S, q⟩
end K05

namespace K05
open PySem L2 PySem.Spec PyProof.Rows Den
/-! ### C. the text by places -/
def top (i : Nat) : Stmt := PySem.Challenge.pw_stillrounds_k05_whole_spoilt_texts_of_bo.main.body.getD i (.Pass ⟨0, 0, 0, 0⟩)
abbrev s_is_integer : Stmt := top 6
abbrev s_is_many : Stmt := top 7
abbrev s_is_ascending : Stmt := top 8
abbrev s_is_notes : Stmt := top 12
abbrev s_tests_error : Stmt := top 13
abbrev s_tests_of : Stmt := top 19
abbrev s_manner_of : Stmt := top 20
abbrev s_manners_of : Stmt := top 21
abbrev s_read_book : Stmt := top 22
abbrev s_law_deck : Stmt := top 24
abbrev s_law_draw : Stmt := top 25
abbrev s_law_pick : Stmt := top 26
abbrev s_law_tests : Stmt := top 27
abbrev s_law_words : Stmt := top 28
abbrev s_law_manner : Stmt := top 29
abbrev s_law_book : Stmt := top 30
abbrev s_law_text : Stmt := top 31
abbrev s_law_picked : Stmt := top 32
abbrev s_law_tests_in : Stmt := top 33
abbrev s_law_manner_in : Stmt := top 34
abbrev s_law_due : Stmt := top 35
abbrev s_law_heard : Stmt := top 36
abbrev s_law_spoilt : Stmt := top 37
abbrev s_law : Stmt := top 38
abbrev s_init_BadBook : Stmt := inClass (top 2) 0
abbrev s_init_BadText : Stmt := inClass (top 3) 0
/-! ### D. what is known of the module -/
structure Txt (w : World) (K : PySem.W.Frag) (mg : Str → Option Value) (cm : Str → Value) where
  a_is_integer : Addr
  fd_is_integer : FuncData
  F_is_integer : Fun K "is_integer" "is_integer" s_is_integer a_is_integer fd_is_integer
  m_is_integer : mg "is_integer" = some (.ref a_is_integer)
  a_is_many : Addr
  fd_is_many : FuncData
  F_is_many : Fun K "is_many" "is_many" s_is_many a_is_many fd_is_many
  m_is_many : mg "is_many" = some (.ref a_is_many)
  a_is_ascending : Addr
  fd_is_ascending : FuncData
  F_is_ascending : Fun K "is_ascending" "is_ascending" s_is_ascending a_is_ascending fd_is_ascending
  m_is_ascending : mg "is_ascending" = some (.ref a_is_ascending)
  a_is_notes : Addr
  fd_is_notes : FuncData
  F_is_notes : Fun K "is_notes" "is_notes" s_is_notes a_is_notes fd_is_notes
  m_is_notes : mg "is_notes" = some (.ref a_is_notes)
  a_tests_error : Addr
  fd_tests_error : FuncData
  F_tests_error : Fun K "tests_error" "tests_error" s_tests_error a_tests_error fd_tests_error
  m_tests_error : mg "tests_error" = some (.ref a_tests_error)
  a_tests_of : Addr
  fd_tests_of : FuncData
  F_tests_of : Fun K "tests_of" "tests_of" s_tests_of a_tests_of fd_tests_of
  m_tests_of : mg "tests_of" = some (.ref a_tests_of)
  a_manner_of : Addr
  fd_manner_of : FuncData
  F_manner_of : Fun K "manner_of" "manner_of" s_manner_of a_manner_of fd_manner_of
  m_manner_of : mg "manner_of" = some (.ref a_manner_of)
  a_manners_of : Addr
  fd_manners_of : FuncData
  F_manners_of : Fun K "manners_of" "manners_of" s_manners_of a_manners_of fd_manners_of
  m_manners_of : mg "manners_of" = some (.ref a_manners_of)
  a_read_book : Addr
  fd_read_book : FuncData
  F_read_book : Fun K "read_book" "read_book" s_read_book a_read_book fd_read_book
  m_read_book : mg "read_book" = some (.ref a_read_book)
  a_law_deck : Addr
  fd_law_deck : FuncData
  F_law_deck : Fun K "_law_deck" "_law_deck" s_law_deck a_law_deck fd_law_deck
  m_law_deck : mg "_law_deck" = some (.ref a_law_deck)
  a_law_draw : Addr
  fd_law_draw : FuncData
  F_law_draw : Fun K "_law_draw" "_law_draw" s_law_draw a_law_draw fd_law_draw
  m_law_draw : mg "_law_draw" = some (.ref a_law_draw)
  a_law_pick : Addr
  fd_law_pick : FuncData
  F_law_pick : Fun K "_law_pick" "_law_pick" s_law_pick a_law_pick fd_law_pick
  m_law_pick : mg "_law_pick" = some (.ref a_law_pick)
  a_law_tests : Addr
  fd_law_tests : FuncData
  F_law_tests : Fun K "_law_tests" "_law_tests" s_law_tests a_law_tests fd_law_tests
  m_law_tests : mg "_law_tests" = some (.ref a_law_tests)
  a_law_words : Addr
  fd_law_words : FuncData
  F_law_words : Fun K "_law_words" "_law_words" s_law_words a_law_words fd_law_words
  m_law_words : mg "_law_words" = some (.ref a_law_words)
  a_law_manner : Addr
  fd_law_manner : FuncData
  F_law_manner : Fun K "_law_manner" "_law_manner" s_law_manner a_law_manner fd_law_manner
  m_law_manner : mg "_law_manner" = some (.ref a_law_manner)
  a_law_book : Addr
  fd_law_book : FuncData
  F_law_book : Fun K "_law_book" "_law_book" s_law_book a_law_book fd_law_book
  m_law_book : mg "_law_book" = some (.ref a_law_book)
  a_law_text : Addr
  fd_law_text : FuncData
  F_law_text : Fun K "_law_text" "_law_text" s_law_text a_law_text fd_law_text
  m_law_text : mg "_law_text" = some (.ref a_law_text)
  a_law_picked : Addr
  fd_law_picked : FuncData
  F_law_picked : Fun K "_law_picked" "_law_picked" s_law_picked a_law_picked fd_law_picked
  m_law_picked : mg "_law_picked" = some (.ref a_law_picked)
  a_law_tests_in : Addr
  fd_law_tests_in : FuncData
  F_law_tests_in : Fun K "_law_tests_in" "_law_tests_in" s_law_tests_in a_law_tests_in fd_law_tests_in
  m_law_tests_in : mg "_law_tests_in" = some (.ref a_law_tests_in)
  a_law_manner_in : Addr
  fd_law_manner_in : FuncData
  F_law_manner_in : Fun K "_law_manner_in" "_law_manner_in" s_law_manner_in a_law_manner_in fd_law_manner_in
  m_law_manner_in : mg "_law_manner_in" = some (.ref a_law_manner_in)
  a_law_due : Addr
  fd_law_due : FuncData
  F_law_due : Fun K "_law_due" "_law_due" s_law_due a_law_due fd_law_due
  m_law_due : mg "_law_due" = some (.ref a_law_due)
  a_law_heard : Addr
  fd_law_heard : FuncData
  F_law_heard : Fun K "_law_heard" "_law_heard" s_law_heard a_law_heard fd_law_heard
  m_law_heard : mg "_law_heard" = some (.ref a_law_heard)
  a_law_spoilt : Addr
  fd_law_spoilt : FuncData
  F_law_spoilt : Fun K "_law_spoilt" "_law_spoilt" s_law_spoilt a_law_spoilt fd_law_spoilt
  m_law_spoilt : mg "_law_spoilt" = some (.ref a_law_spoilt)
  a_law : Addr
  fd_law : FuncData
  F_law : Fun K "law" "law" s_law a_law fd_law
  m_law : mg "law" = some (.ref a_law)
  z_abs : mg "abs" = none
  z_all : mg "all" = none
  z_bool : mg "bool" = none
  z_enumerate : mg "enumerate" = none
  z_int : mg "int" = none
  z_isinstance : mg "isinstance" = none
  z_len : mg "len" = none
  z_range : mg "range" = none
  z_repr : mg "repr" = none
  z_str : mg "str" = none
  z_tuple : mg "tuple" = none
  z_zip : mg "zip" = none
  u_ANY_TIME : Value
  v_ANY_TIME : V
  rv_ANY_TIME : RelV v_ANY_TIME u_ANY_TIME
  m_ANY_TIME : mg "ANY_TIME" = some u_ANY_TIME
  r_ANY_TIME : ∀ L H, Rep K cm L H g_ANY_TIME v_ANY_TIME
  u_MAX_MACHINES : Value
  v_MAX_MACHINES : V
  rv_MAX_MACHINES : RelV v_MAX_MACHINES u_MAX_MACHINES
  m_MAX_MACHINES : mg "MAX_MACHINES" = some u_MAX_MACHINES
  r_MAX_MACHINES : ∀ L H, Rep K cm L H g_MAX_MACHINES v_MAX_MACHINES
  a_NOTES : Addr
  m_NOTES : mg "NOTES" = some (.ref a_NOTES)
  r_NOTES : ∀ L H, Rep K cm L H g_NOTES (.ref a_NOTES)
  u_NO_TESTS : Value
  v_NO_TESTS : V
  rv_NO_TESTS : RelV v_NO_TESTS u_NO_TESTS
  m_NO_TESTS : mg "NO_TESTS" = some u_NO_TESTS
  r_NO_TESTS : ∀ L H, Rep K cm L H g_NO_TESTS v_NO_TESTS
  a_TESTS : Addr
  m_TESTS : mg "TESTS" = some (.ref a_TESTS)
  r_TESTS : ∀ L H, Rep K cm L H g_TESTS (.ref a_TESTS)
  u_TESTS_HEAD : Value
  v_TESTS_HEAD : V
  rv_TESTS_HEAD : RelV v_TESTS_HEAD u_TESTS_HEAD
  m_TESTS_HEAD : mg "TESTS_HEAD" = some u_TESTS_HEAD
  r_TESTS_HEAD : ∀ L H, Rep K cm L H g_TESTS_HEAD v_TESTS_HEAD
  u_WAITS : Value
  v_WAITS : V
  rv_WAITS : RelV v_WAITS u_WAITS
  m_WAITS : mg "WAITS" = some u_WAITS
  r_WAITS : ∀ L H, Rep K cm L H g_WAITS v_WAITS
  a_BadBook : Addr
  m_BadBook : mg "BadBook" = some (.ref a_BadBook)
  a_BadText : Addr
  m_BadText : mg "BadText" = some (.ref a_BadText)
  a_StillError : Addr
  m_StillError : mg "StillError" = some (.ref a_StillError)
  cm_BadBook : cm "BadBook" = .ref a_BadBook
  su_BadBook : ∀ m r, sub_BadBook m = some r → PySem.W.exmOne K (cm m) (.ref a_BadBook) = some r
  ic_BadBook : IsC K a_BadBook
  fI_BadBook : Addr
  fdI_BadBook : FuncData
  FI_BadBook : Fun K "__init__" "BadBook.__init__" s_init_BadBook fI_BadBook fdI_BadBook
  ox_BadBook : OexC K a_BadBook
  no_BadBook : PySem.W.findIn K (.ref a_BadBook) "error" = some none
  in_BadBook : PySem.W.findIn K (.ref a_BadBook) "__init__" = some (some (.ref fI_BadBook))
  it_BadBook : PySem.W.typeIn K (.ref fI_BadBook) = some (.type "function")
  xf_BadBook : XfC K a_BadBook
  cm_BadText : cm "BadText" = .ref a_BadText
  su_BadText : ∀ m r, sub_BadText m = some r → PySem.W.exmOne K (cm m) (.ref a_BadText) = some r
  ic_BadText : IsC K a_BadText
  fI_BadText : Addr
  fdI_BadText : FuncData
  FI_BadText : Fun K "__init__" "BadText.__init__" s_init_BadText fI_BadText fdI_BadText
  ox_BadText : OexC K a_BadText
  no_BadText : PySem.W.findIn K (.ref a_BadText) "line" = some none
  in_BadText : PySem.W.findIn K (.ref a_BadText) "__init__" = some (some (.ref fI_BadText))
  it_BadText : PySem.W.typeIn K (.ref fI_BadText) = some (.type "function")
  xf_BadText : XfC K a_BadText
  kit_BadBook_StillError : PySem.W.kitOne K (.ref a_BadBook) (.ref a_StillError) = some true
  kit_BadText_StillError : PySem.W.kitOne K (.ref a_BadText) (.ref a_StillError) = some true
section
variable {P : Program} {w : World} {K : PySem.W.Frag} {mg : Str → Option Value} {base : Heap} {cm : Str → Value}
theorem pick_len_1_0 (l : List D) (h : l.length = 1) : (pick [0] l).length = 1 := match l, h with | [a], _ => rfl
theorem sc_init_BadBook : FnScope ["self", "error"] ["self", "error"] (defScope s_init_BadBook) := ⟨rfl, rfl, rfl, by decide +kernel, rfl, by decide +kernel, by decide +kernel⟩
theorem bd_init_BadBook (T : Txt w K mg cm) : Binds K T.fdI_BadBook ["self", "error"] [] := T.FI_BadBook.binds fun _ _ _ _ _ _ us hl => match us, hl with | [_, _], _ => rfl
theorem ok_init_BadBook (T : Txt w K mg cm) : FnOk P w K mg base (L2.CX P w) 1 T.fI_BadBook T.fdI_BadBook ["self", "error"] (spI K T.a_BadBook "error") := T.FI_BadBook.okX sc_init_BadBook spI_len fun cdv A outer s H vs Q E hr h => by
  obtain ⟨a, v, rfl, T1, hno, ea, q⟩ := h
  exact ⟨_, pss_one (ps_ost (pv 0) (pv 1)), v, rfl, .ref a, rfl, a, _, rfl, T1, hno, .inl ⟨ea, q⟩⟩
theorem sc_init_BadText : FnScope ["self", "line"] ["self", "line"] (defScope s_init_BadText) := ⟨rfl, rfl, rfl, by decide +kernel, rfl, by decide +kernel, by decide +kernel⟩
theorem bd_init_BadText (T : Txt w K mg cm) : Binds K T.fdI_BadText ["self", "line"] [] := T.FI_BadText.binds fun _ _ _ _ _ _ us hl => match us, hl with | [_, _], _ => rfl
theorem ok_init_BadText (T : Txt w K mg cm) : FnOk P w K mg base (L2.CX P w) 1 T.fI_BadText T.fdI_BadText ["self", "line"] (spI K T.a_BadText "line") := T.FI_BadText.okX sc_init_BadText spI_len fun cdv A outer s H vs Q E hr h => by
  obtain ⟨a, v, rfl, T1, hno, ea, q⟩ := h
  exact ⟨_, pss_one (ps_ost (pv 0) (pv 1)), v, rfl, .ref a, rfl, a, _, rfl, T1, hno, .inl ⟨ea, q⟩⟩
theorem sc_is_integer : FnScope ["value"] ["value"] (defScope s_is_integer) := ⟨rfl, rfl, rfl, by decide +kernel, rfl, by decide +kernel, by decide +kernel⟩
theorem bd_is_integer (T : Txt w K mg cm) : Binds K T.fd_is_integer ["value"] [] := T.F_is_integer.binds fun _ _ _ _ _ _ us hl => match us, hl with | [_], _ => rfl
theorem ok_is_integer (T : Txt w K mg cm) : FnG P w K mg base 1 T.a_is_integer T.fd_is_integer ["value"] (spD K cm 1 F_is_integer) := FnG.of T.F_is_integer sc_is_integer fun cdv A fr s H E hr hg =>
  (ss_one (s_ret (e_and (e_cb call_isi co_isi (by rfl) T.z_isinstance rfl (a_cons (e_var 0) (a_cons (e_ty (by rfl) T.z_int rfl) a_nil))) (e_and1 (e_not (e_cb call_isi co_isi (by rfl) T.z_isinstance rfl (a_cons (e_var 0) (a_cons (e_ty (by rfl) T.z_bool rfl) a_nil))))))))
theorem sc_is_many : FnScope ["value"] ["value"] (defScope s_is_many) := ⟨rfl, rfl, rfl, by decide +kernel, rfl, by decide +kernel, by decide +kernel⟩
theorem bd_is_many (T : Txt w K mg cm) : Binds K T.fd_is_many ["value"] [] := T.F_is_many.binds fun _ _ _ _ _ _ us hl => match us, hl with | [_], _ => rfl
theorem ok_is_many (T : Txt w K mg cm) : FnG P w K mg base 2 T.a_is_many T.fd_is_many ["value"] (spD K cm 1 F_is_many) := FnG.of T.F_is_many sc_is_many fun cdv A fr s H E hr hg =>
  (ss_one (s_ret (e_and (e_call (ok_is_integer T) (hr.mono (by decide)) hg (takes_of rfl rfl rfl rfl) (by rfl) T.m_is_integer T.F_is_integer.kp (bd_is_integer T) (a_cons (e_var 0) a_nil) (cnt_cons cnt_nil)) (e_and1 (e_chain op_le op_le ro_le ro_le e_int (e_var 0) (e_glob (v := T.v_MAX_MACHINES) (by rfl) T.m_MAX_MACHINES T.rv_MAX_MACHINES T.r_MAX_MACHINES))))))
theorem sc_is_ascending : FnScope ["items", "low", "high"] ["items"] (defScope s_is_ascending) := ⟨rfl, rfl, rfl, by decide +kernel, rfl, by decide +kernel, by decide +kernel⟩
theorem bd_is_ascending (T : Txt w K mg cm) : Binds K T.fd_is_ascending ["items"] [] := T.F_is_ascending.binds fun _ _ _ _ _ _ us hl => match us, hl with | [_], _ => rfl
theorem ok_is_ascending (T : Txt w K mg cm) : FnG P w K mg base 1 T.a_is_ascending T.fd_is_ascending ["items"] (spD K cm 1 F_is_ascending) := FnG.of T.F_is_ascending sc_is_ascending fun cdv A fr s H E hr hg =>
  (ss_one (s_ret (e_cb (cr_all rfl) co_all (by rfl) T.z_all rfl (a_cons (e_comp rfl sc_is_ascending.nd (i_zip (by rfl) T.z_zip (a_cons (e_var 0) (a_cons (e_slice (e_var 0) (p_some e_int) p_none) a_nil))) (own := [("low", 1), ("high", 2)]) (blkOk_by (by kernel_rfl)) (tg_two 1 2 (by decide)) (fun _ _ _ _ _ => (pg_tup rfl (pgs_cons (pg_name (i := 1) sc_is_ascending.nd rfl (by first | exact Or.inl rfl | exact Or.inr rfl)) (pgs_cons (pg_name (i := 2) sc_is_ascending.nd rfl (by first | exact Or.inl rfl | exact Or.inr rfl)) pgs_nil)) rfl rfl)) (fun _ _ _ _ _ => ts_nil) (fun _ _ _ _ _ => (c_ltA hr (e_var 1) (e_var 2)))) a_nil))))
theorem sc_is_notes : FnScope ["value", "word"] ["value"] (defScope s_is_notes) := ⟨rfl, rfl, rfl, by decide +kernel, rfl, by decide +kernel, by decide +kernel⟩
theorem bd_is_notes (T : Txt w K mg cm) : Binds K T.fd_is_notes ["value"] [] := T.F_is_notes.binds fun _ _ _ _ _ _ us hl => match us, hl with | [_], _ => rfl
theorem ok_is_notes (T : Txt w K mg cm) : FnG P w K mg base 2 T.a_is_notes T.fd_is_notes ["value"] (spD K cm 1 F_is_notes) := FnG.of T.F_is_notes sc_is_notes fun cdv A fr s H E hr hg =>
  (ss_cons (s_if (t_not (t_tr (e_cb call_isi co_isi (by rfl) T.z_isinstance rfl (a_cons (e_var 0) (a_cons (e_ty (by rfl) T.z_tuple rfl) a_nil))))) (ss_one (s_ret e_bl)) ss_nil)
    (ss_one (s_ret (e_and (e_cb (cr_all rfl) co_all (by rfl) T.z_all rfl (a_cons (e_comp rfl sc_is_notes.nd (i_any (e_var 0)) (own := [("word", 1)]) (blkOk_by (by kernel_rfl)) (tg_one 1) (fun _ _ _ _ _ => (pg_name (i := 1) sc_is_notes.nd rfl (by first | exact Or.inl rfl | exact Or.inr rfl))) (fun _ _ _ _ _ => ts_nil) (fun _ _ _ _ _ => (c_in hr (e_var 1) (e_glob (v := (.ref T.a_NOTES)) (by rfl) T.m_NOTES rfl T.r_NOTES)))) a_nil)) (e_and1 (e_call (ok_is_ascending T) (hr.mono (by decide)) hg (takes_of rfl rfl rfl rfl) (by rfl) T.m_is_ascending T.F_is_ascending.kp (bd_is_ascending T) (a_cons (e_var 0) a_nil) (cnt_cons cnt_nil)))))))
theorem sc_tests_error : FnScope ["tests", "k", "test"] ["tests"] (defScope s_tests_error) := ⟨rfl, rfl, rfl, by decide +kernel, rfl, by decide +kernel, by decide +kernel⟩
theorem bd_tests_error (T : Txt w K mg cm) : Binds K T.fd_tests_error ["tests"] [] := T.F_tests_error.binds fun _ _ _ _ _ _ us hl => match us, hl with | [_], _ => rfl
theorem ok_tests_error (T : Txt w K mg cm) : FnG P w K mg base 2 T.a_tests_error T.fd_tests_error ["tests"] (spD K cm 1 F_tests_error) := FnG.of T.F_tests_error sc_tests_error fun cdv A fr s H E hr hg =>
  (ss_cons (s_for (passes_of rfl) rfl (i_enumT (by rfl) T.z_enumerate (a_cons (e_var 0) a_nil)) (g_tup rfl (gs_cons (g_name (i := 1) sc_tests_error.nd rfl (by first | exact Or.inl rfl | exact Or.inr rfl)) (gs_cons (g_name (i := 2) sc_tests_error.nd rfl (by first | exact Or.inl rfl | exact Or.inr rfl)) gs_nil))) (ss_one (s_if (t_nin hr (e_var 2) (e_glob (v := (.ref T.a_TESTS)) (by rfl) T.m_TESTS rfl T.r_TESTS)) (ss_one (s_ret (e_tup (a_cons e_str (a_cons (e_var 1) a_nil))))) ss_nil)))
    (ss_one (s_ret (e_if (t_tr (e_call (ok_is_ascending T) (hr.mono (by decide)) hg (takes_of rfl rfl rfl rfl) (by rfl) T.m_is_ascending T.F_is_ascending.kp (bd_is_ascending T) (a_cons (e_var 0) a_nil) (cnt_cons cnt_nil))) e_non e_str))))
theorem sc_tests_of : FnScope ["line", "tests", "told"] ["line"] (defScope s_tests_of) := ⟨rfl, rfl, rfl, by decide +kernel, rfl, by decide +kernel, by decide +kernel⟩
theorem bd_tests_of (T : Txt w K mg cm) : Binds K T.fd_tests_of ["line"] [] := T.F_tests_of.binds fun _ _ _ _ _ _ us hl => match us, hl with | [_], _ => rfl
theorem ok_tests_of (T : Txt w K mg cm) : FnG P w K mg base 3 T.a_tests_of T.fd_tests_of ["line"] (spD K cm 1 F_tests_of) := FnG.of T.F_tests_of sc_tests_of fun cdv A fr s H E hr hg =>
  (ss_cons (s_if (t_eq hr (e_var 0) (e_glob (v := T.v_NO_TESTS) (by rfl) T.m_NO_TESTS T.rv_NO_TESTS T.r_NO_TESTS)) (ss_one (s_ret (e_tup a_nil))) ss_nil)
    (ss_cons (s_if (t_not (t_tr (e_mtS PySem.F.slot_str_startswith PySem.F.type_str_startswith mt_startswith mo_starts (e_var 0) (e_glob (v := T.v_TESTS_HEAD) (by rfl) T.m_TESTS_HEAD T.rv_TESTS_HEAD T.r_TESTS_HEAD)))) (ss_one (s_ret e_non)) ss_nil)
    (ss_cons (s_set (i := 1) sc_tests_of.nd rfl (by first | exact Or.inl rfl | exact Or.inr rfl) (e_ct call_tuple_of co_tuple (by rfl) T.z_tuple rfl (a_cons (e_comp rfl sc_tests_of.nd (i_any (e_mtS PySem.F.slot_str_split PySem.F.type_str_split mt_split mo_split (e_slice (e_var 0) (p_some (e_cb call_len_any co_len (by rfl) T.z_len rfl (a_cons (e_glob (v := T.v_TESTS_HEAD) (by rfl) T.m_TESTS_HEAD T.rv_TESTS_HEAD T.r_TESTS_HEAD) a_nil))) p_none) e_str)) (own := [("told", 2)]) (blkOk_by (by kernel_rfl)) (tg_one 2) (fun _ _ _ _ _ => (pg_name (i := 2) sc_tests_of.nd rfl (by first | exact Or.inl rfl | exact Or.inr rfl))) (fun _ _ _ _ _ => ts_nil) (fun _ _ _ _ _ => (e_ct call_tuple_of co_tuple (by rfl) T.z_tuple rfl (a_cons (e_mtS PySem.F.slot_str_split PySem.F.type_str_split mt_split mo_split (e_var 2) e_str) a_nil)))) a_nil)))
    (ss_one (s_ret (e_if (t_is (e_call (ok_tests_error T) (hr.mono (by decide)) hg (takes_of rfl rfl rfl rfl) (by rfl) T.m_tests_error T.F_tests_error.kp (bd_tests_error T) (a_cons (e_var 1) a_nil) (cnt_cons cnt_nil)) e_non) (e_var 1) e_non))))))
theorem sc_manner_of : FnScope ["line", "notes", "head", "colon", "told"] ["line"] (defScope s_manner_of) := ⟨rfl, rfl, rfl, by decide +kernel, rfl, by decide +kernel, by decide +kernel⟩
theorem bd_manner_of (T : Txt w K mg cm) : Binds K T.fd_manner_of ["line"] [] := T.F_manner_of.binds fun _ _ _ _ _ _ us hl => match us, hl with | [_], _ => rfl
theorem ok_manner_of (T : Txt w K mg cm) : FnG P w K mg base 3 T.a_manner_of T.fd_manner_of ["line"] (spD K cm 1 F_manner_of) := FnG.of T.F_manner_of sc_manner_of fun cdv A fr s H E hr hg =>
  (ss_cons (s_asg (e_mtS PySem.F.slot_str_partition PySem.F.type_str_partition mt_partition mo_part (e_var 0) e_str) (g_tup rfl (gs_cons (g_name (i := 2) sc_manner_of.nd rfl (by first | exact Or.inl rfl | exact Or.inr rfl)) (gs_cons (g_name (i := 3) sc_manner_of.nd rfl (by first | exact Or.inl rfl | exact Or.inr rfl)) (gs_cons (g_name (i := 4) sc_manner_of.nd rfl (by first | exact Or.inl rfl | exact Or.inr rfl)) gs_nil)))))
    (ss_cons (s_set (i := 1) sc_manner_of.nd rfl (by first | exact Or.inl rfl | exact Or.inr rfl) (e_if (t_tr (e_var 3)) (e_ct call_tuple_of co_tuple (by rfl) T.z_tuple rfl (a_cons (e_mtS PySem.F.slot_str_split PySem.F.type_str_split mt_split mo_split (e_var 4) e_str) a_nil)) (e_tup a_nil)))
    (ss_cons (s_if ((w_or (t_nin hr (e_var 2) (e_tup (a_cons (e_glob (v := T.v_WAITS) (by rfl) T.m_WAITS T.rv_WAITS T.r_WAITS) (a_cons (e_glob (v := T.v_ANY_TIME) (by rfl) T.m_ANY_TIME T.rv_ANY_TIME T.r_ANY_TIME) a_nil)))) (w_or1 (t_not (t_tr (e_call (ok_is_notes T) (hr.mono (by decide)) hg (takes_of rfl rfl rfl rfl) (by rfl) T.m_is_notes T.F_is_notes.kp (bd_is_notes T) (a_cons (e_var 1) a_nil) (cnt_cons cnt_nil))))))).pt (ss_one (s_ret e_non)) ss_nil)
    (ss_one (s_ret (e_tup (a_cons (c_eq hr (e_var 2) (e_glob (v := T.v_WAITS) (by rfl) T.m_WAITS T.rv_WAITS T.r_WAITS)) (a_cons (e_var 1) a_nil))))))))
theorem sc_manners_of : FnScope ["lines", "manners", "number", "line", "manner"] ["lines"] (defScope s_manners_of) := ⟨rfl, rfl, rfl, by decide +kernel, rfl, by decide +kernel, by decide +kernel⟩
theorem bd_manners_of (T : Txt w K mg cm) : Binds K T.fd_manners_of ["lines"] [] := T.F_manners_of.binds fun _ _ _ _ _ _ us hl => match us, hl with | [_], _ => rfl
theorem ok_manners_of (T : Txt w K mg cm) : FnG P w K mg base 4 T.a_manners_of T.fd_manners_of ["lines"] (spD K cm 1 F_manners_of) := FnG.of T.F_manners_of sc_manners_of fun cdv A fr s H E hr hg =>
  (ss_cons (s_set (i := 1) sc_manners_of.nd rfl (by first | exact Or.inl rfl | exact Or.inr rfl) (e_lst a_nil))
    (ss_cons (s_for (passes_of rfl) rfl (i_enumS (by rfl) T.z_enumerate (a_cons (e_var 0) a_nil) (k_cons e_int k_nil)) (g_tup rfl (gs_cons (g_name (i := 2) sc_manners_of.nd rfl (by first | exact Or.inl rfl | exact Or.inr rfl)) (gs_cons (g_name (i := 3) sc_manners_of.nd rfl (by first | exact Or.inl rfl | exact Or.inr rfl)) gs_nil))) (ss_cons (s_set (i := 4) sc_manners_of.nd rfl (by first | exact Or.inl rfl | exact Or.inr rfl) (e_call (ok_manner_of T) (hr.mono (by decide)) hg (takes_of rfl rfl rfl rfl) (by rfl) T.m_manner_of T.F_manner_of.kp (bd_manner_of T) (a_cons (e_var 3) a_nil) (cnt_cons cnt_nil)))
    (ss_cons (s_if (t_is (e_var 4) e_non) (ss_one (s_raise1 rfl (takes_of rfl rfl rfl rfl) T.ox_BadText T.no_BadText T.cm_BadText T.in_BadText T.it_BadText (ok_init_BadText T) (hr.mono (by decide)) (bd_init_BadText T) (by rfl) T.m_BadText (a_cons (e_var 2) a_nil))) ss_nil)
    (ss_one (s_expr (e_mtL PySem.F.plainAttrs_list PySem.F.slot_list_append PySem.F.type_list_append mt_append mo_append (e_var 1) (a_cons (e_var 4) a_nil)))))))
    (ss_one (s_ret (e_ct call_tuple_of co_tuple (by rfl) T.z_tuple rfl (a_cons (e_var 1) a_nil))))))
theorem sc_read_book : FnScope ["value", "lines", "tests", "manners"] ["value"] (defScope s_read_book) := ⟨rfl, rfl, rfl, by decide +kernel, rfl, by decide +kernel, by decide +kernel⟩
theorem bd_read_book (T : Txt w K mg cm) : Binds K T.fd_read_book ["value"] [] := T.F_read_book.binds fun _ _ _ _ _ _ us hl => match us, hl with | [_], _ => rfl
theorem kb_read_book_0_value (T : Txt w K mg cm) : KB T.fd_read_book ["value"] 0 ["value"] [0] := kb_of T.F_read_book fun _ _ _ _ _ _ us ws h1 h2 => match us, ws, h1, h2 with | [], [_], _, _ => rfl
theorem ok_read_book (T : Txt w K mg cm) : FnG P w K mg base 5 T.a_read_book T.fd_read_book ["value"] (spD K cm 1 F_read_book) := FnG.of T.F_read_book sc_read_book fun cdv A fr s H E hr hg =>
  (ss_cons (s_if (t_not (t_tr (e_cb call_isi co_isi (by rfl) T.z_isinstance rfl (a_cons (e_var 0) (a_cons (e_ty (by rfl) T.z_str rfl) a_nil))))) (ss_one (s_raise1 rfl (takes_of rfl rfl rfl rfl) T.ox_BadText T.no_BadText T.cm_BadText T.in_BadText T.it_BadText (ok_init_BadText T) (hr.mono (by decide)) (bd_init_BadText T) (by rfl) T.m_BadText (a_cons e_int a_nil))) ss_nil)
    (ss_cons (s_set (i := 1) sc_read_book.nd rfl (by first | exact Or.inl rfl | exact Or.inr rfl) (e_mtS PySem.F.slot_str_split PySem.F.type_str_split mt_split mo_split (e_var 0) e_str))
    (ss_cons (s_set (i := 2) sc_read_book.nd rfl (by first | exact Or.inl rfl | exact Or.inr rfl) (e_call (ok_tests_of T) (hr.mono (by decide)) hg (takes_of rfl rfl rfl rfl) (by rfl) T.m_tests_of T.F_tests_of.kp (bd_tests_of T) (a_cons (e_ixR hr (e_var 1) e_int) a_nil) (cnt_cons cnt_nil)))
    (ss_cons (s_if (t_is (e_var 2) e_non) (ss_one (s_raise1 rfl (takes_of rfl rfl rfl rfl) T.ox_BadText T.no_BadText T.cm_BadText T.in_BadText T.it_BadText (ok_init_BadText T) (hr.mono (by decide)) (bd_init_BadText T) (by rfl) T.m_BadText (a_cons e_int a_nil))) ss_nil)
    (ss_cons (s_set (i := 3) sc_read_book.nd rfl (by first | exact Or.inl rfl | exact Or.inr rfl) (e_call (ok_manners_of T) (hr.mono (by decide)) hg (takes_of rfl rfl rfl rfl) (by rfl) T.m_manners_of T.F_manners_of.kp (bd_manners_of T) (a_cons (e_slice (e_var 1) (p_some e_int) p_none) a_nil) (cnt_cons cnt_nil)))
    (ss_cons (s_if (t_not (t_tr (e_call (ok_is_many T) (hr.mono (by decide)) hg (takes_of rfl rfl rfl rfl) (by rfl) T.m_is_many T.F_is_many.kp (bd_is_many T) (a_cons (e_cb call_len_any co_len (by rfl) T.z_len rfl (a_cons (e_var 3) a_nil)) a_nil) (cnt_cons cnt_nil)))) (ss_one (s_raise1 rfl (takes_of rfl rfl rfl rfl) T.ox_BadBook T.no_BadBook T.cm_BadBook T.in_BadBook T.it_BadBook (ok_init_BadBook T) (hr.mono (by decide)) (bd_init_BadBook T) (by rfl) T.m_BadBook (a_cons e_str a_nil))) ss_nil)
    (ss_one (s_ret (e_tup (a_cons (e_var 2) (a_cons (e_var 3) a_nil)))))))))))
theorem sc_law_deck : FnScope ["script", "deck", "cell", "whole", "state"] ["script"] (defScope s_law_deck) := ⟨rfl, rfl, rfl, by decide +kernel, rfl, by decide +kernel, by decide +kernel⟩
theorem bd_law_deck (T : Txt w K mg cm) : Binds K T.fd_law_deck ["script"] [] := T.F_law_deck.binds fun _ _ _ _ _ _ us hl => match us, hl with | [_], _ => rfl
theorem ok_law_deck (T : Txt w K mg cm) : FnG P w K mg base 1 T.a_law_deck T.fd_law_deck ["script"] (spD K cm 1 F_law_deck) := FnG.of T.F_law_deck sc_law_deck fun cdv A fr s H E hr hg =>
  (ss_cons (s_set (i := 1) sc_law_deck.nd rfl (by first | exact Or.inl rfl | exact Or.inr rfl) (e_dict (pps_cons e_str (e_lst a_nil) (pps_cons e_str (b_add e_int (e_cb call_len_any co_len (by rfl) T.z_len rfl (a_cons (e_slice (e_var 0) p_none (p_some e_int)) a_nil))) pps_nil))))
    (ss_cons (s_for (passes_of rfl) rfl (i_any (e_slice (e_var 0) p_none (p_some e_int))) (g_name (i := 2) sc_law_deck.nd rfl (by first | exact Or.inl rfl | exact Or.inr rfl)) (ss_cons (s_set (i := 3) sc_law_deck.nd rfl (by first | exact Or.inl rfl | exact Or.inr rfl) (e_cb call_abs co_abs (by rfl) T.z_abs rfl (a_cons (e_var 2) a_nil)))
    (ss_cons (s_if (t_ge (e_var 3) (b_pow e_int e_int)) (ss_one (s_put (hu1 hr) (b_add (e_lst (a_cons (e_var 3) a_nil)) (e_ixR hr (e_var 1) e_str)) (e_var 1) e_str)) ss_nil)
    (ss_cons (s_set (i := 4) sc_law_deck.nd rfl (by first | exact Or.inl rfl | exact Or.inr rfl) (b_add (b_mul (b_add (b_add (b_add (e_ixR hr (e_var 1) e_str) (b_mul e_int (e_var 3))) (e_ct call_intA co_intA (by rfl) T.z_int rfl (a_cons (c_lt (e_var 2) e_int) a_nil))) e_int) e_int) e_int))
    (ss_one (s_put (hu1 hr) (b_mod (e_ct call_intA co_intA (by rfl) T.z_int rfl (a_cons (e_var 4) a_nil)) e_int) (e_var 1) e_str))))))
    (ss_one (s_ret (e_var 1)))))
theorem sc_law_draw : FnScope ["deck", "many", "one", "two", "whole"] ["deck", "many"] (defScope s_law_draw) := ⟨rfl, rfl, rfl, by decide +kernel, rfl, by decide +kernel, by decide +kernel⟩
theorem bd_law_draw (T : Txt w K mg cm) : Binds K T.fd_law_draw ["deck", "many"] [] := T.F_law_draw.binds fun _ _ _ _ _ _ us hl => match us, hl with | [_, _], _ => rfl
theorem ok_law_draw (T : Txt w K mg cm) : FnG P w K mg base 1 T.a_law_draw T.fd_law_draw ["deck", "many"] (spD K cm 2 F_law_draw) := FnG.of T.F_law_draw sc_law_draw fun cdv A fr s H E hr hg =>
  (ss_cons (s_if (t_lt (e_var 1) e_int) (ss_one (s_ret e_int)) ss_nil)
    (ss_cons (s_if (t_ne hr (e_ixR hr (e_var 0) e_str) (e_lst a_nil)) (ss_cons (s_set (i := 4) sc_law_draw.nd rfl (by first | exact Or.inl rfl | exact Or.inr rfl) (e_mtL0 PySem.F.plainAttrs_list PySem.F.slot_list_pop PySem.F.type_list_pop mt_pop mo_pop (e_ixR hr (e_var 0) e_str)))
    (ss_cons (s_if (t_ge (e_var 4) (e_var 1)) (ss_one (s_expr (e_mtL PySem.F.plainAttrs_list PySem.F.slot_list_append PySem.F.type_list_append mt_append mo_append (e_ixR hr (e_var 0) e_str) (a_cons (b_div (e_var 4) (e_var 1)) a_nil)))) ss_nil)
    (ss_one (s_ret (b_mod (e_ct call_intA co_intA (by rfl) T.z_int rfl (a_cons (e_var 4) a_nil)) (e_var 1)))))) ss_nil)
    (ss_cons (s_set (i := 2) sc_law_draw.nd rfl (by first | exact Or.inl rfl | exact Or.inr rfl) (b_mod (e_ct call_intA co_intA (by rfl) T.z_int rfl (a_cons (b_add (b_mul (e_ixR hr (e_var 0) e_str) e_int) e_int) a_nil)) e_int))
    (ss_cons (s_put (hu1 hr) (e_var 2) (e_var 0) e_str)
    (ss_cons (s_set (i := 3) sc_law_draw.nd rfl (by first | exact Or.inl rfl | exact Or.inr rfl) (b_mod (e_ct call_intA co_intA (by rfl) T.z_int rfl (a_cons (b_add (b_add (b_mul (e_var 2) (e_var 2)) (b_mul e_int (e_var 2))) e_int) a_nil)) e_int))
    (ss_one (s_ret (b_mod (e_ct call_intA co_intA (by rfl) T.z_int rfl (a_cons (b_div (e_var 3) e_int) a_nil)) (e_var 1)))))))))
theorem sc_law_pick : FnScope ["deck", "items"] ["deck", "items"] (defScope s_law_pick) := ⟨rfl, rfl, rfl, by decide +kernel, rfl, by decide +kernel, by decide +kernel⟩
theorem bd_law_pick (T : Txt w K mg cm) : Binds K T.fd_law_pick ["deck", "items"] [] := T.F_law_pick.binds fun _ _ _ _ _ _ us hl => match us, hl with | [_, _], _ => rfl
theorem ok_law_pick (T : Txt w K mg cm) : FnG P w K mg base 2 T.a_law_pick T.fd_law_pick ["deck", "items"] (spD K cm 2 F_law_pick) := FnG.of T.F_law_pick sc_law_pick fun cdv A fr s H E hr hg =>
  (ss_one (s_ret (e_ixR hr (e_var 1) (e_call (ok_law_draw T) (hr.mono (by decide)) hg (takes_of rfl rfl rfl rfl) (by rfl) T.m_law_draw T.F_law_draw.kp (bd_law_draw T) (a_cons (e_var 0) (a_cons (e_cb call_len_any co_len (by rfl) T.z_len rfl (a_cons (e_var 1) a_nil)) a_nil)) (cnt_cons (cnt_cons cnt_nil))))))
theorem sc_law_tests : FnScope [] [] (defScope s_law_tests) := ⟨rfl, rfl, rfl, by decide +kernel, rfl, by decide +kernel, by decide +kernel⟩
theorem bd_law_tests (T : Txt w K mg cm) : Binds K T.fd_law_tests [] [] := T.F_law_tests.binds fun _ _ _ _ _ _ us hl => match us, hl with | [], _ => rfl
theorem ok_law_tests (T : Txt w K mg cm) : FnG P w K mg base 1 T.a_law_tests T.fd_law_tests [] (spD K cm 0 F_law_tests) := FnG.of T.F_law_tests sc_law_tests fun cdv A fr s H E hr hg =>
  (ss_one (s_ret (e_lst (a_cons (e_tup (a_cons e_str (a_cons e_str a_nil))) (a_cons (e_tup (a_cons e_str (a_cons e_str a_nil))) (a_cons (e_tup (a_cons e_str (a_cons e_str a_nil))) (a_cons (e_tup (a_cons e_str (a_cons e_str a_nil))) (a_cons (e_tup (a_cons e_str (a_cons e_str a_nil))) (a_cons (e_tup (a_cons e_str (a_cons e_str a_nil))) a_nil)))))))))
theorem sc_law_words : FnScope [] [] (defScope s_law_words) := ⟨rfl, rfl, rfl, by decide +kernel, rfl, by decide +kernel, by decide +kernel⟩
theorem bd_law_words (T : Txt w K mg cm) : Binds K T.fd_law_words [] [] := T.F_law_words.binds fun _ _ _ _ _ _ us hl => match us, hl with | [], _ => rfl
theorem ok_law_words (T : Txt w K mg cm) : FnG P w K mg base 1 T.a_law_words T.fd_law_words [] (spD K cm 0 F_law_words) := FnG.of T.F_law_words sc_law_words fun cdv A fr s H E hr hg =>
  (ss_one (s_ret (e_lst (a_cons e_str (a_cons e_str (a_cons e_str (a_cons e_str a_nil)))))))
theorem sc_law_manner : FnScope ["deck", "notes", "word"] ["deck"] (defScope s_law_manner) := ⟨rfl, rfl, rfl, by decide +kernel, rfl, by decide +kernel, by decide +kernel⟩
theorem bd_law_manner (T : Txt w K mg cm) : Binds K T.fd_law_manner ["deck"] [] := T.F_law_manner.binds fun _ _ _ _ _ _ us hl => match us, hl with | [_], _ => rfl
theorem ok_law_manner (T : Txt w K mg cm) : FnG P w K mg base 2 T.a_law_manner T.fd_law_manner ["deck"] (spD K cm 1 F_law_manner) := FnG.of T.F_law_manner sc_law_manner fun cdv A fr s H E hr hg =>
  (ss_cons (s_set (i := 1) sc_law_manner.nd rfl (by first | exact Or.inl rfl | exact Or.inr rfl) (e_ct call_tuple_of co_tuple (by rfl) T.z_tuple rfl (a_cons (e_comp rfl sc_law_manner.nd (i_any (e_call0 (ok_law_words T) (hr.mono (by decide)) hg (takes_of rfl rfl rfl rfl) (by rfl) T.m_law_words T.F_law_words.kp (bd_law_words T))) (own := [("word", 2)]) (blkOk_by (by kernel_rfl)) (tg_one 2) (fun _ _ _ _ _ => (pg_name (i := 2) sc_law_manner.nd rfl (by first | exact Or.inl rfl | exact Or.inr rfl))) (fun _ _ _ _ _ => (ts_one (t_eq hr (e_call (ok_law_draw T) (hr.mono (by decide)) hg takes0 (by rfl) T.m_law_draw T.F_law_draw.kp (bd_law_draw T) (a_cons (e_var 0) (a_cons e_int a_nil)) (cnt_cons (cnt_cons cnt_nil))) e_int))) (fun _ _ _ _ _ => (e_var 2))) a_nil)))
    (ss_one (s_ret (e_tup (a_cons (c_eq hr (e_call (ok_law_draw T) (hr.mono (by decide)) hg (takes_of rfl rfl rfl rfl) (by rfl) T.m_law_draw T.F_law_draw.kp (bd_law_draw T) (a_cons (e_var 0) (a_cons e_int a_nil)) (cnt_cons (cnt_cons cnt_nil))) e_int) (a_cons (e_var 1) a_nil))))))
theorem sc_law_book : FnScope ["deck", "tests", "many", "one", "own", "machine"] ["deck"] (defScope s_law_book) := ⟨rfl, rfl, rfl, by decide +kernel, rfl, by decide +kernel, by decide +kernel⟩
theorem bd_law_book (T : Txt w K mg cm) : Binds K T.fd_law_book ["deck"] [] := T.F_law_book.binds fun _ _ _ _ _ _ us hl => match us, hl with | [_], _ => rfl
theorem ok_law_book (T : Txt w K mg cm) : FnG P w K mg base 3 T.a_law_book T.fd_law_book ["deck"] (spD K cm 1 F_law_book) := FnG.of T.F_law_book sc_law_book fun cdv A fr s H E hr hg =>
  (ss_cons (s_set (i := 1) sc_law_book.nd rfl (by first | exact Or.inl rfl | exact Or.inr rfl) (e_ct call_tuple_of co_tuple (by rfl) T.z_tuple rfl (a_cons (e_comp rfl sc_law_book.nd (i_any (e_call0 (ok_law_tests T) (hr.mono (by decide)) hg (takes_of rfl rfl rfl rfl) (by rfl) T.m_law_tests T.F_law_tests.kp (bd_law_tests T))) (own := [("own", 4)]) (blkOk_by (by kernel_rfl)) (tg_one 4) (fun _ _ _ _ _ => (pg_name (i := 4) sc_law_book.nd rfl (by first | exact Or.inl rfl | exact Or.inr rfl))) (fun _ _ _ _ _ => (ts_one (t_eq hr (e_call (ok_law_draw T) (hr.mono (by decide)) hg takes0 (by rfl) T.m_law_draw T.F_law_draw.kp (bd_law_draw T) (a_cons (e_var 0) (a_cons e_int a_nil)) (cnt_cons (cnt_cons cnt_nil))) e_int))) (fun _ _ _ _ _ => (e_var 4))) a_nil)))
    (ss_cons (s_par rfl sc_law_book.nd rfl rfl (by decide) rfl rfl (a_cons (b_add e_int (e_call (ok_law_draw T) (hr.mono (by decide)) hg (takes_of rfl rfl rfl rfl) (by rfl) T.m_law_draw T.F_law_draw.kp (bd_law_draw T) (a_cons (e_var 0) (a_cons e_int a_nil)) (cnt_cons (cnt_cons cnt_nil)))) (a_cons (e_call (ok_law_manner T) (hr.mono (by decide)) hg (takes_of rfl rfl rfl rfl) (by rfl) T.m_law_manner T.F_law_manner.kp (bd_law_manner T) (a_cons (e_var 0) a_nil) (cnt_cons cnt_nil)) a_nil)))
    (ss_cons (s_if (t_eq hr (e_call (ok_law_draw T) (hr.mono (by decide)) hg (takes_of rfl rfl rfl rfl) (by rfl) T.m_law_draw T.F_law_draw.kp (bd_law_draw T) (a_cons (e_var 0) (a_cons e_int a_nil)) (cnt_cons (cnt_cons cnt_nil))) e_int) (ss_one (s_ret (e_tup (a_cons (e_var 1) (a_cons (b_mulB (e_tup (a_cons (e_var 3) a_nil)) (e_var 2)) a_nil))))) ss_nil)
    (ss_one (s_ret (e_tup (a_cons (e_var 1) (a_cons (e_ct call_tuple_of co_tuple (by rfl) T.z_tuple rfl (a_cons (e_comp rfl sc_law_book.nd (i_rng1 (by rfl) T.z_range (a_cons (e_var 2) a_nil) (cnt_cons cnt_nil)) (own := [("machine", 5)]) (blkOk_by (by kernel_rfl)) (tg_one 5) (fun _ _ _ _ _ => (pg_name (i := 5) sc_law_book.nd rfl (by first | exact Or.inl rfl | exact Or.inr rfl))) (fun _ _ _ _ _ => ts_nil) (fun _ _ _ _ _ => (e_call (ok_law_manner T) (hr.mono (by decide)) hg takes0 (by rfl) T.m_law_manner T.F_law_manner.kp (bd_law_manner T) (a_cons (e_var 0) a_nil) (cnt_cons cnt_nil)))) a_nil)) a_nil))))))))
theorem sc_law_text : FnScope ["book", "found", "tests", "manners", "waits", "notes", "line", "one", "other"] ["book"] (defScope s_law_text) := ⟨rfl, rfl, rfl, by decide +kernel, rfl, by decide +kernel, by decide +kernel⟩
theorem bd_law_text (T : Txt w K mg cm) : Binds K T.fd_law_text ["book"] [] := T.F_law_text.binds fun _ _ _ _ _ _ us hl => match us, hl with | [_], _ => rfl
theorem ok_law_text (T : Txt w K mg cm) : FnG P w K mg base 1 T.a_law_text T.fd_law_text ["book"] (spD K cm 1 F_law_text) := FnG.of T.F_law_text sc_law_text fun cdv A fr s H E hr hg =>
  (ss_cons (s_asg (e_var 0) (g_tup rfl (gs_cons (g_name (i := 2) sc_law_text.nd rfl (by first | exact Or.inl rfl | exact Or.inr rfl)) (gs_cons (g_name (i := 3) sc_law_text.nd rfl (by first | exact Or.inl rfl | exact Or.inr rfl)) gs_nil))))
    (ss_cons (s_set (i := 1) sc_law_text.nd rfl (by first | exact Or.inl rfl | exact Or.inr rfl) (e_if (t_ne hr (e_var 2) (e_tup a_nil)) (e_lst (a_cons (b_add e_str (e_mtS PySem.F.slot_str_join PySem.F.type_str_join mt_join mo_join e_str (e_comp rfl sc_law_text.nd (i_any (e_var 2)) (own := [("one", 7), ("other", 8)]) (blkOk_by (by kernel_rfl)) (tg_two 7 8 (by decide)) (fun _ _ _ _ _ => (pg_tup rfl (pgs_cons (pg_name (i := 7) sc_law_text.nd rfl (by first | exact Or.inl rfl | exact Or.inr rfl)) (pgs_cons (pg_name (i := 8) sc_law_text.nd rfl (by first | exact Or.inl rfl | exact Or.inr rfl)) pgs_nil)) rfl rfl)) (fun _ _ _ _ _ => ts_nil) (fun _ _ _ _ _ => (b_add (b_add (e_var 7) e_str) (e_var 8)))))) a_nil)) (e_lst (a_cons e_str a_nil))))
    (ss_cons (s_for (passes_of rfl) rfl (i_any (e_var 3)) (g_tup rfl (gs_cons (g_name (i := 4) sc_law_text.nd rfl (by first | exact Or.inl rfl | exact Or.inr rfl)) (gs_cons (g_name (i := 5) sc_law_text.nd rfl (by first | exact Or.inl rfl | exact Or.inr rfl)) gs_nil))) (ss_cons (s_set (i := 6) sc_law_text.nd rfl (by first | exact Or.inl rfl | exact Or.inr rfl) (e_if (t_tr (e_var 4)) e_str e_str))
    (ss_one (s_expr (e_mtL PySem.F.plainAttrs_list PySem.F.slot_list_append PySem.F.type_list_append mt_append mo_append (e_var 1) (a_cons (e_if (t_ne hr (e_var 5) (e_tup a_nil)) (b_add (b_add (e_var 6) e_str) (e_mtS PySem.F.slot_str_join PySem.F.type_str_join mt_join mo_join e_str (e_var 5))) (e_var 6)) a_nil))))))
    (ss_one (s_ret (e_mtS PySem.F.slot_str_join PySem.F.type_str_join mt_join mo_join e_str (e_var 1)))))))
theorem sc_law_picked : FnScope ["pieces", "words", "word"] ["pieces", "words"] (defScope s_law_picked) := ⟨rfl, rfl, rfl, by decide +kernel, rfl, by decide +kernel, by decide +kernel⟩
theorem bd_law_picked (T : Txt w K mg cm) : Binds K T.fd_law_picked ["pieces", "words"] [] := T.F_law_picked.binds fun _ _ _ _ _ _ us hl => match us, hl with | [_, _], _ => rfl
theorem ok_law_picked (T : Txt w K mg cm) : FnG P w K mg base 1 T.a_law_picked T.fd_law_picked ["pieces", "words"] (spD K cm 2 F_law_picked) := FnG.of T.F_law_picked sc_law_picked fun cdv A fr s H E hr hg =>
  (ss_cons (s_if (t_ne hr (e_var 0) (e_comp rfl sc_law_picked.nd (i_any (e_var 1)) (own := [("word", 2)]) (blkOk_by (by kernel_rfl)) (tg_one 2) (fun _ _ _ _ _ => (pg_name (i := 2) sc_law_picked.nd rfl (by first | exact Or.inl rfl | exact Or.inr rfl))) (fun _ _ _ _ _ => (ts_one (t_in hr (e_var 2) (e_var 0)))) (fun _ _ _ _ _ => (e_var 2)))) (ss_one (s_ret (e_lst a_nil))) ss_nil)
    (ss_one (s_ret (e_lst (a_cons (e_ct call_tuple_of co_tuple (by rfl) T.z_tuple rfl (a_cons (e_var 0) a_nil)) a_nil)))))
theorem sc_law_tests_in : FnScope ["line", "texts", "picked", "own", "one", "other", "text"] ["line"] (defScope s_law_tests_in) := ⟨rfl, rfl, rfl, by decide +kernel, rfl, by decide +kernel, by decide +kernel⟩
theorem bd_law_tests_in (T : Txt w K mg cm) : Binds K T.fd_law_tests_in ["line"] [] := T.F_law_tests_in.binds fun _ _ _ _ _ _ us hl => match us, hl with | [_], _ => rfl
theorem ok_law_tests_in (T : Txt w K mg cm) : FnG P w K mg base 2 T.a_law_tests_in T.fd_law_tests_in ["line"] (spD K cm 1 F_law_tests_in) := FnG.of T.F_law_tests_in sc_law_tests_in fun cdv A fr s H E hr hg =>
  (ss_cons (s_if (t_eq hr (e_var 0) e_str) (ss_one (s_ret (e_lst (a_cons (e_tup a_nil) a_nil)))) ss_nil)
    (ss_cons (s_if (t_ne hr (e_slice (e_var 0) p_none (p_some e_int)) e_str) (ss_one (s_ret (e_lst a_nil))) ss_nil)
    (ss_cons (s_setC (i := 1) rfl sc_law_tests_in.nd rfl rfl rfl (i_any (e_call0 (ok_law_tests T) (hr.mono (by decide)) hg (takes_of rfl rfl rfl rfl) (by rfl) T.m_law_tests T.F_law_tests.kp (bd_law_tests T))) (own := [("one", 4), ("other", 5)]) (blkOk_by (by kernel_rfl)) (tg_two 4 5 (by decide)) (fun _ _ _ _ _ => (pg_tup rfl (pgs_cons (pg_name (i := 4) sc_law_tests_in.nd rfl (by first | exact Or.inl rfl | exact Or.inr rfl)) (pgs_cons (pg_name (i := 5) sc_law_tests_in.nd rfl (by first | exact Or.inl rfl | exact Or.inr rfl)) pgs_nil)) rfl rfl)) (fun _ _ _ _ _ => ts_nil) (fun _ _ _ _ _ => (b_add (b_add (e_var 4) e_str) (e_var 5))))
    (ss_cons (s_set (i := 2) sc_law_tests_in.nd rfl (by first | exact Or.inl rfl | exact Or.inr rfl) (e_call (ok_law_picked T) (hr.mono (by decide)) hg (takes_of rfl rfl rfl rfl) (by rfl) T.m_law_picked T.F_law_picked.kp (bd_law_picked T) (a_cons (e_mtS PySem.F.slot_str_split PySem.F.type_str_split mt_split mo_split (e_slice (e_var 0) (p_some e_int) p_none) e_str) (a_cons (e_var 1) a_nil)) (cnt_cons (cnt_cons cnt_nil))))
    (ss_one (s_ret (e_comp rfl sc_law_tests_in.nd (i_any (e_var 2)) (own := [("own", 3)]) (blkOk_by (by kernel_rfl)) (tg_one 3) (fun _ _ _ _ _ => (pg_name (i := 3) sc_law_tests_in.nd rfl (by first | exact Or.inl rfl | exact Or.inr rfl))) (fun _ _ _ _ _ => ts_nil) (fun _ _ _ _ _ => (e_ct call_tuple_of co_tuple (by rfl) T.z_tuple rfl (a_cons (e_comp rfl sc_law_tests_in.nd (i_any (e_var 3)) (own := [("text", 6)]) (blkOk_by (by kernel_rfl)) (tg_one 6) (fun _ _ _ _ _ => (pg_name (i := 6) sc_law_tests_in.nd rfl (by first | exact Or.inl rfl | exact Or.inr rfl))) (fun _ _ _ _ _ => ts_nil) (fun _ _ _ _ _ => (e_tup (a_cons (e_slice (e_var 6) p_none (p_some e_int)) (a_cons (e_slice (e_var 6) (p_some e_int) p_none) a_nil))))) a_nil))))))))))
theorem sc_law_manner_in : FnScope ["line", "word", "picked", "own"] ["line"] (defScope s_law_manner_in) := ⟨rfl, rfl, rfl, by decide +kernel, rfl, by decide +kernel, by decide +kernel⟩
theorem bd_law_manner_in (T : Txt w K mg cm) : Binds K T.fd_law_manner_in ["line"] [] := T.F_law_manner_in.binds fun _ _ _ _ _ _ us hl => match us, hl with | [_], _ => rfl
theorem ok_law_manner_in (T : Txt w K mg cm) : FnG P w K mg base 2 T.a_law_manner_in T.fd_law_manner_in ["line"] (spD K cm 1 F_law_manner_in) := FnG.of T.F_law_manner_in sc_law_manner_in fun cdv A fr s H E hr hg =>
  (ss_cons (s_for (passes_of rfl) rfl (i_any (e_tup (a_cons e_str (a_cons e_str a_nil)))) (g_name (i := 1) sc_law_manner_in.nd rfl (by first | exact Or.inl rfl | exact Or.inr rfl)) (ss_cons (s_if (t_eq hr (e_var 0) (e_var 1)) (ss_one (s_ret (e_lst (a_cons (e_tup (a_cons (c_eq hr (e_var 1) e_str) (a_cons (e_tup a_nil) a_nil))) a_nil)))) ss_nil)
    (ss_one (s_if (t_eq hr (e_slice (e_var 0) p_none (p_some (b_add (e_cb call_len_any co_len (by rfl) T.z_len rfl (a_cons (e_var 1) a_nil)) e_int))) (b_add (e_var 1) e_str)) (ss_cons (s_set (i := 2) sc_law_manner_in.nd rfl (by first | exact Or.inl rfl | exact Or.inr rfl) (e_call (ok_law_picked T) (hr.mono (by decide)) hg (takes_of rfl rfl rfl rfl) (by rfl) T.m_law_picked T.F_law_picked.kp (bd_law_picked T) (a_cons (e_mtS PySem.F.slot_str_split PySem.F.type_str_split mt_split mo_split (e_slice (e_var 0) (p_some (b_add (e_cb call_len_any co_len (by rfl) T.z_len rfl (a_cons (e_var 1) a_nil)) e_int)) p_none) e_str) (a_cons (e_call0 (ok_law_words T) (hr.mono (by decide)) hg (takes_of rfl rfl rfl rfl) (by rfl) T.m_law_words T.F_law_words.kp (bd_law_words T)) a_nil)) (cnt_cons (cnt_cons cnt_nil))))
    (ss_one (s_ret (e_comp rfl sc_law_manner_in.nd (i_any (e_var 2)) (own := [("own", 3)]) (blkOk_by (by kernel_rfl)) (tg_one 3) (fun _ _ _ _ _ => (pg_name (i := 3) sc_law_manner_in.nd rfl (by first | exact Or.inl rfl | exact Or.inr rfl))) (fun _ _ _ _ _ => ts_nil) (fun _ _ _ _ _ => (e_tup (a_cons (c_eq hr (e_var 1) e_str) (a_cons (e_var 3) a_nil)))))))) ss_nil))))
    (ss_one (s_ret (e_lst a_nil))))
theorem sc_law_due : FnScope ["value", "lines", "tests", "manners", "number", "line", "own"] ["value"] (defScope s_law_due) := ⟨rfl, rfl, rfl, by decide +kernel, rfl, by decide +kernel, by decide +kernel⟩
theorem bd_law_due (T : Txt w K mg cm) : Binds K T.fd_law_due ["value"] [] := T.F_law_due.binds fun _ _ _ _ _ _ us hl => match us, hl with | [_], _ => rfl
theorem ok_law_due (T : Txt w K mg cm) : FnG P w K mg base 3 T.a_law_due T.fd_law_due ["value"] (spD K cm 1 F_law_due) := FnG.of T.F_law_due sc_law_due fun cdv A fr s H E hr hg =>
  (ss_cons (s_if (t_not (t_tr (e_cb call_isi co_isi (by rfl) T.z_isinstance rfl (a_cons (e_var 0) (a_cons (e_ty (by rfl) T.z_str rfl) a_nil))))) (ss_one (s_ret (e_lst (a_cons e_str (a_cons e_int (a_cons e_bl a_nil)))))) ss_nil)
    (ss_cons (s_set (i := 1) sc_law_due.nd rfl (by first | exact Or.inl rfl | exact Or.inr rfl) (e_mtS PySem.F.slot_str_split PySem.F.type_str_split mt_split mo_split (e_var 0) e_str))
    (ss_cons (s_par rfl sc_law_due.nd rfl rfl (by decide) rfl rfl (a_cons (e_call (ok_law_tests_in T) (hr.mono (by decide)) hg (takes_of rfl rfl rfl rfl) (by rfl) T.m_law_tests_in T.F_law_tests_in.kp (bd_law_tests_in T) (a_cons (e_ixR hr (e_var 1) e_int) a_nil) (cnt_cons cnt_nil)) (a_cons (e_lst a_nil) a_nil)))
    (ss_cons (s_if (t_eq hr (e_var 2) (e_lst a_nil)) (ss_one (s_ret (e_lst (a_cons e_str (a_cons e_int (a_cons e_bl a_nil)))))) ss_nil)
    (ss_cons (s_for (passes_of rfl) rfl (i_enum (by rfl) T.z_enumerate (a_cons (e_slice (e_var 1) (p_some e_int) p_none) a_nil)) (g_tup rfl (gs_cons (g_name (i := 4) sc_law_due.nd rfl (by first | exact Or.inl rfl | exact Or.inr rfl)) (gs_cons (g_name (i := 5) sc_law_due.nd rfl (by first | exact Or.inl rfl | exact Or.inr rfl)) gs_nil))) (ss_cons (s_set (i := 6) sc_law_due.nd rfl (by first | exact Or.inl rfl | exact Or.inr rfl) (e_call (ok_law_manner_in T) (hr.mono (by decide)) hg (takes_of rfl rfl rfl rfl) (by rfl) T.m_law_manner_in T.F_law_manner_in.kp (bd_law_manner_in T) (a_cons (e_var 5) a_nil) (cnt_cons cnt_nil)))
    (ss_cons (s_if (t_eq hr (e_var 6) (e_lst a_nil)) (ss_one (s_ret (e_lst (a_cons e_str (a_cons (b_add (e_var 4) e_int) (a_cons e_bl a_nil)))))) ss_nil)
    (ss_one (s_expr (e_mtL PySem.F.plainAttrs_list PySem.F.slot_list_extend PySem.F.type_list_extend mt_extend mo_extend (e_var 3) (a_cons (e_var 6) a_nil)))))))
    (ss_cons (s_if (t_not (t_chain op_le op_le ro_le ro_le e_int (e_cb call_len_any co_len (by rfl) T.z_len rfl (a_cons (e_var 3) a_nil)) e_int)) (ss_one (s_ret (e_lst (a_cons e_str (a_cons e_str (a_cons e_bl a_nil)))))) ss_nil)
    (ss_one (s_ret (e_lst (a_cons e_str (a_cons (e_tup (a_cons (e_ixR hr (e_var 2) e_int) (a_cons (e_ct call_tuple_of co_tuple (by rfl) T.z_tuple rfl (a_cons (e_var 3) a_nil)) a_nil))) a_nil)))))))))))
theorem sc_law_heard : FnScope ["value", "is_named", "slip"] ["value", "is_named"] (defScope s_law_heard) := ⟨rfl, rfl, rfl, by decide +kernel, rfl, by decide +kernel, by decide +kernel⟩
theorem bd_law_heard (T : Txt w K mg cm) : Binds K T.fd_law_heard ["value", "is_named"] [] := T.F_law_heard.binds fun _ _ _ _ _ _ us hl => match us, hl with | [_, _], _ => rfl
theorem ok_law_heard (T : Txt w K mg cm) : FnG P w K mg base 6 T.a_law_heard T.fd_law_heard ["value", "is_named"] (spD K cm 2 F_law_heard) := FnG.of T.F_law_heard sc_law_heard fun cdv A fr s H E hr hg =>
  (ss_one (s_tries rfl rfl sc_law_heard.nd (takes_of rfl rfl rfl rfl) (.cons (i := 2) rfl rfl ⟨by rfl, by decide, Or.inl T.m_BadText⟩ T.su_BadText (fun a2 oe2 cls2 d2 pn2 z2 f2 => (x_lst (xa_cons (x_of e_str) (xa_cons (x_fld T.xf_BadText T.cm_BadText T.no_BadText z2 f2) (xa_cons (x_isi T.ic_BadText T.kit_BadText_StillError T.cm_BadText z2 f2 (by rfl) T.z_isinstance (by rfl) T.m_StillError (v := .ref T.a_StillError) rfl (fun _ h => h) rfl) xa_nil))))) (.cons (i := 2) rfl rfl ⟨by rfl, by decide, Or.inl T.m_BadBook⟩ T.su_BadBook (fun a2 oe2 cls2 d2 pn2 z2 f2 => (x_lst (xa_cons (x_of e_str) (xa_cons (x_fld T.xf_BadBook T.cm_BadBook T.no_BadBook z2 f2) (xa_cons (x_isi T.ic_BadBook T.kit_BadBook_StillError T.cm_BadBook z2 f2 (by rfl) T.z_isinstance (by rfl) T.m_StillError (v := .ref T.a_StillError) rfl (fun _ h => h) rfl) xa_nil))))) .nil)) (fun W2 pn2 xe2 tk2 pp2 => (ss_one (s_ret (e_lst (a_cons e_str (a_cons (e_if (t_tr (e_var 1)) (e_callK0 (ok_read_book T) (hr.mono (by decide)) hg tk2 (by rfl) T.m_read_book T.F_read_book.kp (kb_read_book_0_value T) (k_cons (e_var 0) k_nil) (cnt_cons cnt_nil) (fun l h => pick_len_1_0 l h)) (e_call (ok_read_book T) (hr.mono (by decide)) hg tk2 (by rfl) T.m_read_book T.F_read_book.kp (bd_read_book T) (a_cons (e_var 0) a_nil) (cnt_cons cnt_nil))) a_nil))))))))
theorem sc_law_spoilt : FnScope ["deck", "text", "lines", "spot", "signs", "some", "at", "way", "pieces"] ["deck", "text"] (defScope s_law_spoilt) := ⟨rfl, rfl, rfl, by decide +kernel, rfl, by decide +kernel, by decide +kernel⟩
theorem bd_law_spoilt (T : Txt w K mg cm) : Binds K T.fd_law_spoilt ["deck", "text"] [] := T.F_law_spoilt.binds fun _ _ _ _ _ _ us hl => match us, hl with | [_, _], _ => rfl
theorem ok_law_spoilt (T : Txt w K mg cm) : FnG P w K mg base 3 T.a_law_spoilt T.fd_law_spoilt ["deck", "text"] (spD K cm 2 F_law_spoilt) := FnG.of T.F_law_spoilt sc_law_spoilt fun cdv A fr s H E hr hg =>
  (ss_cons (s_par rfl sc_law_spoilt.nd rfl rfl (by decide) rfl rfl (a_cons (e_call (ok_law_draw T) (hr.mono (by decide)) hg (takes_of rfl rfl rfl rfl) (by rfl) T.m_law_draw T.F_law_draw.kp (bd_law_draw T) (a_cons (e_var 0) (a_cons (b_add (e_cb call_len_any co_len (by rfl) T.z_len rfl (a_cons (e_var 1) a_nil)) e_int) a_nil)) (cnt_cons (cnt_cons cnt_nil))) (a_cons (e_call (ok_law_draw T) (hr.mono (by decide)) hg (takes_of rfl rfl rfl rfl) (by rfl) T.m_law_draw T.F_law_draw.kp (bd_law_draw T) (a_cons (e_var 0) (a_cons e_int a_nil)) (cnt_cons (cnt_cons cnt_nil))) a_nil)))
    (ss_cons (s_set (i := 2) sc_law_spoilt.nd rfl (by first | exact Or.inl rfl | exact Or.inr rfl) (e_mtS PySem.F.slot_str_split PySem.F.type_str_split mt_split mo_split (e_var 1) e_str))
    (ss_cons (s_set (i := 3) sc_law_spoilt.nd rfl (by first | exact Or.inl rfl | exact Or.inr rfl) (e_call (ok_law_draw T) (hr.mono (by decide)) hg (takes_of rfl rfl rfl rfl) (by rfl) T.m_law_draw T.F_law_draw.kp (bd_law_draw T) (a_cons (e_var 0) (a_cons (e_cb call_len_any co_len (by rfl) T.z_len rfl (a_cons (e_var 2) a_nil)) a_nil)) (cnt_cons (cnt_cons cnt_nil))))
    (ss_cons (s_set (i := 4) sc_law_spoilt.nd rfl (by first | exact Or.inl rfl | exact Or.inr rfl) (e_lst (a_cons e_str (a_cons e_str (a_cons e_str (a_cons e_str (a_cons e_str (a_cons e_str (a_cons e_str (a_cons e_str (a_cons e_str (a_cons e_str (a_cons e_str (a_cons e_str (a_cons e_str (a_cons e_str (a_cons e_str (a_cons e_str a_nil))))))))))))))))))
    (ss_cons (s_if (t_eq hr (e_var 7) e_int) (ss_one (s_ret (b_add (e_slice (e_var 1) p_none (p_some (e_var 6))) (e_slice (e_var 1) (p_some (b_add (e_var 6) e_int)) p_none)))) ss_nil)
    (ss_cons (s_if (t_eq hr (e_var 7) e_int) (ss_one (s_ret (b_add (b_add (e_slice (e_var 1) p_none (p_some (e_var 6))) (e_call (ok_law_pick T) (hr.mono (by decide)) hg (takes_of rfl rfl rfl rfl) (by rfl) T.m_law_pick T.F_law_pick.kp (bd_law_pick T) (a_cons (e_var 0) (a_cons (e_var 4) a_nil)) (cnt_cons (cnt_cons cnt_nil)))) (e_slice (e_var 1) (p_some (e_var 6)) p_none)))) ss_nil)
    (ss_cons (s_if (t_eq hr (e_var 7) e_int) (ss_one (s_ret (b_add (b_add (e_slice (e_var 1) p_none (p_some (e_var 6))) (e_call (ok_law_pick T) (hr.mono (by decide)) hg (takes_of rfl rfl rfl rfl) (by rfl) T.m_law_pick T.F_law_pick.kp (bd_law_pick T) (a_cons (e_var 0) (a_cons (e_var 4) a_nil)) (cnt_cons (cnt_cons cnt_nil)))) (e_slice (e_var 1) (p_some (b_add (e_var 6) e_int)) p_none)))) ss_nil)
    (ss_cons (s_if (t_eq hr (e_var 7) e_int) (ss_one (s_ret (b_add (b_add (e_slice (e_var 1) p_none (p_some (e_var 6))) (e_rev (e_slice (e_var 1) (p_some (e_var 6)) (p_some (b_add (e_var 6) e_int))))) (e_slice (e_var 1) (p_some (b_add (e_var 6) e_int)) p_none)))) ss_nil)
    (ss_cons (s_if (t_eq hr (e_var 7) e_int) (ss_one (s_ret (e_mtS PySem.F.slot_str_join PySem.F.type_str_join mt_join mo_join e_str (b_add (b_add (e_slice (e_var 2) p_none (p_some (e_var 3))) (b_mul (e_slice (e_var 2) (p_some (e_var 3)) (p_some (b_add (e_var 3) e_int))) (e_call (ok_law_draw T) (hr.mono (by decide)) hg (takes_of rfl rfl rfl rfl) (by rfl) T.m_law_draw T.F_law_draw.kp (bd_law_draw T) (a_cons (e_var 0) (a_cons e_int a_nil)) (cnt_cons (cnt_cons cnt_nil))))) (e_slice (e_var 2) (p_some (b_add (e_var 3) e_int)) p_none))))) ss_nil)
    (ss_cons (s_if (t_eq hr (e_var 7) e_int) (ss_cons (s_set (i := 8) sc_law_spoilt.nd rfl (by first | exact Or.inl rfl | exact Or.inr rfl) (e_mtS PySem.F.slot_str_split PySem.F.type_str_split mt_split mo_split (e_ixR hr (e_var 2) (e_var 3)) e_str))
    (ss_cons (s_set (i := 8) sc_law_spoilt.nd rfl (by first | exact Or.inl rfl | exact Or.inr rfl) (e_call (ok_law_pick T) (hr.mono (by decide)) hg (takes_of rfl rfl rfl rfl) (by rfl) T.m_law_pick T.F_law_pick.kp (bd_law_pick T) (a_cons (e_var 0) (a_cons (e_lst (a_cons (e_rev (e_var 8)) (a_cons (b_add (e_var 8) (e_slice (e_var 8) (p_some (e_neg e_int)) p_none)) (a_cons (b_add (e_slice (e_var 8) (p_some e_int) p_none) (e_slice (e_var 8) p_none (p_some e_int))) (a_cons (e_slice (e_var 8) p_none (p_some (e_neg e_int))) a_nil))))) a_nil)) (cnt_cons (cnt_cons cnt_nil))))
    (ss_cons (s_put (hu1 hr) (e_mtS PySem.F.slot_str_join PySem.F.type_str_join mt_join mo_join e_str (e_var 8)) (e_var 2) (e_var 3))
    (ss_one (s_ret (e_mtS PySem.F.slot_str_join PySem.F.type_str_join mt_join mo_join e_str (e_var 2))))))) ss_nil)
    (ss_cons (s_if (t_eq hr (e_var 7) e_int) (ss_cons (s_set (i := 5) sc_law_spoilt.nd rfl (by first | exact Or.inl rfl | exact Or.inr rfl) (e_lst (a_cons (e_rev (e_var 2)) (a_cons (e_slice (e_var 2) (p_some e_int) p_none) (a_cons (b_add (e_var 2) (e_lst (a_cons e_str a_nil))) (a_cons (b_add (e_var 2) (e_lst (a_cons e_str a_nil))) (a_cons (e_slice (e_var 2) p_none (p_some e_int)) a_nil)))))))
    (ss_one (s_ret (e_mtS PySem.F.slot_str_join PySem.F.type_str_join mt_join mo_join e_str (e_call (ok_law_pick T) (hr.mono (by decide)) hg (takes_of rfl rfl rfl rfl) (by rfl) T.m_law_pick T.F_law_pick.kp (bd_law_pick T) (a_cons (e_var 0) (a_cons (e_var 5) a_nil)) (cnt_cons (cnt_cons cnt_nil))))))) ss_nil)
    (ss_cons (s_set (i := 5) sc_law_spoilt.nd rfl (by first | exact Or.inl rfl | exact Or.inr rfl) (e_lst (a_cons e_str (a_cons e_str (a_cons e_str (a_cons e_str (a_cons e_str (a_cons e_str (a_cons e_str (a_cons e_str a_nil))))))))))
    (ss_one (s_ret (b_add (e_var 1) (e_call (ok_law_pick T) (hr.mono (by decide)) hg (takes_of rfl rfl rfl rfl) (by rfl) T.m_law_pick T.F_law_pick.kp (bd_law_pick T) (a_cons (e_var 0) (a_cons (e_var 5) a_nil)) (cnt_cons (cnt_cons cnt_nil))))))))))))))))))
theorem sc_law : FnScope ["script", "deck", "turn", "text", "some", "odd", "spot", "value"] ["script"] (defScope s_law) := ⟨rfl, rfl, rfl, by decide +kernel, rfl, by decide +kernel, by decide +kernel⟩
theorem bd_law (T : Txt w K mg cm) : Binds K T.fd_law ["script"] [] := T.F_law.binds fun _ _ _ _ _ _ us hl => match us, hl with | [_], _ => rfl
theorem ok_law (T : Txt w K mg cm) : FnG P w K mg base 7 T.a_law T.fd_law ["script"] (spD K cm 1 F_law) := FnG.of T.F_law sc_law fun cdv A fr s H E hr hg =>
  (ss_cons (s_set (i := 1) sc_law.nd rfl (by first | exact Or.inl rfl | exact Or.inr rfl) (e_call (ok_law_deck T) (hr.mono (by decide)) hg (takes_of rfl rfl rfl rfl) (by rfl) T.m_law_deck T.F_law_deck.kp (bd_law_deck T) (a_cons (e_var 0) a_nil) (cnt_cons cnt_nil)))
    (ss_cons (s_for (passes_of rfl) rfl (i_rng1 (by rfl) T.z_range (a_cons e_int a_nil) (cnt_cons cnt_nil)) (g_name (i := 2) sc_law.nd rfl (by first | exact Or.inl rfl | exact Or.inr rfl)) (ss_cons (s_set (i := 3) sc_law.nd rfl (by first | exact Or.inl rfl | exact Or.inr rfl) (e_call (ok_law_text T) (hr.mono (by decide)) hg (takes_of rfl rfl rfl rfl) (by rfl) T.m_law_text T.F_law_text.kp (bd_law_text T) (a_cons (e_call (ok_law_book T) (hr.mono (by decide)) hg (takes_of rfl rfl rfl rfl) (by rfl) T.m_law_book T.F_law_book.kp (bd_law_book T) (a_cons (e_var 1) a_nil) (cnt_cons cnt_nil)) a_nil) (cnt_cons cnt_nil)))
    (ss_cons (s_set (i := 4) sc_law.nd rfl (by first | exact Or.inl rfl | exact Or.inr rfl) (e_lst (a_cons (e_var 3) (a_cons (e_call (ok_law_spoilt T) (hr.mono (by decide)) hg (takes_of rfl rfl rfl rfl) (by rfl) T.m_law_spoilt T.F_law_spoilt.kp (bd_law_spoilt T) (a_cons (e_var 1) (a_cons (e_var 3) a_nil)) (cnt_cons (cnt_cons cnt_nil))) (a_cons (e_call (ok_law_spoilt T) (hr.mono (by decide)) hg (takes_of rfl rfl rfl rfl) (by rfl) T.m_law_spoilt T.F_law_spoilt.kp (bd_law_spoilt T) (a_cons (e_var 1) (a_cons (e_var 3) a_nil)) (cnt_cons (cnt_cons cnt_nil))) a_nil)))))
    (ss_cons (s_expr (e_mtL PySem.F.plainAttrs_list PySem.F.slot_list_append PySem.F.type_list_append mt_append mo_append (e_var 4) (a_cons (e_call (ok_law_spoilt T) (hr.mono (by decide)) hg (takes_of rfl rfl rfl rfl) (by rfl) T.m_law_spoilt T.F_law_spoilt.kp (bd_law_spoilt T) (a_cons (e_var 1) (a_cons (e_ixR hr (e_var 4) (e_neg e_int)) a_nil)) (cnt_cons (cnt_cons cnt_nil))) a_nil)))
    (ss_cons (s_expr (e_mtL PySem.F.plainAttrs_list PySem.F.slot_list_append PySem.F.type_list_append mt_append mo_append (e_var 4) (a_cons (b_add e_str (b_mul e_str (e_call (ok_law_pick T) (hr.mono (by decide)) hg (takes_of rfl rfl rfl rfl) (by rfl) T.m_law_pick T.F_law_pick.kp (bd_law_pick T) (a_cons (e_var 1) (a_cons (e_lst (a_cons e_int (a_cons e_int (a_cons e_int (a_cons e_int (a_cons e_int (a_cons e_int a_nil))))))) a_nil)) (cnt_cons (cnt_cons cnt_nil))))) a_nil)))
    (ss_cons (s_set (i := 5) sc_law.nd rfl (by first | exact Or.inl rfl | exact Or.inr rfl) (e_lst (a_cons e_non (a_cons e_int (a_cons e_bl (a_cons (e_lst a_nil) (a_cons e_dict0 (a_cons (e_tup (a_cons e_str a_nil)) (a_cons e_str (a_cons e_str (a_cons e_str (a_cons e_str a_nil))))))))))))
    (ss_cons (s_set (i := 5) sc_law.nd rfl (by first | exact Or.inl rfl | exact Or.inr rfl) (b_add (e_var 5) (e_lst (a_cons e_str (a_cons e_str (a_cons (b_mul e_str e_int) (a_cons e_str a_nil)))))))
    (ss_cons (s_expr (e_mtL PySem.F.plainAttrs_list PySem.F.slot_list_append PySem.F.type_list_append mt_append mo_append (e_var 4) (a_cons (e_call (ok_law_pick T) (hr.mono (by decide)) hg (takes_of rfl rfl rfl rfl) (by rfl) T.m_law_pick T.F_law_pick.kp (bd_law_pick T) (a_cons (e_var 1) (a_cons (e_var 5) a_nil)) (cnt_cons (cnt_cons cnt_nil))) a_nil)))
    (ss_one (s_for (passes_of rfl) rfl (i_enum (by rfl) T.z_enumerate (a_cons (e_var 4) a_nil)) (g_tup rfl (gs_cons (g_name (i := 6) sc_law.nd rfl (by first | exact Or.inl rfl | exact Or.inr rfl)) (gs_cons (g_name (i := 7) sc_law.nd rfl (by first | exact Or.inl rfl | exact Or.inr rfl)) gs_nil))) (ss_one (s_if (t_ne hr (e_cb (call_reprD (hu64 hr) hg) co_repr (by rfl) T.z_repr rfl (a_cons (e_call (ok_law_heard T) (hr.mono (by decide)) hg (takes_of rfl rfl rfl rfl) (by rfl) T.m_law_heard T.F_law_heard.kp (bd_law_heard T) (a_cons (e_var 7) (a_cons (c_eq hr (e_var 6) (b_mod (e_var 2) e_int)) a_nil)) (cnt_cons (cnt_cons cnt_nil))) a_nil)) (e_cb (call_reprD (hu64 hr) hg) co_repr (by rfl) T.z_repr rfl (a_cons (e_call (ok_law_due T) (hr.mono (by decide)) hg (takes_of rfl rfl rfl rfl) (by rfl) T.m_law_due T.F_law_due.kp (bd_law_due T) (a_cons (e_var 7) a_nil) (cnt_cons cnt_nil)) a_nil))) (ss_one (s_ret e_bl)) ss_nil))))))))))))
    (ss_one (s_ret e_bl))))
end
/-! ### E. what the top has written, the head -/
theorem all_mk {P : Program} {w : World} {K : PySem.W.Frag} {h : Heap} {mg : Str → Option Value} {fa : Addr} (X : K.In h) (G : h.Ns mainGlobals mg) (hfa : mg "law" = some (.ref fa))
    {f_is_integer : Addr} {od_is_integer an_is_integer : Option Addr} {sl_is_integer : Array (Option Value)} {oc_is_integer kV_is_integer dc_is_integer pm_is_integer cd_is_integer ct_is_integer : Value}
    {f_is_many : Addr} {od_is_many an_is_many : Option Addr} {sl_is_many : Array (Option Value)} {oc_is_many kV_is_many dc_is_many pm_is_many cd_is_many ct_is_many : Value}
    {f_is_ascending : Addr} {od_is_ascending an_is_ascending : Option Addr} {sl_is_ascending : Array (Option Value)} {oc_is_ascending kV_is_ascending dc_is_ascending pm_is_ascending cd_is_ascending ct_is_ascending : Value}
    {f_is_notes : Addr} {od_is_notes an_is_notes : Option Addr} {sl_is_notes : Array (Option Value)} {oc_is_notes kV_is_notes dc_is_notes pm_is_notes cd_is_notes ct_is_notes : Value}
    {f_tests_error : Addr} {od_tests_error an_tests_error : Option Addr} {sl_tests_error : Array (Option Value)} {oc_tests_error kV_tests_error dc_tests_error pm_tests_error cd_tests_error ct_tests_error : Value}
    {f_tests_of : Addr} {od_tests_of an_tests_of : Option Addr} {sl_tests_of : Array (Option Value)} {oc_tests_of kV_tests_of dc_tests_of pm_tests_of cd_tests_of ct_tests_of : Value}
    {f_manner_of : Addr} {od_manner_of an_manner_of : Option Addr} {sl_manner_of : Array (Option Value)} {oc_manner_of kV_manner_of dc_manner_of pm_manner_of cd_manner_of ct_manner_of : Value}
    {f_manners_of : Addr} {od_manners_of an_manners_of : Option Addr} {sl_manners_of : Array (Option Value)} {oc_manners_of kV_manners_of dc_manners_of pm_manners_of cd_manners_of ct_manners_of : Value}
    {f_read_book : Addr} {od_read_book an_read_book : Option Addr} {sl_read_book : Array (Option Value)} {oc_read_book kV_read_book dc_read_book pm_read_book cd_read_book ct_read_book : Value}
    {f_law_deck : Addr} {od_law_deck an_law_deck : Option Addr} {sl_law_deck : Array (Option Value)} {oc_law_deck kV_law_deck dc_law_deck pm_law_deck cd_law_deck ct_law_deck : Value}
    {f_law_draw : Addr} {od_law_draw an_law_draw : Option Addr} {sl_law_draw : Array (Option Value)} {oc_law_draw kV_law_draw dc_law_draw pm_law_draw cd_law_draw ct_law_draw : Value}
    {f_law_pick : Addr} {od_law_pick an_law_pick : Option Addr} {sl_law_pick : Array (Option Value)} {oc_law_pick kV_law_pick dc_law_pick pm_law_pick cd_law_pick ct_law_pick : Value}
    {f_law_tests : Addr} {od_law_tests an_law_tests : Option Addr} {sl_law_tests : Array (Option Value)} {oc_law_tests kV_law_tests dc_law_tests pm_law_tests cd_law_tests ct_law_tests : Value}
    {f_law_words : Addr} {od_law_words an_law_words : Option Addr} {sl_law_words : Array (Option Value)} {oc_law_words kV_law_words dc_law_words pm_law_words cd_law_words ct_law_words : Value}
    {f_law_manner : Addr} {od_law_manner an_law_manner : Option Addr} {sl_law_manner : Array (Option Value)} {oc_law_manner kV_law_manner dc_law_manner pm_law_manner cd_law_manner ct_law_manner : Value}
    {f_law_book : Addr} {od_law_book an_law_book : Option Addr} {sl_law_book : Array (Option Value)} {oc_law_book kV_law_book dc_law_book pm_law_book cd_law_book ct_law_book : Value}
    {f_law_text : Addr} {od_law_text an_law_text : Option Addr} {sl_law_text : Array (Option Value)} {oc_law_text kV_law_text dc_law_text pm_law_text cd_law_text ct_law_text : Value}
    {f_law_picked : Addr} {od_law_picked an_law_picked : Option Addr} {sl_law_picked : Array (Option Value)} {oc_law_picked kV_law_picked dc_law_picked pm_law_picked cd_law_picked ct_law_picked : Value}
    {f_law_tests_in : Addr} {od_law_tests_in an_law_tests_in : Option Addr} {sl_law_tests_in : Array (Option Value)} {oc_law_tests_in kV_law_tests_in dc_law_tests_in pm_law_tests_in cd_law_tests_in ct_law_tests_in : Value}
    {f_law_manner_in : Addr} {od_law_manner_in an_law_manner_in : Option Addr} {sl_law_manner_in : Array (Option Value)} {oc_law_manner_in kV_law_manner_in dc_law_manner_in pm_law_manner_in cd_law_manner_in ct_law_manner_in : Value}
    {f_law_due : Addr} {od_law_due an_law_due : Option Addr} {sl_law_due : Array (Option Value)} {oc_law_due kV_law_due dc_law_due pm_law_due cd_law_due ct_law_due : Value}
    {f_law_heard : Addr} {od_law_heard an_law_heard : Option Addr} {sl_law_heard : Array (Option Value)} {oc_law_heard kV_law_heard dc_law_heard pm_law_heard cd_law_heard ct_law_heard : Value}
    {f_law_spoilt : Addr} {od_law_spoilt an_law_spoilt : Option Addr} {sl_law_spoilt : Array (Option Value)} {oc_law_spoilt kV_law_spoilt dc_law_spoilt pm_law_spoilt cd_law_spoilt ct_law_spoilt : Value}
    {f_law : Addr} {od_law an_law : Option Addr} {sl_law : Array (Option Value)} {oc_law kV_law dc_law pm_law cd_law ct_law : Value}
    {t_ANY_TIME : Tok}
    {t_MAX_MACHINES : Tok}
    {r_NOTES : Addr} {n_NOTES : Nat} {sl_NOTES : Array (Option Value)} {t_NOTES_0 t_NOTES_1 t_NOTES_2 t_NOTES_3 : Tok}
    {t_NO_TESTS : Tok}
    {r_TESTS_0 : Addr} {n_TESTS_0 : Nat} {sl_TESTS_0 : Array (Option Value)} {t_TESTS_0_0 t_TESTS_0_1 : Tok}
    {r_TESTS_1 : Addr} {n_TESTS_1 : Nat} {sl_TESTS_1 : Array (Option Value)} {t_TESTS_1_0 t_TESTS_1_1 : Tok}
    {r_TESTS_2 : Addr} {n_TESTS_2 : Nat} {sl_TESTS_2 : Array (Option Value)} {t_TESTS_2_0 t_TESTS_2_1 : Tok}
    {r_TESTS_3 : Addr} {n_TESTS_3 : Nat} {sl_TESTS_3 : Array (Option Value)} {t_TESTS_3_0 t_TESTS_3_1 : Tok}
    {r_TESTS_4 : Addr} {n_TESTS_4 : Nat} {sl_TESTS_4 : Array (Option Value)} {t_TESTS_4_0 t_TESTS_4_1 : Tok}
    {r_TESTS_5 : Addr} {n_TESTS_5 : Nat} {sl_TESTS_5 : Array (Option Value)} {t_TESTS_5_0 t_TESTS_5_1 : Tok}
    {r_TESTS : Addr} {n_TESTS : Nat} {sl_TESTS : Array (Option Value)}
    {t_TESTS_HEAD : Tok}
    {t_WAITS : Tok}
    {C_BadBook : Addr}
    {C_BadText : Addr}
    {C_StillError : Addr}
    {fI_BadBook : Addr} {odI_BadBook anI_BadBook : Option Addr} {slI_BadBook : Array (Option Value)} {ocI_BadBook kVI_BadBook dcI_BadBook pmI_BadBook cdI_BadBook ctI_BadBook : Value} {nm_BadBook q_BadBook : Str} {N_BadBook B_BadBook_StillError : Addr} {bs_BadBook sub_c_BadBook : List Value} {sn_BadBook : List Str} {ab_BadBook : Bool} {col_BadBook : Option Bool} {dd_BadBook : Option Addr} {k0_BadBook k1_BadBook k2_BadBook k3_BadBook k5_BadBook : Option Value}
    {fI_BadText : Addr} {odI_BadText anI_BadText : Option Addr} {slI_BadText : Array (Option Value)} {ocI_BadText kVI_BadText dcI_BadText pmI_BadText cdI_BadText ctI_BadText : Value} {nm_BadText q_BadText : Str} {N_BadText B_BadText_StillError : Addr} {bs_BadText sub_c_BadText : List Value} {sn_BadText : List Str} {ab_BadText : Bool} {col_BadText : Option Bool} {dd_BadText : Option Addr} {k0_BadText k1_BadText k2_BadText k3_BadText k5_BadText : Option Value}
    (a_is_integer : PySem.W.nsIn K mainGlobals "is_integer" = some (some (.ref f_is_integer)))
    (l_is_integer : K.lookup f_is_integer = some ⟨oc_is_integer, od_is_integer, .func (PySem.W.fnOf "is_integer" "is_integer" (defArgs s_is_integer) (defBody s_is_integer) (defScope s_is_integer) .none kV_is_integer dc_is_integer pm_is_integer an_is_integer cd_is_integer ct_is_integer), sl_is_integer⟩)
    (c_is_integer : PySem.W.codeIn K cd_is_integer "is_integer" = true)
    (k_is_integer : PySem.W.keepIn K (.ref f_is_integer) = true)
    (a_is_many : PySem.W.nsIn K mainGlobals "is_many" = some (some (.ref f_is_many)))
    (l_is_many : K.lookup f_is_many = some ⟨oc_is_many, od_is_many, .func (PySem.W.fnOf "is_many" "is_many" (defArgs s_is_many) (defBody s_is_many) (defScope s_is_many) .none kV_is_many dc_is_many pm_is_many an_is_many cd_is_many ct_is_many), sl_is_many⟩)
    (c_is_many : PySem.W.codeIn K cd_is_many "is_many" = true)
    (k_is_many : PySem.W.keepIn K (.ref f_is_many) = true)
    (a_is_ascending : PySem.W.nsIn K mainGlobals "is_ascending" = some (some (.ref f_is_ascending)))
    (l_is_ascending : K.lookup f_is_ascending = some ⟨oc_is_ascending, od_is_ascending, .func (PySem.W.fnOf "is_ascending" "is_ascending" (defArgs s_is_ascending) (defBody s_is_ascending) (defScope s_is_ascending) .none kV_is_ascending dc_is_ascending pm_is_ascending an_is_ascending cd_is_ascending ct_is_ascending), sl_is_ascending⟩)
    (c_is_ascending : PySem.W.codeIn K cd_is_ascending "is_ascending" = true)
    (k_is_ascending : PySem.W.keepIn K (.ref f_is_ascending) = true)
    (a_is_notes : PySem.W.nsIn K mainGlobals "is_notes" = some (some (.ref f_is_notes)))
    (l_is_notes : K.lookup f_is_notes = some ⟨oc_is_notes, od_is_notes, .func (PySem.W.fnOf "is_notes" "is_notes" (defArgs s_is_notes) (defBody s_is_notes) (defScope s_is_notes) .none kV_is_notes dc_is_notes pm_is_notes an_is_notes cd_is_notes ct_is_notes), sl_is_notes⟩)
    (c_is_notes : PySem.W.codeIn K cd_is_notes "is_notes" = true)
    (k_is_notes : PySem.W.keepIn K (.ref f_is_notes) = true)
    (a_tests_error : PySem.W.nsIn K mainGlobals "tests_error" = some (some (.ref f_tests_error)))
    (l_tests_error : K.lookup f_tests_error = some ⟨oc_tests_error, od_tests_error, .func (PySem.W.fnOf "tests_error" "tests_error" (defArgs s_tests_error) (defBody s_tests_error) (defScope s_tests_error) .none kV_tests_error dc_tests_error pm_tests_error an_tests_error cd_tests_error ct_tests_error), sl_tests_error⟩)
    (c_tests_error : PySem.W.codeIn K cd_tests_error "tests_error" = true)
    (k_tests_error : PySem.W.keepIn K (.ref f_tests_error) = true)
    (a_tests_of : PySem.W.nsIn K mainGlobals "tests_of" = some (some (.ref f_tests_of)))
    (l_tests_of : K.lookup f_tests_of = some ⟨oc_tests_of, od_tests_of, .func (PySem.W.fnOf "tests_of" "tests_of" (defArgs s_tests_of) (defBody s_tests_of) (defScope s_tests_of) .none kV_tests_of dc_tests_of pm_tests_of an_tests_of cd_tests_of ct_tests_of), sl_tests_of⟩)
    (c_tests_of : PySem.W.codeIn K cd_tests_of "tests_of" = true)
    (k_tests_of : PySem.W.keepIn K (.ref f_tests_of) = true)
    (a_manner_of : PySem.W.nsIn K mainGlobals "manner_of" = some (some (.ref f_manner_of)))
    (l_manner_of : K.lookup f_manner_of = some ⟨oc_manner_of, od_manner_of, .func (PySem.W.fnOf "manner_of" "manner_of" (defArgs s_manner_of) (defBody s_manner_of) (defScope s_manner_of) .none kV_manner_of dc_manner_of pm_manner_of an_manner_of cd_manner_of ct_manner_of), sl_manner_of⟩)
    (c_manner_of : PySem.W.codeIn K cd_manner_of "manner_of" = true)
    (k_manner_of : PySem.W.keepIn K (.ref f_manner_of) = true)
    (a_manners_of : PySem.W.nsIn K mainGlobals "manners_of" = some (some (.ref f_manners_of)))
    (l_manners_of : K.lookup f_manners_of = some ⟨oc_manners_of, od_manners_of, .func (PySem.W.fnOf "manners_of" "manners_of" (defArgs s_manners_of) (defBody s_manners_of) (defScope s_manners_of) .none kV_manners_of dc_manners_of pm_manners_of an_manners_of cd_manners_of ct_manners_of), sl_manners_of⟩)
    (c_manners_of : PySem.W.codeIn K cd_manners_of "manners_of" = true)
    (k_manners_of : PySem.W.keepIn K (.ref f_manners_of) = true)
    (a_read_book : PySem.W.nsIn K mainGlobals "read_book" = some (some (.ref f_read_book)))
    (l_read_book : K.lookup f_read_book = some ⟨oc_read_book, od_read_book, .func (PySem.W.fnOf "read_book" "read_book" (defArgs s_read_book) (defBody s_read_book) (defScope s_read_book) .none kV_read_book dc_read_book pm_read_book an_read_book cd_read_book ct_read_book), sl_read_book⟩)
    (c_read_book : PySem.W.codeIn K cd_read_book "read_book" = true)
    (k_read_book : PySem.W.keepIn K (.ref f_read_book) = true)
    (a_law_deck : PySem.W.nsIn K mainGlobals "_law_deck" = some (some (.ref f_law_deck)))
    (l_law_deck : K.lookup f_law_deck = some ⟨oc_law_deck, od_law_deck, .func (PySem.W.fnOf "_law_deck" "_law_deck" (defArgs s_law_deck) (defBody s_law_deck) (defScope s_law_deck) .none kV_law_deck dc_law_deck pm_law_deck an_law_deck cd_law_deck ct_law_deck), sl_law_deck⟩)
    (c_law_deck : PySem.W.codeIn K cd_law_deck "_law_deck" = true)
    (k_law_deck : PySem.W.keepIn K (.ref f_law_deck) = true)
    (a_law_draw : PySem.W.nsIn K mainGlobals "_law_draw" = some (some (.ref f_law_draw)))
    (l_law_draw : K.lookup f_law_draw = some ⟨oc_law_draw, od_law_draw, .func (PySem.W.fnOf "_law_draw" "_law_draw" (defArgs s_law_draw) (defBody s_law_draw) (defScope s_law_draw) .none kV_law_draw dc_law_draw pm_law_draw an_law_draw cd_law_draw ct_law_draw), sl_law_draw⟩)
    (c_law_draw : PySem.W.codeIn K cd_law_draw "_law_draw" = true)
    (k_law_draw : PySem.W.keepIn K (.ref f_law_draw) = true)
    (a_law_pick : PySem.W.nsIn K mainGlobals "_law_pick" = some (some (.ref f_law_pick)))
    (l_law_pick : K.lookup f_law_pick = some ⟨oc_law_pick, od_law_pick, .func (PySem.W.fnOf "_law_pick" "_law_pick" (defArgs s_law_pick) (defBody s_law_pick) (defScope s_law_pick) .none kV_law_pick dc_law_pick pm_law_pick an_law_pick cd_law_pick ct_law_pick), sl_law_pick⟩)
    (c_law_pick : PySem.W.codeIn K cd_law_pick "_law_pick" = true)
    (k_law_pick : PySem.W.keepIn K (.ref f_law_pick) = true)
    (a_law_tests : PySem.W.nsIn K mainGlobals "_law_tests" = some (some (.ref f_law_tests)))
    (l_law_tests : K.lookup f_law_tests = some ⟨oc_law_tests, od_law_tests, .func (PySem.W.fnOf "_law_tests" "_law_tests" (defArgs s_law_tests) (defBody s_law_tests) (defScope s_law_tests) .none kV_law_tests dc_law_tests pm_law_tests an_law_tests cd_law_tests ct_law_tests), sl_law_tests⟩)
    (c_law_tests : PySem.W.codeIn K cd_law_tests "_law_tests" = true)
    (k_law_tests : PySem.W.keepIn K (.ref f_law_tests) = true)
    (a_law_words : PySem.W.nsIn K mainGlobals "_law_words" = some (some (.ref f_law_words)))
    (l_law_words : K.lookup f_law_words = some ⟨oc_law_words, od_law_words, .func (PySem.W.fnOf "_law_words" "_law_words" (defArgs s_law_words) (defBody s_law_words) (defScope s_law_words) .none kV_law_words dc_law_words pm_law_words an_law_words cd_law_words ct_law_words), sl_law_words⟩)
    (c_law_words : PySem.W.codeIn K cd_law_words "_law_words" = true)
    (k_law_words : PySem.W.keepIn K (.ref f_law_words) = true)
    (a_law_manner : PySem.W.nsIn K mainGlobals "_law_manner" = some (some (.ref f_law_manner)))
    (l_law_manner : K.lookup f_law_manner = some ⟨oc_law_manner, od_law_manner, .func (PySem.W.fnOf "_law_manner" "_law_manner" (defArgs s_law_manner) (defBody s_law_manner) (defScope s_law_manner) .none kV_law_manner dc_law_manner pm_law_manner an_law_manner cd_law_manner ct_law_manner), sl_law_manner⟩)
    (c_law_manner : PySem.W.codeIn K cd_law_manner "_law_manner" = true)
    (k_law_manner : PySem.W.keepIn K (.ref f_law_manner) = true)
    (a_law_book : PySem.W.nsIn K mainGlobals "_law_book" = some (some (.ref f_law_book)))
    (l_law_book : K.lookup f_law_book = some ⟨oc_law_book, od_law_book, .func (PySem.W.fnOf "_law_book" "_law_book" (defArgs s_law_book) (defBody s_law_book) (defScope s_law_book) .none kV_law_book dc_law_book pm_law_book an_law_book cd_law_book ct_law_book), sl_law_book⟩)
    (c_law_book : PySem.W.codeIn K cd_law_book "_law_book" = true)
    (k_law_book : PySem.W.keepIn K (.ref f_law_book) = true)
    (a_law_text : PySem.W.nsIn K mainGlobals "_law_text" = some (some (.ref f_law_text)))
    (l_law_text : K.lookup f_law_text = some ⟨oc_law_text, od_law_text, .func (PySem.W.fnOf "_law_text" "_law_text" (defArgs s_law_text) (defBody s_law_text) (defScope s_law_text) .none kV_law_text dc_law_text pm_law_text an_law_text cd_law_text ct_law_text), sl_law_text⟩)
    (c_law_text : PySem.W.codeIn K cd_law_text "_law_text" = true)
    (k_law_text : PySem.W.keepIn K (.ref f_law_text) = true)
    (a_law_picked : PySem.W.nsIn K mainGlobals "_law_picked" = some (some (.ref f_law_picked)))
    (l_law_picked : K.lookup f_law_picked = some ⟨oc_law_picked, od_law_picked, .func (PySem.W.fnOf "_law_picked" "_law_picked" (defArgs s_law_picked) (defBody s_law_picked) (defScope s_law_picked) .none kV_law_picked dc_law_picked pm_law_picked an_law_picked cd_law_picked ct_law_picked), sl_law_picked⟩)
    (c_law_picked : PySem.W.codeIn K cd_law_picked "_law_picked" = true)
    (k_law_picked : PySem.W.keepIn K (.ref f_law_picked) = true)
    (a_law_tests_in : PySem.W.nsIn K mainGlobals "_law_tests_in" = some (some (.ref f_law_tests_in)))
    (l_law_tests_in : K.lookup f_law_tests_in = some ⟨oc_law_tests_in, od_law_tests_in, .func (PySem.W.fnOf "_law_tests_in" "_law_tests_in" (defArgs s_law_tests_in) (defBody s_law_tests_in) (defScope s_law_tests_in) .none kV_law_tests_in dc_law_tests_in pm_law_tests_in an_law_tests_in cd_law_tests_in ct_law_tests_in), sl_law_tests_in⟩)
    (c_law_tests_in : PySem.W.codeIn K cd_law_tests_in "_law_tests_in" = true)
    (k_law_tests_in : PySem.W.keepIn K (.ref f_law_tests_in) = true)
    (a_law_manner_in : PySem.W.nsIn K mainGlobals "_law_manner_in" = some (some (.ref f_law_manner_in)))
    (l_law_manner_in : K.lookup f_law_manner_in = some ⟨oc_law_manner_in, od_law_manner_in, .func (PySem.W.fnOf "_law_manner_in" "_law_manner_in" (defArgs s_law_manner_in) (defBody s_law_manner_in) (defScope s_law_manner_in) .none kV_law_manner_in dc_law_manner_in pm_law_manner_in an_law_manner_in cd_law_manner_in ct_law_manner_in), sl_law_manner_in⟩)
    (c_law_manner_in : PySem.W.codeIn K cd_law_manner_in "_law_manner_in" = true)
    (k_law_manner_in : PySem.W.keepIn K (.ref f_law_manner_in) = true)
    (a_law_due : PySem.W.nsIn K mainGlobals "_law_due" = some (some (.ref f_law_due)))
    (l_law_due : K.lookup f_law_due = some ⟨oc_law_due, od_law_due, .func (PySem.W.fnOf "_law_due" "_law_due" (defArgs s_law_due) (defBody s_law_due) (defScope s_law_due) .none kV_law_due dc_law_due pm_law_due an_law_due cd_law_due ct_law_due), sl_law_due⟩)
    (c_law_due : PySem.W.codeIn K cd_law_due "_law_due" = true)
    (k_law_due : PySem.W.keepIn K (.ref f_law_due) = true)
    (a_law_heard : PySem.W.nsIn K mainGlobals "_law_heard" = some (some (.ref f_law_heard)))
    (l_law_heard : K.lookup f_law_heard = some ⟨oc_law_heard, od_law_heard, .func (PySem.W.fnOf "_law_heard" "_law_heard" (defArgs s_law_heard) (defBody s_law_heard) (defScope s_law_heard) .none kV_law_heard dc_law_heard pm_law_heard an_law_heard cd_law_heard ct_law_heard), sl_law_heard⟩)
    (c_law_heard : PySem.W.codeIn K cd_law_heard "_law_heard" = true)
    (k_law_heard : PySem.W.keepIn K (.ref f_law_heard) = true)
    (a_law_spoilt : PySem.W.nsIn K mainGlobals "_law_spoilt" = some (some (.ref f_law_spoilt)))
    (l_law_spoilt : K.lookup f_law_spoilt = some ⟨oc_law_spoilt, od_law_spoilt, .func (PySem.W.fnOf "_law_spoilt" "_law_spoilt" (defArgs s_law_spoilt) (defBody s_law_spoilt) (defScope s_law_spoilt) .none kV_law_spoilt dc_law_spoilt pm_law_spoilt an_law_spoilt cd_law_spoilt ct_law_spoilt), sl_law_spoilt⟩)
    (c_law_spoilt : PySem.W.codeIn K cd_law_spoilt "_law_spoilt" = true)
    (k_law_spoilt : PySem.W.keepIn K (.ref f_law_spoilt) = true)
    (a_law : PySem.W.nsIn K mainGlobals "law" = some (some (.ref f_law)))
    (l_law : K.lookup f_law = some ⟨oc_law, od_law, .func (PySem.W.fnOf "law" "law" (defArgs s_law) (defBody s_law) (defScope s_law) .none kV_law dc_law pm_law an_law cd_law ct_law), sl_law⟩)
    (c_law : PySem.W.codeIn K cd_law "law" = true)
    (k_law : PySem.W.keepIn K (.ref f_law) = true)
    (z_abs : PySem.W.nsIn K mainGlobals "abs" = some none)
    (z_all : PySem.W.nsIn K mainGlobals "all" = some none)
    (z_bool : PySem.W.nsIn K mainGlobals "bool" = some none)
    (z_enumerate : PySem.W.nsIn K mainGlobals "enumerate" = some none)
    (z_int : PySem.W.nsIn K mainGlobals "int" = some none)
    (z_isinstance : PySem.W.nsIn K mainGlobals "isinstance" = some none)
    (z_len : PySem.W.nsIn K mainGlobals "len" = some none)
    (z_range : PySem.W.nsIn K mainGlobals "range" = some none)
    (z_repr : PySem.W.nsIn K mainGlobals "repr" = some none)
    (z_str : PySem.W.nsIn K mainGlobals "str" = some none)
    (z_tuple : PySem.W.nsIn K mainGlobals "tuple" = some none)
    (z_zip : PySem.W.nsIn K mainGlobals "zip" = some none)
    (a_ANY_TIME : PySem.W.nsIn K mainGlobals "ANY_TIME" = some (some (Value.str "any time" t_ANY_TIME)))
    (a_MAX_MACHINES : PySem.W.nsIn K mainGlobals "MAX_MACHINES" = some (some (Value.int 6 t_MAX_MACHINES)))
    (a_NOTES : PySem.W.nsIn K mainGlobals "NOTES" = some (some (.ref r_NOTES)))
    (l_NOTES : K.lookup r_NOTES = some ⟨.type "tuple", none, .seq (List.toArray [(Value.str "got higher" t_NOTES_0), (Value.str "got lower" t_NOTES_1), (Value.str "sent higher" t_NOTES_2), (Value.str "sent lower" t_NOTES_3)]) n_NOTES, sl_NOTES⟩)
    (a_NO_TESTS : PySem.W.nsIn K mainGlobals "NO_TESTS" = some (some (Value.str "tests none" t_NO_TESTS)))
    (a_TESTS : PySem.W.nsIn K mainGlobals "TESTS" = some (some (.ref r_TESTS)))
    (l_TESTS : K.lookup r_TESTS = some ⟨.type "tuple", none, .seq (List.toArray [Value.ref r_TESTS_0, Value.ref r_TESTS_1, Value.ref r_TESTS_2, Value.ref r_TESTS_3, Value.ref r_TESTS_4, Value.ref r_TESTS_5]) n_TESTS, sl_TESTS⟩)
    (l_TESTS_5 : K.lookup r_TESTS_5 = some ⟨.type "tuple", none, .seq (List.toArray [(Value.str "S1" t_TESTS_5_0), (Value.str "S2" t_TESTS_5_1)]) n_TESTS_5, sl_TESTS_5⟩)
    (l_TESTS_4 : K.lookup r_TESTS_4 = some ⟨.type "tuple", none, .seq (List.toArray [(Value.str "G2" t_TESTS_4_0), (Value.str "S2" t_TESTS_4_1)]) n_TESTS_4, sl_TESTS_4⟩)
    (l_TESTS_3 : K.lookup r_TESTS_3 = some ⟨.type "tuple", none, .seq (List.toArray [(Value.str "G2" t_TESTS_3_0), (Value.str "S1" t_TESTS_3_1)]) n_TESTS_3, sl_TESTS_3⟩)
    (l_TESTS_2 : K.lookup r_TESTS_2 = some ⟨.type "tuple", none, .seq (List.toArray [(Value.str "G1" t_TESTS_2_0), (Value.str "S2" t_TESTS_2_1)]) n_TESTS_2, sl_TESTS_2⟩)
    (l_TESTS_1 : K.lookup r_TESTS_1 = some ⟨.type "tuple", none, .seq (List.toArray [(Value.str "G1" t_TESTS_1_0), (Value.str "S1" t_TESTS_1_1)]) n_TESTS_1, sl_TESTS_1⟩)
    (l_TESTS_0 : K.lookup r_TESTS_0 = some ⟨.type "tuple", none, .seq (List.toArray [(Value.str "G1" t_TESTS_0_0), (Value.str "G2" t_TESTS_0_1)]) n_TESTS_0, sl_TESTS_0⟩)
    (a_TESTS_HEAD : PySem.W.nsIn K mainGlobals "TESTS_HEAD" = some (some (Value.str "tests " t_TESTS_HEAD)))
    (a_WAITS : PySem.W.nsIn K mainGlobals "WAITS" = some (some (Value.str "waits" t_WAITS)))
    (a_BadBook : PySem.W.nsIn K mainGlobals "BadBook" = some (some (.ref C_BadBook)))
    (a_BadText : PySem.W.nsIn K mainGlobals "BadText" = some (some (.ref C_BadText)))
    (a_StillError : PySem.W.nsIn K mainGlobals "StillError" = some (some (.ref C_StillError)))
    (hd_BadBook : PySem.W.hasDictIn K C_BadBook = true)
    (sb_BadBook : PySem.W.subIn K (.ref C_BadBook) (.type "BaseException") = some true)
    (ty_BadBook : PySem.W.typeIn K (.ref C_BadBook) = some (.type "type"))
    (ga_BadBook : PySem.W.findIn K (.ref C_BadBook) "__getattribute__" = some (some (.builtin "BaseException.__getattribute__")))
    (gt_BadBook : PySem.W.findIn K (.ref C_BadBook) "__getattr__" = some none)
    (cc_BadBook : PySem.W.findIn K (.ref C_BadBook) "__class__" = some (some (.builtin "object.__class__")))
    (mo_BadBook : PySem.W.mroIn K C_BadBook (.type "object") = some true)
    (cl_BadBook : PySem.W.isClsIn K C_BadBook = true)
    (nn_ : PySem.W.specialIn K (.builtin "object.__class__") "__get__" = some (some (.builtin "getset_descriptor.__get__")))
    (tk_ : PySem.W.takesIn K (.builtin "object.__class__") = some true)
    (s_BadBook_BadBook : PySem.W.subIn K (.ref C_BadBook) (.ref C_BadBook) = some true)
    (s_BadText_BadBook : PySem.W.subIn K (.ref C_BadText) (.ref C_BadBook) = some false)
    (kp_BadBook : PySem.W.keepIn K (.ref C_BadBook) = true)
    (x_BadBook : K.lookup C_BadBook = some (excClassObj nm_BadBook q_BadBook C_BadBook N_BadBook bs_BadBook [.ref B_BadBook_StillError, .type "ValueError", .type "Exception", .type "BaseException", .type "object"] true sn_BadBook sub_c_BadBook ab_BadBook col_BadBook dd_BadBook k0_BadBook k1_BadBook k2_BadBook k3_BadBook k5_BadBook "ValueError.__new__"))
    (sa_BadBook : PySem.W.findIn K (.ref C_BadBook) "__setattr__" = some (some (.builtin "object.__setattr__")))
    (no_BadBook : PySem.W.findIn K (.ref C_BadBook) "error" = some none)
    (in_BadBook : PySem.W.findIn K (.ref C_BadBook) "__init__" = some (some (.ref fI_BadBook)))
    (it_BadBook : PySem.W.typeIn K (.ref fI_BadBook) = some (.type "function"))
    (lI_BadBook : K.lookup fI_BadBook = some ⟨ocI_BadBook, odI_BadBook, .func (PySem.W.fnOf "__init__" "BadBook.__init__" (defArgs s_init_BadBook) (defBody s_init_BadBook) (defScope s_init_BadBook) .none kVI_BadBook dcI_BadBook pmI_BadBook anI_BadBook cdI_BadBook ctI_BadBook), slI_BadBook⟩)
    (cI_BadBook : PySem.W.codeIn K cdI_BadBook "BadBook.__init__" = true)
    (kI_BadBook : PySem.W.keepIn K (.ref fI_BadBook) = true)
    (hd_BadText : PySem.W.hasDictIn K C_BadText = true)
    (sb_BadText : PySem.W.subIn K (.ref C_BadText) (.type "BaseException") = some true)
    (ty_BadText : PySem.W.typeIn K (.ref C_BadText) = some (.type "type"))
    (ga_BadText : PySem.W.findIn K (.ref C_BadText) "__getattribute__" = some (some (.builtin "BaseException.__getattribute__")))
    (gt_BadText : PySem.W.findIn K (.ref C_BadText) "__getattr__" = some none)
    (cc_BadText : PySem.W.findIn K (.ref C_BadText) "__class__" = some (some (.builtin "object.__class__")))
    (mo_BadText : PySem.W.mroIn K C_BadText (.type "object") = some true)
    (cl_BadText : PySem.W.isClsIn K C_BadText = true)
    (s_BadBook_BadText : PySem.W.subIn K (.ref C_BadBook) (.ref C_BadText) = some false)
    (s_BadText_BadText : PySem.W.subIn K (.ref C_BadText) (.ref C_BadText) = some true)
    (kp_BadText : PySem.W.keepIn K (.ref C_BadText) = true)
    (x_BadText : K.lookup C_BadText = some (excClassObj nm_BadText q_BadText C_BadText N_BadText bs_BadText [.ref B_BadText_StillError, .type "ValueError", .type "Exception", .type "BaseException", .type "object"] true sn_BadText sub_c_BadText ab_BadText col_BadText dd_BadText k0_BadText k1_BadText k2_BadText k3_BadText k5_BadText "ValueError.__new__"))
    (sa_BadText : PySem.W.findIn K (.ref C_BadText) "__setattr__" = some (some (.builtin "object.__setattr__")))
    (no_BadText : PySem.W.findIn K (.ref C_BadText) "line" = some none)
    (in_BadText : PySem.W.findIn K (.ref C_BadText) "__init__" = some (some (.ref fI_BadText)))
    (it_BadText : PySem.W.typeIn K (.ref fI_BadText) = some (.type "function"))
    (lI_BadText : K.lookup fI_BadText = some ⟨ocI_BadText, odI_BadText, .func (PySem.W.fnOf "__init__" "BadText.__init__" (defArgs s_init_BadText) (defBody s_init_BadText) (defScope s_init_BadText) .none kVI_BadText dcI_BadText pmI_BadText anI_BadText cdI_BadText ctI_BadText), slI_BadText⟩)
    (cI_BadText : PySem.W.codeIn K cdI_BadText "BadText.__init__" = true)
    (kI_BadText : PySem.W.keepIn K (.ref fI_BadText) = true)
    (cl_StillError : PySem.W.isClsIn K C_StillError = true)
    (ty_StillError : PySem.W.typeIn K (.ref C_StillError) = some (.type "type"))
    (ki_BadBook_StillError : PySem.W.subIn K (.ref C_BadBook) (.ref C_StillError) = some true)
    (ki_BadText_StillError : PySem.W.subIn K (.ref C_BadText) (.ref C_StillError) = some true)
    : ∃ (fd : FuncData) (cm : Str → Value), (∀ (s : Shared) (u : Value), BindsTo s fd ⟨[u], []⟩ [("script", u)]) ∧ ∀ base : Heap, K.In base → FnG P w K mg base 7 fa fd ["script"] (spD K cm 1 F_law) := by
  have e := hfa.symm.trans (PySem.W.mg_of X G a_law)
  cases e
  let cmf : Str → Value := fun n => if n = "BadBook" then .ref C_BadBook else if n = "BadText" then .ref C_BadText else .none
  have su_BadBook : ∀ m r, sub_BadBook m = some r → PySem.W.exmOne K (cmf m) (.ref C_BadBook) = some r := by
    intro m r h
    unfold sub_BadBook at h
    by_cases e0 : m = "BadBook"
    · rw [if_pos e0] at h
      cases h
      subst e0
      exact (congrArg (fun c => PySem.W.exmOne K c (.ref C_BadBook)) (show cmf "BadBook" = .ref C_BadBook from if_pos rfl)).trans (PySem.W.exm_ref sb_BadBook hd_BadBook ty_BadBook s_BadBook_BadBook)
    · rw [if_neg e0] at h
      by_cases e1 : m = "BadText"
      · rw [if_pos e1] at h
        cases h
        subst e1
        exact (congrArg (fun c => PySem.W.exmOne K c (.ref C_BadBook)) (show cmf "BadText" = .ref C_BadText from (if_neg (by decide +kernel)).trans (if_pos rfl))).trans (PySem.W.exm_ref sb_BadBook hd_BadBook ty_BadBook s_BadText_BadBook)
      · rw [if_neg e1] at h
        cases h
  have su_BadText : ∀ m r, sub_BadText m = some r → PySem.W.exmOne K (cmf m) (.ref C_BadText) = some r := by
    intro m r h
    unfold sub_BadText at h
    by_cases e0 : m = "BadBook"
    · rw [if_pos e0] at h
      cases h
      subst e0
      exact (congrArg (fun c => PySem.W.exmOne K c (.ref C_BadText)) (show cmf "BadBook" = .ref C_BadBook from if_pos rfl)).trans (PySem.W.exm_ref sb_BadText hd_BadText ty_BadText s_BadBook_BadText)
    · rw [if_neg e0] at h
      by_cases e1 : m = "BadText"
      · rw [if_pos e1] at h
        cases h
        subst e1
        exact (congrArg (fun c => PySem.W.exmOne K c (.ref C_BadText)) (show cmf "BadText" = .ref C_BadText from (if_neg (by decide +kernel)).trans (if_pos rfl))).trans (PySem.W.exm_ref sb_BadText hd_BadText ty_BadText s_BadText_BadText)
      · rw [if_neg e1] at h
        cases h
  let T : Txt w K mg cmf := {
    a_is_integer := f_is_integer, fd_is_integer := _, F_is_integer := fun_mk (st := s_is_integer) l_is_integer c_is_integer k_is_integer, m_is_integer := PySem.W.mg_of X G a_is_integer,
    a_is_many := f_is_many, fd_is_many := _, F_is_many := fun_mk (st := s_is_many) l_is_many c_is_many k_is_many, m_is_many := PySem.W.mg_of X G a_is_many,
    a_is_ascending := f_is_ascending, fd_is_ascending := _, F_is_ascending := fun_mk (st := s_is_ascending) l_is_ascending c_is_ascending k_is_ascending, m_is_ascending := PySem.W.mg_of X G a_is_ascending,
    a_is_notes := f_is_notes, fd_is_notes := _, F_is_notes := fun_mk (st := s_is_notes) l_is_notes c_is_notes k_is_notes, m_is_notes := PySem.W.mg_of X G a_is_notes,
    a_tests_error := f_tests_error, fd_tests_error := _, F_tests_error := fun_mk (st := s_tests_error) l_tests_error c_tests_error k_tests_error, m_tests_error := PySem.W.mg_of X G a_tests_error,
    a_tests_of := f_tests_of, fd_tests_of := _, F_tests_of := fun_mk (st := s_tests_of) l_tests_of c_tests_of k_tests_of, m_tests_of := PySem.W.mg_of X G a_tests_of,
    a_manner_of := f_manner_of, fd_manner_of := _, F_manner_of := fun_mk (st := s_manner_of) l_manner_of c_manner_of k_manner_of, m_manner_of := PySem.W.mg_of X G a_manner_of,
    a_manners_of := f_manners_of, fd_manners_of := _, F_manners_of := fun_mk (st := s_manners_of) l_manners_of c_manners_of k_manners_of, m_manners_of := PySem.W.mg_of X G a_manners_of,
    a_read_book := f_read_book, fd_read_book := _, F_read_book := fun_mk (st := s_read_book) l_read_book c_read_book k_read_book, m_read_book := PySem.W.mg_of X G a_read_book,
    a_law_deck := f_law_deck, fd_law_deck := _, F_law_deck := fun_mk (st := s_law_deck) l_law_deck c_law_deck k_law_deck, m_law_deck := PySem.W.mg_of X G a_law_deck,
    a_law_draw := f_law_draw, fd_law_draw := _, F_law_draw := fun_mk (st := s_law_draw) l_law_draw c_law_draw k_law_draw, m_law_draw := PySem.W.mg_of X G a_law_draw,
    a_law_pick := f_law_pick, fd_law_pick := _, F_law_pick := fun_mk (st := s_law_pick) l_law_pick c_law_pick k_law_pick, m_law_pick := PySem.W.mg_of X G a_law_pick,
    a_law_tests := f_law_tests, fd_law_tests := _, F_law_tests := fun_mk (st := s_law_tests) l_law_tests c_law_tests k_law_tests, m_law_tests := PySem.W.mg_of X G a_law_tests,
    a_law_words := f_law_words, fd_law_words := _, F_law_words := fun_mk (st := s_law_words) l_law_words c_law_words k_law_words, m_law_words := PySem.W.mg_of X G a_law_words,
    a_law_manner := f_law_manner, fd_law_manner := _, F_law_manner := fun_mk (st := s_law_manner) l_law_manner c_law_manner k_law_manner, m_law_manner := PySem.W.mg_of X G a_law_manner,
    a_law_book := f_law_book, fd_law_book := _, F_law_book := fun_mk (st := s_law_book) l_law_book c_law_book k_law_book, m_law_book := PySem.W.mg_of X G a_law_book,
    a_law_text := f_law_text, fd_law_text := _, F_law_text := fun_mk (st := s_law_text) l_law_text c_law_text k_law_text, m_law_text := PySem.W.mg_of X G a_law_text,
    a_law_picked := f_law_picked, fd_law_picked := _, F_law_picked := fun_mk (st := s_law_picked) l_law_picked c_law_picked k_law_picked, m_law_picked := PySem.W.mg_of X G a_law_picked,
    a_law_tests_in := f_law_tests_in, fd_law_tests_in := _, F_law_tests_in := fun_mk (st := s_law_tests_in) l_law_tests_in c_law_tests_in k_law_tests_in, m_law_tests_in := PySem.W.mg_of X G a_law_tests_in,
    a_law_manner_in := f_law_manner_in, fd_law_manner_in := _, F_law_manner_in := fun_mk (st := s_law_manner_in) l_law_manner_in c_law_manner_in k_law_manner_in, m_law_manner_in := PySem.W.mg_of X G a_law_manner_in,
    a_law_due := f_law_due, fd_law_due := _, F_law_due := fun_mk (st := s_law_due) l_law_due c_law_due k_law_due, m_law_due := PySem.W.mg_of X G a_law_due,
    a_law_heard := f_law_heard, fd_law_heard := _, F_law_heard := fun_mk (st := s_law_heard) l_law_heard c_law_heard k_law_heard, m_law_heard := PySem.W.mg_of X G a_law_heard,
    a_law_spoilt := f_law_spoilt, fd_law_spoilt := _, F_law_spoilt := fun_mk (st := s_law_spoilt) l_law_spoilt c_law_spoilt k_law_spoilt, m_law_spoilt := PySem.W.mg_of X G a_law_spoilt,
    a_law := fa, fd_law := _, F_law := fun_mk (st := s_law) l_law c_law k_law, m_law := PySem.W.mg_of X G a_law,
    z_abs := PySem.W.mg_none_of X G z_abs,
    z_all := PySem.W.mg_none_of X G z_all,
    z_bool := PySem.W.mg_none_of X G z_bool,
    z_enumerate := PySem.W.mg_none_of X G z_enumerate,
    z_int := PySem.W.mg_none_of X G z_int,
    z_isinstance := PySem.W.mg_none_of X G z_isinstance,
    z_len := PySem.W.mg_none_of X G z_len,
    z_range := PySem.W.mg_none_of X G z_range,
    z_repr := PySem.W.mg_none_of X G z_repr,
    z_str := PySem.W.mg_none_of X G z_str,
    z_tuple := PySem.W.mg_none_of X G z_tuple,
    z_zip := PySem.W.mg_none_of X G z_zip,
    u_ANY_TIME := _, v_ANY_TIME := (.str "any time"), rv_ANY_TIME := ⟨_, rfl⟩, m_ANY_TIME := PySem.W.mg_of X G a_ANY_TIME, r_ANY_TIME := fun _ _ => .str _,
    u_MAX_MACHINES := _, v_MAX_MACHINES := (.int 6), rv_MAX_MACHINES := ⟨_, rfl⟩, m_MAX_MACHINES := PySem.W.mg_of X G a_MAX_MACHINES, r_MAX_MACHINES := fun _ _ => .int _,
    a_NOTES := r_NOTES, m_NOTES := PySem.W.mg_of X G a_NOTES, r_NOTES := ro_line (vs := [(.str "got higher"), (.str "got lower"), (.str "sent higher"), (.str "sent lower")]) l_NOTES (.cons ⟨_, rfl⟩ (.cons ⟨_, rfl⟩ (.cons ⟨_, rfl⟩ (.cons ⟨_, rfl⟩ .nil)))) (by show 4 ≤ sizeLine; rw [sizeLine_eq]; omega) fun L H => (.cons (.str _) (.cons (.str _) (.cons (.str _) (.cons (.str _) .nil)))),
    u_NO_TESTS := _, v_NO_TESTS := (.str "tests none"), rv_NO_TESTS := ⟨_, rfl⟩, m_NO_TESTS := PySem.W.mg_of X G a_NO_TESTS, r_NO_TESTS := fun _ _ => .str _,
    a_TESTS := r_TESTS, m_TESTS := PySem.W.mg_of X G a_TESTS, r_TESTS := ro_line (vs := [.ref r_TESTS_0, .ref r_TESTS_1, .ref r_TESTS_2, .ref r_TESTS_3, .ref r_TESTS_4, .ref r_TESTS_5]) l_TESTS (.cons rfl (.cons rfl (.cons rfl (.cons rfl (.cons rfl (.cons rfl .nil)))))) (by show 6 ≤ sizeLine; rw [sizeLine_eq]; omega) fun L H => (.cons ((ro_line (vs := [(.str "G1"), (.str "G2")]) l_TESTS_0 (.cons ⟨_, rfl⟩ (.cons ⟨_, rfl⟩ .nil)) (by show 2 ≤ sizeLine; rw [sizeLine_eq]; omega) fun L H => (.cons (.str _) (.cons (.str _) .nil))) L H) (.cons ((ro_line (vs := [(.str "G1"), (.str "S1")]) l_TESTS_1 (.cons ⟨_, rfl⟩ (.cons ⟨_, rfl⟩ .nil)) (by show 2 ≤ sizeLine; rw [sizeLine_eq]; omega) fun L H => (.cons (.str _) (.cons (.str _) .nil))) L H) (.cons ((ro_line (vs := [(.str "G1"), (.str "S2")]) l_TESTS_2 (.cons ⟨_, rfl⟩ (.cons ⟨_, rfl⟩ .nil)) (by show 2 ≤ sizeLine; rw [sizeLine_eq]; omega) fun L H => (.cons (.str _) (.cons (.str _) .nil))) L H) (.cons ((ro_line (vs := [(.str "G2"), (.str "S1")]) l_TESTS_3 (.cons ⟨_, rfl⟩ (.cons ⟨_, rfl⟩ .nil)) (by show 2 ≤ sizeLine; rw [sizeLine_eq]; omega) fun L H => (.cons (.str _) (.cons (.str _) .nil))) L H) (.cons ((ro_line (vs := [(.str "G2"), (.str "S2")]) l_TESTS_4 (.cons ⟨_, rfl⟩ (.cons ⟨_, rfl⟩ .nil)) (by show 2 ≤ sizeLine; rw [sizeLine_eq]; omega) fun L H => (.cons (.str _) (.cons (.str _) .nil))) L H) (.cons ((ro_line (vs := [(.str "S1"), (.str "S2")]) l_TESTS_5 (.cons ⟨_, rfl⟩ (.cons ⟨_, rfl⟩ .nil)) (by show 2 ≤ sizeLine; rw [sizeLine_eq]; omega) fun L H => (.cons (.str _) (.cons (.str _) .nil))) L H) .nil)))))),
    u_TESTS_HEAD := _, v_TESTS_HEAD := (.str "tests "), rv_TESTS_HEAD := ⟨_, rfl⟩, m_TESTS_HEAD := PySem.W.mg_of X G a_TESTS_HEAD, r_TESTS_HEAD := fun _ _ => .str _,
    u_WAITS := _, v_WAITS := (.str "waits"), rv_WAITS := ⟨_, rfl⟩, m_WAITS := PySem.W.mg_of X G a_WAITS, r_WAITS := fun _ _ => .str _,
    a_BadBook := C_BadBook, m_BadBook := PySem.W.mg_of X G a_BadBook,
    a_BadText := C_BadText, m_BadText := PySem.W.mg_of X G a_BadText,
    a_StillError := C_StillError, m_StillError := PySem.W.mg_of X G a_StillError,
    cm_BadBook := if_pos rfl, ic_BadBook := ⟨cl_BadBook, ga_BadBook, gt_BadBook, sb_BadBook, cc_BadBook, nn_, tk_, mo_BadBook⟩,
    fI_BadBook := fI_BadBook, fdI_BadBook := _, FI_BadBook := fun_mk (st := s_init_BadBook) lI_BadBook cI_BadBook kI_BadBook, ox_BadBook := ⟨⟨_, _, _, _, _, _, _, _, _, _, _, _, _, _, _, x_BadBook, by rfl⟩, sa_BadBook, sb_BadBook, ty_BadBook, kp_BadBook⟩, no_BadBook := no_BadBook, in_BadBook := in_BadBook, it_BadBook := it_BadBook, xf_BadBook := ⟨ga_BadBook, gt_BadBook, sb_BadBook, hd_BadBook⟩,
    cm_BadText := (if_neg (by decide +kernel)).trans (if_pos rfl), ic_BadText := ⟨cl_BadText, ga_BadText, gt_BadText, sb_BadText, cc_BadText, nn_, tk_, mo_BadText⟩,
    fI_BadText := fI_BadText, fdI_BadText := _, FI_BadText := fun_mk (st := s_init_BadText) lI_BadText cI_BadText kI_BadText, ox_BadText := ⟨⟨_, _, _, _, _, _, _, _, _, _, _, _, _, _, _, x_BadText, by rfl⟩, sa_BadText, sb_BadText, ty_BadText, kp_BadText⟩, no_BadText := no_BadText, in_BadText := in_BadText, it_BadText := it_BadText, xf_BadText := ⟨ga_BadText, gt_BadText, sb_BadText, hd_BadText⟩,
    kit_BadBook_StillError := kit_true cl_StillError ty_StillError ki_BadBook_StillError,
    kit_BadText_StillError := kit_true cl_StillError ty_StillError ki_BadText_StillError,
    su_BadBook := su_BadBook,
    su_BadText := su_BadText }
  exact ⟨PySem.W.fnOf "law" "law" (defArgs s_law) (defBody s_law) (defScope s_law) .none kV_law dc_law pm_law an_law cd_law ct_law, cmf, fun s v => .of_eq rfl, fun base _ => ok_law T⟩
end K05

open PySem PySem.W PyProof.Rows in
set_option maxRecDepth 100000 in
set_option maxHeartbeats 0 in
theorem PySem.Challenge.cw_stillrounds_k05_whole_spoilt_texts_of_bo_holds : PySem.Challenge.rw_stillrounds_k05_whole_spoilt_texts_of_bo.Holds := by
  w_on; o_law; k_head; (case hw => w_witness2)
  k_fill
  refine Den.walk_den (l := PySem.Challenge.rw_stillrounds_k05_whole_spoilt_texts_of_bo) (n := 63) (k := 7) (x := "script") (F0 := K05.F_law) rfl (by decide) rfl ⟨rfl, by decide, by decide⟩ (fun w h Y => PySem.W.kIn_of Y) ?F K05.holds
  case F =>
    intro w mg fa h KX G hmg
    refine' K05.all_mk KX G hmg ?q0 ?q1 ?q2 ?q3 ?q4 ?q5 ?q6 ?q7 ?q8 ?q9 ?q10 ?q11 ?q12 ?q13 ?q14 ?q15 ?q16 ?q17 ?q18 ?q19 ?q20 ?q21 ?q22 ?q23 ?q24 ?q25 ?q26 ?q27 ?q28 ?q29 ?q30 ?q31 ?q32 ?q33 ?q34 ?q35 ?q36 ?q37 ?q38 ?q39 ?q40 ?q41 ?q42 ?q43 ?q44 ?q45 ?q46 ?q47 ?q48 ?q49 ?q50 ?q51 ?q52 ?q53 ?q54 ?q55 ?q56 ?q57 ?q58 ?q59 ?q60 ?q61 ?q62 ?q63 ?q64 ?q65 ?q66 ?q67 ?q68 ?q69 ?q70 ?q71 ?q72 ?q73 ?q74 ?q75 ?q76 ?q77 ?q78 ?q79 ?q80 ?q81 ?q82 ?q83 ?q84 ?q85 ?q86 ?q87 ?q88 ?q89 ?q90 ?q91 ?q92 ?q93 ?q94 ?q95 ?q96 ?q97 ?q98 ?q99 ?q100 ?q101 ?q102 ?q103 ?q104 ?q105 ?q106 ?q107 ?q108 ?q109 ?q110 ?q111 ?q112 ?q113 ?q114 ?q115 ?q116 ?q117 ?q118 ?q119 ?q120 ?q121 ?q122 ?q123 ?q124 ?q125 ?q126 ?q127 ?q128 ?q129 ?q130 ?q131 ?q132 ?q133 ?q134 ?q135 ?q136 ?q137 ?q138 ?q139 ?q140 ?q141 ?q142 ?q143 ?q144 ?q145 ?q146 ?q147 ?q148 ?q149 ?q150 ?q151 ?q152 ?q153 ?q154 ?q155 ?q156 ?q157 ?q158 ?q159 ?q160 ?q161 ?q162 ?q163 ?q164 ?q165 ?q166 ?q167 ?q168 ?q169
    (case q0 => k_is)
    (case q1 => k_is)
    (case q2 => k_is)
    (case q3 => k_is)
    (case q4 => k_is)
    (case q5 => k_is)
    (case q6 => k_is)
    (case q7 => k_is)
    (case q8 => k_is)
    (case q9 => k_is)
    (case q10 => k_is)
    (case q11 => k_is)
    (case q12 => k_is)
    (case q13 => k_is)
    (case q14 => k_is)
    (case q15 => k_is)
    (case q16 => k_is)
    (case q17 => k_is)
    (case q18 => k_is)
    (case q19 => k_is)
    (case q20 => k_is)
    (case q21 => k_is)
    (case q22 => k_is)
    (case q23 => k_is)
    (case q24 => k_is)
    (case q25 => k_is)
    (case q26 => k_is)
    (case q27 => k_is)
    (case q28 => k_is)
    (case q29 => k_is)
    (case q30 => k_is)
    (case q31 => k_is)
    (case q32 => k_is)
    (case q33 => k_is)
    (case q34 => k_is)
    (case q35 => k_is)
    (case q36 => k_is)
    (case q37 => k_is)
    (case q38 => k_is)
    (case q39 => k_is)
    (case q40 => k_is)
    (case q41 => k_is)
    (case q42 => k_is)
    (case q43 => k_is)
    (case q44 => k_is)
    (case q45 => k_is)
    (case q46 => k_is)
    (case q47 => k_is)
    (case q48 => k_is)
    (case q49 => k_is)
    (case q50 => k_is)
    (case q51 => k_is)
    (case q52 => k_is)
    (case q53 => k_is)
    (case q54 => k_is)
    (case q55 => k_is)
    (case q56 => k_is)
    (case q57 => k_is)
    (case q58 => k_is)
    (case q59 => k_is)
    (case q60 => k_is)
    (case q61 => k_is)
    (case q62 => k_is)
    (case q63 => k_is)
    (case q64 => k_is)
    (case q65 => k_is)
    (case q66 => k_is)
    (case q67 => k_is)
    (case q68 => k_is)
    (case q69 => k_is)
    (case q70 => k_is)
    (case q71 => k_is)
    (case q72 => k_is)
    (case q73 => k_is)
    (case q74 => k_is)
    (case q75 => k_is)
    (case q76 => k_is)
    (case q77 => k_is)
    (case q78 => k_is)
    (case q79 => k_is)
    (case q80 => k_is)
    (case q81 => k_is)
    (case q82 => k_is)
    (case q83 => k_is)
    (case q84 => k_is)
    (case q85 => k_is)
    (case q86 => k_is)
    (case q87 => k_is)
    (case q88 => k_is)
    (case q89 => k_is)
    (case q90 => k_is)
    (case q91 => k_is)
    (case q92 => k_is)
    (case q93 => k_is)
    (case q94 => k_is)
    (case q95 => k_is)
    (case q96 => k_is)
    (case q97 => k_is)
    (case q98 => k_is)
    (case q99 => k_is)
    (case q100 => k_is)
    (case q101 => k_is)
    (case q102 => k_is)
    (case q103 => k_is)
    (case q104 => k_is)
    (case q105 => k_is)
    (case q106 => k_is)
    (case q107 => k_is)
    (case q108 => k_is)
    (case q109 => k_is)
    (case q110 => k_is)
    (case q111 => k_is)
    (case q112 => k_is)
    (case q113 => k_is)
    (case q114 => k_is)
    (case q115 => k_is)
    (case q116 => k_is)
    (case q117 => k_is)
    (case q118 => k_is)
    (case q119 => k_is)
    (case q120 => k_is)
    (case q121 => k_is)
    (case q122 => k_is)
    (case q123 => k_is)
    (case q124 => k_is)
    (case q125 => k_is)
    (case q126 => k_is)
    (case q127 => k_is)
    (case q128 => k_is)
    (case q129 => k_is)
    (case q130 => k_is)
    (case q131 => k_is)
    (case q132 => k_is)
    (case q133 => k_is)
    (case q134 => k_is)
    (case q135 => k_is)
    (case q136 => k_is)
    (case q137 => k_is)
    (case q138 => k_is)
    (case q139 => k_is)
    (case q140 => k_is)
    (case q141 => k_is)
    (case q142 => k_is)
    (case q143 => k_is)
    (case q144 => k_is)
    (case q145 => k_is)
    (case q146 => k_is)
    (case q147 => k_is)
    (case q148 => k_is)
    (case q149 => k_is)
    (case q150 => k_is)
    (case q151 => k_is)
    (case q152 => k_is)
    (case q153 => k_is)
    (case q154 => k_is)
    (case q155 => k_is)
    (case q156 => k_is)
    (case q157 => k_is)
    (case q158 => k_is)
    (case q159 => k_is)
    (case q160 => k_is)
    (case q161 => k_is)
    (case q162 => k_is)
    (case q163 => k_is)
    (case q164 => k_is)
    (case q165 => k_is)
    (case q166 => k_is)
    (case q167 => k_is)
    (case q168 => k_is)
    (case q169 => k_is)
#print axioms PySem.Challenge.cw_stillrounds_k05_whole_spoilt_texts_of_bo_holds

