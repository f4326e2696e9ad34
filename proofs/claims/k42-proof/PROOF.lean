import PyProof.Rows.All
import Wide.All
import OpenK.AllK
import Wide.FinOn
import HandS.ForMost
import HandS.ForExc
import HandS.Walk
import HandS.Wide
import HandS.ExcInit
import HandS.CallSlots
import HandS.TupAny
import HandS.TupLe
import HandS.Deep
import HandS.Zip
import HandS.ExcField
import HandS.ExcIs
import HandS.TryMany
import HandS.Gcd
import HandS.Codes
import HandS.IsInst
import HandS.SortInts
import HandS.TupSets
import KE.GoesEnum
import HandS.RaiseMore
import KE.GoesMore
import KE.GoesZip
import HandS.Style
import HandS.Conv
import KE.KTupSum
import KE.DataMinMax
import KE.SortData
import HandS.Defaults
import PyProof.EqAt
import HandS.MakeKwOnly
import HandS.TupMul
import KE.SortCalls
import PySem.Challenge.RW_lampwalks_k42_how_often_a_road_is_crosse
set_option Elab.async false
set_option maxRecDepth 100000
set_option maxHeartbeats 4000000
/-! The data layer: values as data, a store of things that may be changed, frames of what stays. -/
namespace DL
open PySem PySem.Spec L2

/-- a value as data: what is never changed stands within; a thing of the program's text, or one that may be changed, stands as its address -/
inductive D where
  | non | bl (b : Bool) | int (i : Int) | str (x : Str) | ty (n : String)
  | ref (a : Addr)
  | tup (ds : List D) | ktup (ds : List D) | lst (ds : List D) | klst (ds : List D)
  | dk (ks : List Key) (ds : List D)
  | dt (ks : List (List Key)) (ds : List D)
  | ins (C : Addr) (fs : List Str) (ds : List D)
  /-- an error that is held: where it stands, its own dict, its class, what it keeps -/
  | exc (a dx C : Addr) (w : D)

/-- what stands at an address that may be changed -/
inductive MO where
  | lst (ds : List D)
  | dk (ks : List Key) (ds : List D)
  | dt (ks : List (List Key)) (ds : List D)
  | ins (C : Addr) (fs : List Str) (ds : List D)
abbrev MS := Addr → Option MO
abbrev kWhat : Str := "what"
def MS.set (M : MS) (a : Addr) (o : MO) : MS := fun b => if b = a then some o else M b
def MS.del (M : MS) (a : Addr) : MS := fun b => if b = a then none else M b
theorem MS.set_same {M : MS} {a : Addr} {o : MO} : M.set a o a = some o := if_pos rfl
theorem MS.set_ne {M : MS} {a b : Addr} {o : MO} (h : b ≠ a) : M.set a o b = M b := if_neg h
theorem MS.del_same {M : MS} {a : Addr} : M.del a a = none := if_pos rfl
theorem MS.del_ne {M : MS} {a b : Addr} (h : b ≠ a) : M.del a b = M b := if_neg h
theorem MS.set_set {M : MS} {a : Addr} {o u : MO} : (M.set a o).set a u = M.set a u := by
  funext b; unfold MS.set; split <;> rfl

/-- the written part, and the lists that are being made (they are hidden) -/
structure KN where
  K : PySem.W.Frag
  N : Addr → Prop
section
variable (K : KN)
def TupAt (H : Hp) (M : MS) (a : Addr) (xs : List V) : Prop := H a = some (.tup xs) ∧ M a = none
def TupK (a : Addr) (xs : List V) : Prop :=
  ∃ (o : Obj) (its : Array Value) (n : Nat), K.K.lookup a = some o ∧ o.cls = .type "tuple" ∧ o.data = .seq its n ∧ its.size ≤ sizeLine ∧ Vals xs its.toList
/-- a list that the text itself holds; the script's list -/
def ScrK (a : Addr) (xs : List V) : Prop :=
  ∃ (o : Obj) (its : Array Value) (n : Nat), K.K.lookup a = some o ∧ o.cls = .type "list" ∧ o.dict = none ∧ o.data = .seq its n ∧ its.size ≤ sizeLine ∧ Vals xs its.toList
def ScrAt (H : Hp) (M : MS) (a : Addr) (xs : List V) : Prop := (∃ o, H a = some (.frz o (.lst xs)) ∧ M a = none) ∨ ScrK K a xs
def LstAt (H : Hp) (M : MS) (a : Addr) (xs : List V) : Prop := H a = some (.lst xs) ∧ M a = none ∧ ¬ K.N a

mutual
inductive Rep (H : Hp) (M : MS) : D → V → Prop where
  | non : Rep H M .non .non
  | bl (b : Bool) : Rep H M (.bl b) (.bl b)
  | int (i : Int) : Rep H M (.int i) (.int i)
  | str (x : Str) : Rep H M (.str x) (.str x)
  | ty (n : String) : Rep H M (.ty n) (.ty n)
  | ref (a : Addr) : Rep H M (.ref a) (.ref a)
  | tup {ds : List D} {a : Addr} {vs : List V} : TupAt H M a vs → Reps H M ds vs → Rep H M (.tup ds) (.ref a)
  | ktup {ds : List D} {a : Addr} {vs : List V} : TupK K a vs → Reps H M ds vs → Rep H M (.ktup ds) (.ref a)
  | lst {ds : List D} {a : Addr} {vs : List V} : LstAt K H M a vs → Reps H M ds vs → Rep H M (.lst ds) (.ref a)
  | klst {ds : List D} {a : Addr} {vs : List V} : ScrAt K H M a vs → Reps H M ds vs → Rep H M (.klst ds) (.ref a)
  | dk {ks : List Key} {ds : List D} {a : Addr} {vs : List V} : H a = some (.dK (ks.zip vs)) → M a = none → ks.length = vs.length → Reps H M ds vs → Rep H M (.dk ks ds) (.ref a)
  | dt {ks : List (List Key)} {ds : List D} {a : Addr} {vs : List V} : H a = some (.dT (ks.zip vs)) → M a = none → ks.length = vs.length → Reps H M ds vs → Rep H M (.dt ks ds) (.ref a)
  | ins {C dx : Addr} {fs : List Str} {ds : List D} {a : Addr} {vs : List V} : H a = some (.ins C dx (fs.zip vs)) → M a = none → fs.length = vs.length → Reps H M ds vs → Rep H M (.ins C fs ds) (.ref a)
  | exc {a dx C : Addr} {w : D} {v : V} : H dx = some (.xd [(kWhat, v)]) → M dx = none → Rep H M w v → Rep H M (.exc a dx C w) (.ref a)
inductive Reps (H : Hp) (M : MS) : List D → List V → Prop where
  | nil : Reps H M [] []
  | cons {d : D} {v : V} {ds : List D} {vs : List V} : Rep H M d v → Reps H M ds vs → Reps H M (d :: ds) (v :: vs)
end

/-- all that was tracked and not to be changed is as it was -/
structure Fr (H : Hp) (M : MS) (H' : Hp) (M' : MS) : Prop where
  keep : ∀ a u, H a = some u → M a = none → H' a = some u ∧ M' a = none
theorem Fr.refl (H : Hp) (M : MS) : Fr H M H M := ⟨fun _ _ h m => ⟨h, m⟩⟩
theorem Fr.trans {H H1 H2 : Hp} {M M1 M2 : MS} (f : Fr H M H1 M1) (g : Fr H1 M1 H2 M2) : Fr H M H2 M2 := ⟨fun a u h m => by
  obtain ⟨h1, m1⟩ := f.keep a u h m
  exact g.keep a u h1 m1⟩
variable {K}
theorem TupAt.mono {H H' : Hp} {M M' : MS} {a : Addr} {xs : List V} (f : Fr H M H' M') (h : TupAt H M a xs) : TupAt H' M' a xs := f.keep _ _ h.1 h.2
theorem LstAt.mono {H H' : Hp} {M M' : MS} {a : Addr} {xs : List V} (f : Fr H M H' M') (h : LstAt K H M a xs) : LstAt K H' M' a xs :=
  ⟨(f.keep _ _ h.1 h.2.1).1, (f.keep _ _ h.1 h.2.1).2, h.2.2⟩
theorem ScrAt.mono {H H' : Hp} {M M' : MS} {a : Addr} {xs : List V} (f : Fr H M H' M') (h : ScrAt K H M a xs) : ScrAt K H' M' a xs := h.imp (fun ⟨o, e, m⟩ => ⟨o, f.keep _ _ e m⟩) id
theorem ScrAt.sq {H : Hp} {M : MS} {a : Addr} {xs : List V} (h : ScrAt K H M a xs) : SqL K.K H a xs := h.elim (fun ⟨o, e, _⟩ => .inl (.inr ⟨o, e⟩)) .inr
theorem TupAt.sq {H : Hp} {M : MS} {a : Addr} {xs : List V} (h : TupAt H M a xs) : SqT K.K H a xs := .inl (.inl h.1)
theorem TupK.sq {H : Hp} {a : Addr} {xs : List V} (h : TupK K a xs) : SqT K.K H a xs := .inr h
theorem LstAt.sq {H : Hp} {M : MS} {a : Addr} {xs : List V} (h : LstAt K H M a xs) : SqL K.K H a xs := .inl (.inl h.1)
mutual
theorem Rep.mono {H H' : Hp} {M M' : MS} (f : Fr H M H' M') {d : D} {v : V} (h : Rep K H M d v) : Rep K H' M' d v :=
  match h with
  | .non => .non
  | .bl b => .bl b
  | .int i => .int i
  | .str x => .str x
  | .ty n => .ty n
  | .ref a => .ref a
  | .tup t r => .tup (t.mono f) (Reps.mono f r)
  | .ktup t r => .ktup t (Reps.mono f r)
  | .lst t r => .lst (t.mono f) (Reps.mono f r)
  | .klst e r => .klst (e.mono f) (Reps.mono f r)
  | .dk e m l r => .dk (f.keep _ _ e m).1 (f.keep _ _ e m).2 l (Reps.mono f r)
  | .dt e m l r => .dt (f.keep _ _ e m).1 (f.keep _ _ e m).2 l (Reps.mono f r)
  | .ins e m l r => .ins (f.keep _ _ e m).1 (f.keep _ _ e m).2 l (Reps.mono f r)
  | .exc e m r => .exc (f.keep _ _ e m).1 (f.keep _ _ e m).2 (Rep.mono f r)
theorem Reps.mono {H H' : Hp} {M M' : MS} (f : Fr H M H' M') {ds : List D} {vs : List V} (h : Reps K H M ds vs) : Reps K H' M' ds vs :=
  match h with
  | .nil => .nil
  | .cons r t => .cons (Rep.mono f r) (Reps.mono f t)
end
theorem Reps.length {H : Hp} {M : MS} : ∀ {ds : List D} {vs : List V}, Reps K H M ds vs → ds.length = vs.length
  | _, _, .nil => rfl
  | _, _, .cons _ t => congrArg Nat.succ (Reps.length t)
theorem Reps.get {H : Hp} {M : MS} : ∀ {ds : List D} {vs : List V} {i : Nat} {d : D}, Reps K H M ds vs → ds[i]? = some d → ∃ v, vs[i]? = some v ∧ Rep K H M d v
  | _, _, _, _, .nil, e => by simp at e
  | _, _, 0, _, .cons r _, e => by simp at e; subst e; exact ⟨_, rfl, r⟩
  | _, _, i + 1, d, .cons _ t, e => by
    obtain ⟨v, h1, h2⟩ := Reps.get (i := i) (d := d) t (by simpa using e)
    exact ⟨v, by simpa using h1, h2⟩
theorem Reps.getV {H : Hp} {M : MS} : ∀ {ds : List D} {vs : List V} {i : Nat} {v : V}, Reps K H M ds vs → vs[i]? = some v → ∃ d, ds[i]? = some d ∧ Rep K H M d v
  | _, _, _, _, .nil, e => by simp at e
  | _, _, 0, _, .cons r _, e => by simp at e; subst e; exact ⟨_, rfl, r⟩
  | _, _, i + 1, d, .cons _ t, e => by
    obtain ⟨v, h1, h2⟩ := Reps.getV (i := i) (v := d) t (by simpa using e)
    exact ⟨v, by simpa using h1, h2⟩
theorem Reps.append {H : Hp} {M : MS} : ∀ {ds es : List D} {vs ws : List V}, Reps K H M ds vs → Reps K H M es ws → Reps K H M (ds ++ es) (vs ++ ws)
  | _, _, _, _, .nil, s => s
  | _, _, _, _, .cons r t, s => .cons r (Reps.append t s)
theorem Reps.take {H : Hp} {M : MS} : ∀ {ds : List D} {vs : List V} (n : Nat), Reps K H M ds vs → Reps K H M (ds.take n) (vs.take n)
  | _, _, 0, _ => .nil
  | _, _, _ + 1, .nil => .nil
  | _, _, n + 1, .cons r t => .cons r (Reps.take n t)
theorem Reps.drop {H : Hp} {M : MS} : ∀ {ds : List D} {vs : List V} (n : Nat), Reps K H M ds vs → Reps K H M (ds.drop n) (vs.drop n)
  | _, _, 0, r => r
  | _, _, _ + 1, .nil => .nil
  | _, _, n + 1, .cons _ t => Reps.drop n t
theorem Reps.set {H : Hp} {M : MS} {d : D} {v : V} (r : Rep K H M d v) : ∀ {ds : List D} {vs : List V} (i : Nat), Reps K H M ds vs → Reps K H M (ds.set i d) (vs.set i v)
  | _, _, _, .nil => .nil
  | _, _, 0, .cons _ t => .cons r t
  | _, _, i + 1, .cons q t => .cons q (Reps.set r i t)
theorem Reps.reverse {H : Hp} {M : MS} : ∀ {ds : List D} {vs : List V}, Reps K H M ds vs → Reps K H M ds.reverse vs.reverse
  | _, _, .nil => .nil
  | _, _, .cons r t => by simpa using (Reps.reverse t).append (.cons r .nil)
theorem Reps.of_get {H : Hp} {M : MS} : ∀ {ds : List D} {vs : List V}, ds.length = vs.length → (∀ (i : Nat) (d : D) (v : V), ds[i]? = some d → vs[i]? = some v → Rep K H M d v) → Reps K H M ds vs
  | [], [], _, _ => .nil
  | [], _ :: _, e, _ => by simp at e
  | _ :: _, [], e, _ => by simp at e
  | d :: ds, v :: vs, e, h => .cons (h 0 d v rfl rfl) (Reps.of_get (by simpa using e) fun i d' v' h1 h2 => h (i + 1) d' v' (by simpa using h1) (by simpa using h2))

/-! ### the things that may be changed -/
variable (K)
def OwnAt (H : Hp) (M : MS) (a : Addr) : MO → Prop
  | .lst ds => ∃ vs, H a = some (.lst vs) ∧ Reps K H M ds vs
  | .dk ks ds => ∃ vs, H a = some (.dK (ks.zip vs)) ∧ ks.length = vs.length ∧ Reps K H M ds vs
  | .dt ks ds => ∃ vs, H a = some (.dT (ks.zip vs)) ∧ ks.length = vs.length ∧ Reps K H M ds vs
  | .ins C fs ds => ∃ dx vs, H a = some (.ins C dx (fs.zip vs)) ∧ fs.length = vs.length ∧ Reps K H M ds vs
structure Own (H : Hp) (M : MS) : Prop where
  at_ : ∀ a o, M a = some o → OwnAt K H M a o
  hid : ∀ a, K.N a → M a = none ∧ ∃ u, H a = some u
variable {K}
theorem OwnAt.tracked {H : Hp} {M : MS} {a : Addr} {o : MO} (h : OwnAt K H M a o) : ∃ u, H a = some u := by
  cases o with
  | lst ds => obtain ⟨vs, e, _⟩ := h; exact ⟨_, e⟩
  | dk ks ds => obtain ⟨vs, e, _⟩ := h; exact ⟨_, e⟩
  | dt ks ds => obtain ⟨vs, e, _⟩ := h; exact ⟨_, e⟩
  | ins C fs ds => obtain ⟨dx, vs, e, _⟩ := h; exact ⟨_, e⟩
theorem Own.no {H : Hp} {M : MS} (h : Own K H M) {a : Addr} (e : H a = none) : M a = none := by
  cases q : M a with
  | none => rfl
  | some o => obtain ⟨u, h'⟩ := (h.at_ a o q).tracked; rw [e] at h'; cases h'
/-- what an owned thing says stays where its own object does -/
theorem OwnAt.mono {H H' : Hp} {M M' : MS} {a : Addr} {o : MO} (f : Fr H M H' M') (e : ∀ u, H a = some u → H' a = some u) (h : OwnAt K H M a o) : OwnAt K H' M' a o := by
  cases o with
  | lst ds => obtain ⟨vs, e1, r⟩ := h; exact ⟨vs, e _ e1, r.mono f⟩
  | dk ks ds => obtain ⟨vs, e1, l, r⟩ := h; exact ⟨vs, e _ e1, l, r.mono f⟩
  | dt ks ds => obtain ⟨vs, e1, l, r⟩ := h; exact ⟨vs, e _ e1, l, r.mono f⟩
  | ins C fs ds => obtain ⟨dx, vs, e1, l, r⟩ := h; exact ⟨dx, vs, e _ e1, l, r.mono f⟩
/-- a new object that is not to be changed -/
theorem Fr.new {H : Hp} {M : MS} {p : Addr} {o : HO} (hp : H p = none) : Fr H M (upd H p o) M := ⟨fun a u h m => ⟨by rw [upd_ne (ne_of_none h hp)]; exact h, m⟩⟩
theorem Own.new {H : Hp} {M : MS} {p : Addr} {o : HO} (h : Own K H M) (hp : H p = none) : Own K (upd H p o) M := ⟨fun a u e =>
  (h.at_ a u e).mono (Fr.new hp) fun u' e' => by rw [upd_ne (ne_of_none e' hp)]; exact e', fun a n => by
  obtain ⟨m, u, e⟩ := h.hid a n
  exact ⟨m, u, by rw [upd_ne (ne_of_none e hp)]; exact e⟩⟩
/-- a new object that may be changed -/
theorem Fr.newM {H : Hp} {M : MS} {p : Addr} {o : HO} {mo : MO} (hp : H p = none) : Fr H M (upd H p o) (M.set p mo) := ⟨fun a u h m => ⟨by rw [upd_ne (ne_of_none h hp)]; exact h, by rw [MS.set_ne (ne_of_none h hp)]; exact m⟩⟩
theorem Own.newM {H : Hp} {M : MS} {p : Addr} {o : HO} {mo : MO} (h : Own K H M) (hp : H p = none) (hm : OwnAt K (upd H p o) (M.set p mo) p mo) : Own K (upd H p o) (M.set p mo) := ⟨fun a u e => by
  by_cases ha : a = p
  · subst ha; rw [MS.set_same] at e; cases e; exact hm
  · rw [MS.set_ne ha] at e
    exact (h.at_ a u e).mono (Fr.newM hp) fun u' e' => by rw [upd_ne ha]; exact e', fun a n => by
  obtain ⟨m, u, e⟩ := h.hid a n
  have ne := ne_of_none e hp
  exact ⟨by rw [MS.set_ne ne]; exact m, u, by rw [upd_ne ne]; exact e⟩⟩
/-- an object that may be changed is changed -/
theorem Fr.put {H : Hp} {M : MS} {p : Addr} {o : HO} {mo mo' : MO} (hm : M p = some mo) : Fr H M (upd H p o) (M.set p mo') := ⟨fun a u h m => by
  have ne : a ≠ p := fun z => by rw [z, hm] at m; cases m
  exact ⟨by rw [upd_ne ne]; exact h, by rw [MS.set_ne ne]; exact m⟩⟩
theorem Own.put {H : Hp} {M : MS} {p : Addr} {o : HO} {mo mo' : MO} (h : Own K H M) (hm : M p = some mo) (hn : OwnAt K (upd H p o) (M.set p mo') p mo') : Own K (upd H p o) (M.set p mo') := ⟨fun a u e => by
  by_cases ha : a = p
  · subst ha; rw [MS.set_same] at e; cases e; exact hn
  · rw [MS.set_ne ha] at e
    exact (h.at_ a u e).mono (Fr.put hm) fun u' e' => by rw [upd_ne ha]; exact e', fun a n => by
  obtain ⟨m, u, e⟩ := h.hid a n
  have ne : a ≠ p := fun z => by rw [z, hm] at m; cases m
  exact ⟨by rw [MS.set_ne ne]; exact m, u, by rw [upd_ne ne]; exact e⟩⟩
/-- it may not be changed any more -/
theorem Fr.del {H : Hp} {M : MS} {p : Addr} : Fr H M H (M.del p) := ⟨fun a u h m => ⟨h, by unfold MS.del; split; rfl; exact m⟩⟩
theorem Own.del {H : Hp} {M : MS} {p : Addr} (h : Own K H M) : Own K H (M.del p) := ⟨fun a u e => by
  have ha : a ≠ p := fun z => by rw [z, MS.del_same] at e; cases e
  rw [MS.del_ne ha] at e
  exact (h.at_ a u e).mono Fr.del fun _ z => z, fun a n => by
  obtain ⟨m, u, e⟩ := h.hid a n
  exact ⟨by unfold MS.del; split; rfl; exact m, u, e⟩⟩
/-- some things are forgotten -/
theorem Fr.sub {H : Hp} {M M' : MS} (s : ∀ a o, M' a = some o → M a = some o) : Fr H M H M' := ⟨fun a u h m => ⟨h, by
  cases q : M' a with
  | none => rfl
  | some o => rw [s a o q] at m; cases m⟩⟩
theorem Own.sub {H : Hp} {M M' : MS} (h : Own K H M) (s : ∀ a o, M' a = some o → M a = some o) : Own K H M' := ⟨fun a u e =>
  (h.at_ a u (s a u e)).mono (Fr.sub s) fun _ z => z, fun a n => by
  obtain ⟨m, u, e⟩ := h.hid a n
  have hm : M' a = none := by
    cases q : M' a with
    | none => rfl
    | some o => rw [s a o q] at m; cases m
  exact ⟨hm, u, e⟩⟩

/-! ### the names -/
abbrev Rho := List (Option D)
variable (K)
inductive EnvR (H : Hp) (M : MS) : Rho → St → Prop where
  | nil : EnvR H M [] []
  | cons {o : Option D} {p : Option V} {ρ : Rho} {σ : St} : (∀ d, o = some d → ∃ v, p = some v ∧ Rep K H M d v) → EnvR H M ρ σ → EnvR H M (o :: ρ) (p :: σ)
variable {K}
theorem EnvR.mono {H H' : Hp} {M M' : MS} (f : Fr H M H' M') : ∀ {ρ : Rho} {σ : St}, EnvR K H M ρ σ → EnvR K H' M' ρ σ
  | _, _, .nil => .nil
  | _, _, .cons h t => .cons (fun d e => by obtain ⟨v, h1, h2⟩ := h d e; exact ⟨v, h1, h2.mono f⟩) (EnvR.mono f t)
theorem EnvR.get {H : Hp} {M : MS} : ∀ {ρ : Rho} {σ : St} {i : Nat} {d : D}, EnvR K H M ρ σ → ρ[i]? = some (some d) → ∃ v, σ[i]? = some (some v) ∧ Rep K H M d v
  | _, _, _, _, .nil, e => by simp at e
  | _, _, 0, d, .cons h _, e => by
    obtain ⟨v, h1, h2⟩ := h d (by simpa using e)
    exact ⟨v, by simpa using h1, h2⟩
  | _, _, i + 1, d, .cons _ t, e => by
    obtain ⟨v, h1, h2⟩ := EnvR.get (i := i) (d := d) t (by simpa using e)
    exact ⟨v, by simpa using h1, h2⟩
theorem EnvR.set {H : Hp} {M : MS} {d : D} {v : V} (r : Rep K H M d v) : ∀ {ρ : Rho} {σ : St} (i : Nat), EnvR K H M ρ σ → EnvR K H M (ρ.set i (some d)) (σ.set i (some v))
  | _, _, _, .nil => .nil
  | _, _, 0, .cons _ t => .cons (fun d' e => by cases e; exact ⟨v, rfl, r⟩) t
  | _, _, i + 1, .cons q t => .cons q (EnvR.set r i t)
theorem EnvR.clear {H : Hp} {M : MS} : ∀ {ρ : Rho} {σ : St} (i : Nat), EnvR K H M ρ σ → EnvR K H M (ρ.set i none) (σ.set i none)
  | _, _, _, .nil => .nil
  | _, _, 0, .cons _ t => .cons (fun d' e => by cases e) t
  | _, _, i + 1, .cons q t => .cons q (EnvR.clear i t)
/-- a name is forgotten -/
theorem EnvR.forget {H : Hp} {M : MS} {p : Option V} : ∀ {ρ : Rho} {σ : St} (i : Nat), EnvR K H M ρ σ → EnvR K H M (ρ.set i none) σ
  | _, _, _, .nil => .nil
  | _, _, 0, .cons _ t => .cons (fun d' e => by cases e) t
  | _, _, i + 1, .cons q t => .cons q (EnvR.forget (p := p) i t)
theorem EnvR.length {H : Hp} {M : MS} : ∀ {ρ : Rho} {σ : St}, EnvR K H M ρ σ → ρ.length = σ.length
  | _, _, .nil => rfl
  | _, _, .cons _ t => congrArg Nat.succ (EnvR.length t)

/-! ### readings over data -/
abbrev QD := D → MS → Prop
/-- an error that is raised: its class, what it keeps -/
abbrev RK := Addr → D → MS → Prop
abbrev TED := Rho → MS → QD → RK → Prop
abbrev TTD := Rho → MS → (Bool → MS → Prop) → RK → Prop
abbrev TAD := Rho → MS → (List D → MS → Prop) → RK → Prop
structure EndsD where
  nx : Rho → MS → Prop
  rt : QD
  bk : Rho → MS → Prop := fun _ _ => False
  ct : Rho → MS → Prop := fun _ _ => False
  rz : Addr → D → Rho → MS → Prop := fun _ _ _ _ => False
abbrev TSD := EndsD → Rho → MS → Prop
abbrev NoR : RK := fun _ _ _ => False
variable (K)
def ExcAt (H : Hp) (M : MS) (dx : Addr) (d : D) : Prop := ∃ v, H dx = some (.xd [(kWhat, v)]) ∧ M dx = none ∧ Rep K H M d v
/-- what an exception does, over data -/
def LR (W : WX) (H : Hp) (M : MS) (σ : St) (R : RK) : Prop := ∀ C d dx M' H', Fr H M H' M' → Own K H' M' → ExcAt K H' M' dx d → R C d M' → W (.ref C) (some dx) σ H'
/-- behind a statement -/
structure LD (W : WX) (H : Hp) (M : MS) (D0 : EndsD) (D1 : Ends) : Prop where
  nx : ∀ ρ' σ' M' H', Fr H M H' M' → Own K H' M' → EnvR K H' M' ρ' σ' → D0.nx ρ' M' → D1.nx σ' H'
  rt : ∀ d v M' H', Fr H M H' M' → Own K H' M' → Rep K H' M' d v → D0.rt d M' → D1.rt v H'
  bk : ∀ ρ' σ' M' H', Fr H M H' M' → Own K H' M' → EnvR K H' M' ρ' σ' → D0.bk ρ' M' → D1.bk σ' H'
  ct : ∀ ρ' σ' M' H', Fr H M H' M' → Own K H' M' → EnvR K H' M' ρ' σ' → D0.ct ρ' M' → D1.ct σ' H'
  rz : ∀ C d dx ρ' σ' M' H', Fr H M H' M' → Own K H' M' → EnvR K H' M' ρ' σ' → ExcAt K H' M' dx d → D0.rz C d ρ' M' → W (.ref C) (some dx) σ' H'
variable {K}
theorem ExcAt.mono {H H' : Hp} {M M' : MS} {dx : Addr} {d : D} (f : Fr H M H' M') (h : ExcAt K H M dx d) : ExcAt K H' M' dx d := by
  obtain ⟨v, e, m, r⟩ := h
  exact ⟨v, (f.keep _ _ e m).1, (f.keep _ _ e m).2, r.mono f⟩
theorem LR.mono {W : WX} {H H' : Hp} {M M' : MS} {σ : St} {R : RK} (f : Fr H M H' M') (h : LR K W H M σ R) : LR K W H' M' σ R := fun C d dx M2 H2 g o x r => h C d dx M2 H2 (f.trans g) o x r
theorem LD.mono {W : WX} {H H' : Hp} {M M' : MS} {D0 : EndsD} {D1 : Ends} (f : Fr H M H' M') (h : LD K W H M D0 D1) : LD K W H' M' D0 D1 :=
  ⟨fun ρ σ M2 H2 g => h.nx ρ σ M2 H2 (f.trans g), fun d v M2 H2 g => h.rt d v M2 H2 (f.trans g), fun ρ σ M2 H2 g => h.bk ρ σ M2 H2 (f.trans g), fun ρ σ M2 H2 g => h.ct ρ σ M2 H2 (f.trans g), fun C d dx ρ σ M2 H2 g => h.rz C d dx ρ σ M2 H2 (f.trans g)⟩
theorem LD.raise {W : WX} {H : Hp} {M : MS} {D0 : EndsD} {D1 : Ends} {ρ : Rho} {σ : St} (h : LD K W H M D0 D1) (e : EnvR K H M ρ σ) : LR K W H M σ (fun C d M' => D0.rz C d ρ M') :=
  fun C d dx M' H' f o x r => h.rz C d dx ρ σ M' H' f o (e.mono f) x r

section
variable (F : PySem.W.Frag) (W : WX)
def lE (T : TED) : TE := fun σ H Q => ∃ N ρ M Qd R, EnvR ⟨F, N⟩ H M ρ σ ∧ Own ⟨F, N⟩ H M ∧ T ρ M Qd R ∧ (∀ d v M' H', Fr H M H' M' → Own ⟨F, N⟩ H' M' → Rep ⟨F, N⟩ H' M' d v → Qd d M' → Q v H') ∧ LR ⟨F, N⟩ W H M σ R
def lT (T : TTD) : TT := fun σ H Q => ∃ N ρ M Qd R, EnvR ⟨F, N⟩ H M ρ σ ∧ Own ⟨F, N⟩ H M ∧ T ρ M Qd R ∧ (∀ b M' H', Fr H M H' M' → Own ⟨F, N⟩ H' M' → Qd b M' → Q b H') ∧ LR ⟨F, N⟩ W H M σ R
def lA (T : TAD) : TA := fun σ H Q => ∃ N ρ M Qd R, EnvR ⟨F, N⟩ H M ρ σ ∧ Own ⟨F, N⟩ H M ∧ T ρ M Qd R ∧ (∀ ds vs M' H', Fr H M H' M' → Own ⟨F, N⟩ H' M' → Reps ⟨F, N⟩ H' M' ds vs → Qd ds M' → Q vs H') ∧ LR ⟨F, N⟩ W H M σ R
def lS (T : TSD) : TS := fun D1 σ H => ∃ N ρ M D0, EnvR ⟨F, N⟩ H M ρ σ ∧ Own ⟨F, N⟩ H M ∧ T D0 ρ M ∧ LD ⟨F, N⟩ W H M D0 D1
end
/-! ### the judgements over data -/
section
variable {X : Cx} {W : WX}
theorem pe_imp {e : Expr} {t t' : TE} (h : PE X e t) (i : ∀ σ H Q, t' σ H Q → t σ H Q) : PE X e t' := ⟨fun pins s σ H Q I q => h.run pins s σ H Q I (i σ H Q q)⟩
theorem pt_imp {e : Expr} {t t' : TT} (h : PT X e t) (i : ∀ σ H Q, t' σ H Q → t σ H Q) : PT X e t' := ⟨fun pins s σ H Q I q => h.run pins s σ H Q I (i σ H Q q)⟩
theorem pw_imp {e : Expr} {t t' : TT} (h : PW X e t) (i : ∀ σ H Q, t' σ H Q → t σ H Q) : PW X e t' := ⟨fun wh pins s σ H Q I q => h.run wh pins s σ H Q I (i σ H Q q)⟩
theorem pa_imp {e : List Expr} {t t' : TA} (h : PA X e t) (i : ∀ σ H Q, t' σ H Q → t σ H Q) : PA X e t' := ⟨fun p pins s σ H Q I q => h.run p pins s σ H Q I (i σ H Q q)⟩
theorem ps_imp {e : Stmt} {t t' : TS} (h : PS X e t) (i : ∀ D σ H, t' D σ H → t D σ H) : PS X e t' := ⟨fun pins s σ H D I q => h.run pins s σ H D I (i D σ H q)⟩
theorem pss_imp {e : List Stmt} {t t' : TS} (h : PSs X e t) (i : ∀ D σ H, t' D σ H → t D σ H) : PSs X e t' := ⟨fun pins s σ H D I q => h.run pins s σ H D I (i D σ H q)⟩
abbrev JE (X : Cx) (W : WX) (e : Expr) (T : TED) : Prop := PE X e (lE X.K W T)
abbrev JT (X : Cx) (W : WX) (e : Expr) (t : TTD) : Prop := PT X e (lT X.K W t)
abbrev JW (X : Cx) (W : WX) (e : Expr) (t : TTD) : Prop := PW X e (lT X.K W t)
abbrev JA (X : Cx) (W : WX) (es : List Expr) (t : TAD) : Prop := PA X es (lA X.K W t)
abbrev JS (X : Cx) (W : WX) (s : Stmt) (t : TSD) : Prop := PS X s (lS X.K W t)
abbrev JB (X : Cx) (W : WX) (s : List Stmt) (t : TSD) : Prop := PSs X s (lS X.K W t)
end
end
end DL

set_option Elab.async false
set_option maxRecDepth 100000
set_option maxHeartbeats 4000000
/-! The data layer: expressions, tests, operators. -/
namespace DL
open PySem PySem.Spec L2

/-! ### data as the model's own plain data -/
mutual
def toP : D → Option PyData
  | .non => some .none
  | .bl b => some (.bool b)
  | .int i => some (.int i)
  | .str x => some (.str x)
  | .tup ds => match toPs ds with | some ps => some (.tuple ps) | none => none
  | .ktup ds => match toPs ds with | some ps => some (.tuple ps) | none => none
  | .lst ds => match toPs ds with | some ps => some (.list ps) | none => none
  | _ => none
def toPs : List D → Option (List PyData)
  | [] => some []
  | d :: ds => match toP d, toPs ds with | some p, some ps => some (p :: ps) | _, _ => none
end
def toPM (M : MS) : D → Option PyData
  | .ref a => match M a with
    | some (.lst ds) => match toPs ds with | some ps => some (.list ps) | none => none
    | _ => none
  | d => toP d
/-- the items of a list, of a tuple -/
def asL (M : MS) : D → Option (List D)
  | .lst ds => some ds
  | .ref a => match M a with | some (.lst ds) => some ds | _ => none
  | _ => none
def asQ (M : MS) : D → Option (List D)
  | .tup ds => some ds
  | .ktup ds => some ds
  | .klst ds => some ds
  | d => asL M d

section
variable {K : KN} {H : Hp} {M : MS}
mutual
theorem Rep.dp : ∀ {d : D} {v : V} {p : PyData}, Rep K H M d v → toP d = some p → Dp K.K H v p
  | .non, _, _, .non, e => by cases e; exact .non
  | .bl b, _, _, .bl _, e => by cases e; exact .bl b
  | .int i, _, _, .int _, e => by cases e; exact .int i
  | .str x, _, _, .str _, e => by cases e; exact .str x
  | .ty _, _, _, _, e => by simp [toP] at e
  | .ref _, _, _, _, e => by simp [toP] at e
  | .klst _, _, _, _, e => by simp [toP] at e
  | .dk _ _, _, _, _, e => by simp [toP] at e
  | .dt _ _, _, _, _, e => by simp [toP] at e
  | .ins _ _ _, _, _, _, e => by simp [toP] at e
  | .exc _ _ _ _, _, _, _, e => by simp [toP] at e
  | .tup ds, _, p, .tup t r, e => by
    simp only [toP] at e
    cases q : toPs ds with
    | none => rw [q] at e; cases e
    | some ps => rw [q] at e; cases e; exact .tup t.sq (Reps.dp r q)
  | .ktup ds, _, p, .ktup t r, e => by
    simp only [toP] at e
    cases q : toPs ds with
    | none => rw [q] at e; cases e
    | some ps => rw [q] at e; cases e; exact .tup t.sq (Reps.dp r q)
  | .lst ds, _, p, .lst t r, e => by
    simp only [toP] at e
    cases q : toPs ds with
    | none => rw [q] at e; cases e
    | some ps => rw [q] at e; cases e; exact .lst t.sq (Reps.dp r q)
theorem Reps.dp : ∀ {ds : List D} {vs : List V} {ps : List PyData}, Reps K H M ds vs → toPs ds = some ps → DpAll K.K H vs ps
  | [], _, _, .nil, e => by cases e; exact .nil
  | d :: ds, _, ps, .cons r t, e => by
    simp only [toPs] at e
    cases q : toP d with
    | none => rw [q] at e; cases e
    | some p =>
      cases q2 : toPs ds with
      | none => rw [q, q2] at e; cases e
      | some ps' => rw [q, q2] at e; cases e; exact .cons (Rep.dp r q) (Reps.dp t q2)
end
theorem Rep.asL (o : Own K H M) {d : D} {v : V} {ds : List D} (r : Rep K H M d v) (e : asL M d = some ds) : ∃ a vs, v = .ref a ∧ H a = some (.lst vs) ∧ Reps K H M ds vs := by
  cases r with
  | lst t rs =>
    simp only [DL.asL] at e; cases e
    exact ⟨_, _, rfl, t.1, rs⟩
  | ref a =>
    simp only [DL.asL] at e
    cases q : M a with
    | none => rw [q] at e; cases e
    | some mo =>
      rw [q] at e
      cases mo with
      | lst ds' =>
        cases e
        obtain ⟨vs, h1, h2⟩ := o.at_ a _ q
        exact ⟨a, vs, rfl, h1, h2⟩
      | dk _ _ => cases e
      | dt _ _ => cases e
      | ins _ _ _ => cases e
  | _ => simp [DL.asL] at e
theorem Rep.asQ (o : Own K H M) {d : D} {v : V} {ds : List D} (r : Rep K H M d v) (e : asQ M d = some ds) : ∃ a vs, v = .ref a ∧ (SqL K.K H a vs ∨ SqT K.K H a vs) ∧ Reps K H M ds vs := by
  have other : DL.asL M d = some ds → ∃ a vs, v = .ref a ∧ (SqL K.K H a vs ∨ SqT K.K H a vs) ∧ Reps K H M ds vs := fun e => by
    obtain ⟨a, vs, h1, h2, h3⟩ := r.asL o e
    exact ⟨a, vs, h1, .inl (.inl (.inl h2)), h3⟩
  cases r with
  | tup t rs =>
    simp only [DL.asQ] at e; cases e
    exact ⟨_, _, rfl, .inr t.sq, rs⟩
  | ktup t rs =>
    simp only [DL.asQ] at e; cases e
    exact ⟨_, _, rfl, .inr t.sq, rs⟩
  | klst e' rs =>
    simp only [DL.asQ] at e; cases e
    exact ⟨_, _, rfl, .inl e'.sq, rs⟩
  | _ => exact other (by simpa only [DL.asQ] using e)
theorem Rep.dpM (o : Own K H M) {d : D} {v : V} {p : PyData} (r : Rep K H M d v) (e : toPM M d = some p) : Dp K.K H v p := by
  cases r with
  | ref a =>
    simp only [toPM] at e
    cases q : M a with
    | none => rw [q] at e; cases e
    | some mo =>
      rw [q] at e
      cases mo with
      | lst ds =>
        obtain ⟨vs, h1, h2⟩ := o.at_ a _ q
        cases q2 : toPs ds with
        | none => simp [q2] at e
        | some ps =>
          simp [q2] at e
          subst e
          exact .lst (SqL.of h1) (h2.dp q2)
      | dk _ _ => cases e
      | dt _ _ => cases e
      | ins _ _ _ => cases e
  | non => exact Rep.dp (M := M) .non e
  | bl b => exact Rep.dp (M := M) (.bl b) e
  | int i => exact Rep.dp (M := M) (.int i) e
  | str x => exact Rep.dp (M := M) (.str x) e
  | ty n => exact Rep.dp (M := M) (.ty n) e
  | tup t rs => exact Rep.dp (.tup t rs) e
  | ktup t rs => exact Rep.dp (.ktup t rs) e
  | lst t rs => exact Rep.dp (.lst t rs) e
  | klst _ _ => simp [toPM, toP] at e
  | dk h1 h2 h3 h4 => exact Rep.dp (.dk h1 h2 h3 h4) e
  | dt h1 h2 h3 h4 => exact Rep.dp (.dt h1 h2 h3 h4) e
  | ins h1 h2 h3 h4 => exact Rep.dp (.ins h1 h2 h3 h4) e
  | exc h1 h2 h3 => simp [toPM, toP] at e
end

/-! ### ends -/
/-- what comes is wanted -/
def KE (K : KN) (H : Hp) (M : MS) (Qd : QD) (Q : VK) : Prop := ∀ d v M' H', Fr H M H' M' → Own K H' M' → Rep K H' M' d v → Qd d M' → Q v H'
theorem KE.mono {K : KN} {H H' : Hp} {M M' : MS} {Qd : QD} {Q : VK} (f : Fr H M H' M') (k : KE K H M Qd Q) : KE K H' M' Qd Q := fun d v M2 H2 g => k d v M2 H2 (f.trans g)
/-- a new object that is not to be changed comes -/
theorem KE.new {K : KN} {H : Hp} {M : MS} {Qd : QD} {Q : VK} (k : KE K H M Qd Q) (o : Own K H M) {p : Addr} {ho : HO} {d : D} (hp : H p = none) (q : Qd d M) (r : Rep K (upd H p ho) M d (.ref p)) : Q (.ref p) (upd H p ho) :=
  k d (.ref p) M _ (Fr.new hp) (o.new hp) r q
theorem Rep.tupNew {K : KN} {H : Hp} {M : MS} (o : Own K H M) {p : Addr} {ds : List D} {vs : List V} (hp : H p = none) (r : Reps K H M ds vs) : Rep K (upd H p (.tup vs)) M (.tup ds) (.ref p) :=
  .tup ⟨upd_same, o.no hp⟩ (r.mono (Fr.new hp))
theorem Rep.lstNew {K : KN} {H : Hp} {M : MS} (o : Own K H M) {p : Addr} {ds : List D} {vs : List V} (hp : H p = none) (r : Reps K H M ds vs) : Rep K (upd H p (.lst vs)) M (.lst ds) (.ref p) :=
  .lst ⟨upd_same, o.no hp, fun n => by obtain ⟨_, u, e⟩ := o.hid p n; rw [hp] at e; cases e⟩ (r.mono (Fr.new hp))
theorem OwnAt.lstNew {K : KN} {H : Hp} {M : MS} {p : Addr} {ds : List D} {vs : List V} (hp : H p = none) (r : Reps K H M ds vs) : OwnAt K (upd H p (.lst vs)) (M.set p (.lst ds)) p (.lst ds) :=
  ⟨vs, upd_same, r.mono (Fr.newM hp)⟩

/-! ### names, constants -/
section
variable {X : Cx} {W : WX}
def dVar (i : Nat) : TED := fun ρ M Q _ => ∃ d, ρ[i]? = some (some d) ∧ Q d M
def dC (d : D) : TED := fun _ M Q _ => Q d M
theorem e_var {e : Expr} (i : Nat) (h : PE X e (tVar i)) : JE X W e (dVar i) := pe_imp h fun σ H Q ⟨N, ρ, M, Qd, R, er, o, ⟨d, ed, q⟩, k, _⟩ => by
  obtain ⟨v, e1, r⟩ := er.get ed
  exact ⟨v, e1, k d v M H (Fr.refl _ _) o r q⟩
theorem e_const {e : Expr} {d : D} {v : V} (h : PE X e (tC v)) (r : ∀ (K : KN) H M, Rep K H M d v) : JE X W e (dC d) := pe_imp h fun σ H Q ⟨N, ρ, M, Qd, R, er, o, q, k, _⟩ => k d v M H (Fr.refl _ _) o (r _ H M) q
theorem e_int {i : Int} {j pos} : JE X W (.Constant (.int i) j pos) (dC (.int i)) := e_const pe_int fun _ _ _ => .int i
theorem e_bl {b : Bool} {j pos} : JE X W (.Constant (.bool b) j pos) (dC (.bl b)) := e_const pe_bl fun _ _ _ => .bl b
theorem e_non {j pos} : JE X W (.Constant .none j pos) (dC .non) := e_const pe_non fun _ _ _ => .non
theorem e_str {x : Str} {j pos} : JE X W (.Constant (.str x) j pos) (dC (.str x)) := e_const pe_str fun _ _ _ => .str x
theorem e_globInt {x : Str} {i : Int} {t : Tok} {pos : Pos} (hg : Gl X x) (hm : X.mg x = some (.int i t)) (hd : (x == ("__debug__" : Str)) = false := by decide) : JE X W (.Name x pos) (dC (.int i)) :=
  e_const (pe_glob (v := .int i) hg hm ⟨t, rfl⟩ hd) fun _ _ _ => .int i
theorem e_globRef {x : Str} {a : Addr} {pos : Pos} (hg : Gl X x) (hm : X.mg x = some (.ref a)) (hd : (x == ("__debug__" : Str)) = false := by decide) : JE X W (.Name x pos) (dC (.ref a)) :=
  e_const (pe_glob (v := .ref a) hg hm rfl hd) fun _ _ _ => .ref a

/-! ### lists of expressions, displays -/
def dNil : TAD := fun _ M Q _ => Q [] M
def dCons (t : TED) (u : TAD) : TAD := fun ρ M Q R => t ρ M (fun d M1 => u ρ M1 (fun ds M2 => Q (d :: ds) M2) R) R
theorem a_nil : JA X W [] dNil := pa_imp pa_nil fun σ H Q ⟨N, ρ, M, Qd, R, er, o, q, k, _⟩ => k [] [] M H (Fr.refl _ _) o .nil q
theorem a_cons {e : Expr} {es : List Expr} {t : TED} {u : TAD} (he : JE X W e t) (hr : JA X W es u) (hs : starEach (e :: es) X.env = (false, eval e X.env) :: starEach es X.env := by rfl) : JA X W (e :: es) (dCons t u) :=
  pa_imp (pa_cons he hr hs) fun σ H Q ⟨N, ρ, M, Qd, R, er, o, q, k, x⟩ =>
    ⟨N, ρ, M, _, R, er, o, q, fun d v M1 H1 f1 o1 r1 q1 =>
      ⟨N, ρ, M1, _, R, er.mono f1, o1, q1, fun ds vs M2 H2 f2 o2 r2 q2 => k (d :: ds) (v :: vs) M2 H2 (f1.trans f2) o2 (.cons (r1.mono f2) r2) q2, x.mono f1⟩, x⟩
def dTup (t : TAD) : TED := fun ρ M Q R => t ρ M (fun ds M1 => ds.length ≤ sizeLine ∧ Q (.tup ds) M1) R
/-- a list that is never changed -/
def dLst (t : TAD) : TED := fun ρ M Q R => t ρ M (fun ds M1 => ds.length ≤ sizeLine ∧ Q (.lst ds) M1) R
/-- a list that may be changed -/
def dLstM (t : TAD) : TED := fun ρ M Q R => t ρ M (fun ds M1 => ds.length ≤ sizeLine ∧ ∀ p, M1 p = none → Q (.ref p) (M1.set p (.lst ds))) R
theorem e_tup {es : List Expr} {x1 pos} {t : TAD} (h : JA X W es t) : JE X W (.Tuple es x1 pos) (dTup t) :=
  pe_imp (pe_tup h) fun σ H Q ⟨N, ρ, M, Qd, R, er, o, q, k, x⟩ =>
    ⟨N, ρ, M, _, R, er, o, q, fun ds vs M1 H1 f1 o1 r1 ⟨l, q1⟩ => ⟨by rw [← r1.length]; exact l, fun p hp => KE.new (KE.mono f1 k) o1 hp q1 (Rep.tupNew o1 hp r1)⟩, x⟩
theorem e_lst {es : List Expr} {pos} {t : TAD} (h : JA X W es t) : JE X W (.List es pos) (dLst t) :=
  pe_imp (pe_lst h) fun σ H Q ⟨N, ρ, M, Qd, R, er, o, q, k, x⟩ =>
    ⟨N, ρ, M, _, R, er, o, q, fun ds vs M1 H1 f1 o1 r1 ⟨l, q1⟩ => ⟨by rw [← r1.length]; exact l, fun p hp => KE.new (KE.mono f1 k) o1 hp q1 (Rep.lstNew o1 hp r1)⟩, x⟩
theorem e_lstM {es : List Expr} {pos} {t : TAD} (h : JA X W es t) : JE X W (.List es pos) (dLstM t) :=
  pe_imp (pe_lst h) fun σ H Q ⟨N, ρ, M, Qd, R, er, o, q, k, x⟩ =>
    ⟨N, ρ, M, _, R, er, o, q, fun ds vs M1 H1 f1 o1 r1 ⟨l, q1⟩ => ⟨by rw [← r1.length]; exact l, fun p hp =>
      k (.ref p) (.ref p) _ _ (f1.trans (Fr.newM hp)) (o1.newM hp (OwnAt.lstNew hp r1)) (.ref p) (q1 p (o1.no hp))⟩, x⟩

/-! ### operators of two places -/
abbrev F2 := D → D → MS → QD → Prop
def lR (F : PySem.W.Frag) (g : F2) : R2 := fun x y H Q => ∃ N M d e Qd, Own ⟨F, N⟩ H M ∧ Rep ⟨F, N⟩ H M d x ∧ Rep ⟨F, N⟩ H M e y ∧ g d e M Qd ∧ KE ⟨F, N⟩ H M Qd Q
abbrev OpD (X : Cx) (f : Value → Value → Sem Value) (g : F2) : Prop := OpR X f (lR X.K g)
def dBin (g : F2) (a b : TED) : TED := fun ρ M Q R => a ρ M (fun x M1 => b ρ M1 (fun y M2 => g x y M2 Q) R) R
theorem e_bin {a b : Expr} {op : Operator} {g : F2} {ta tb : TED} {pos : Pos} (ho : OpD X (binaryOp op) g) (ha : JE X W a ta) (hb : JE X W b tb) : JE X W (.BinOp a op b pos) (dBin g ta tb) :=
  pe_imp (pe_op ho ha hb) fun σ H Q ⟨N, ρ, M, Qd, R, er, o, q, k, x⟩ =>
    ⟨N, ρ, M, _, R, er, o, q, fun d v M1 H1 f1 o1 r1 q1 =>
      ⟨N, ρ, M1, _, R, er.mono f1, o1, q1, fun e u M2 H2 f2 o2 r2 q2 => ⟨N, M2, d, e, Qd, o2, r1.mono f2, r2, q2, KE.mono (f1.trans f2) k⟩, x.mono f1⟩, x⟩
theorem e_cmp {a b : Expr} {op : CmpOp} {g : F2} {ta tb : TED} {pos : Pos} (ho : OpD X (compareOp op) g) (ha : JE X W a ta) (hb : JE X W b tb) (hm : behindInMarks op b = false) : JE X W (.Compare a [op] [b] pos) (dBin g ta tb) :=
  pe_imp (pe_cmpR ho ha hb hm) fun σ H Q ⟨N, ρ, M, Qd, R, er, o, q, k, x⟩ =>
    ⟨N, ρ, M, _, R, er, o, q, fun d v M1 H1 f1 o1 r1 q1 =>
      ⟨N, ρ, M1, _, R, er.mono f1, o1, q1, fun e u M2 H2 f2 o2 r2 q2 => ⟨N, M2, d, e, Qd, o2, r1.mono f2, r2, q2, KE.mono (f1.trans f2) k⟩, x.mono f1⟩, x⟩
/-- as a test: the answer is a bool -/
def dTest (t : TED) : TTD := fun ρ M Q R => t ρ M (fun d M1 => ∃ b, d = .bl b ∧ Q b M1) R
theorem rep_bl {K : KN} {H : Hp} {M : MS} {b : Bool} {v : V} (r : Rep K H M (.bl b) v) : v = .bl b := by cases r; rfl
theorem t_cmp {a b : Expr} {op : CmpOp} {g : F2} {ta tb : TED} {pos : Pos} (ho : OpD X (compareOp op) g) (ha : JE X W a ta) (hb : JE X W b tb) (hm : behindInMarks op b = false) : JT X W (.Compare a [op] [b] pos) (dTest (dBin g ta tb)) :=
  pt_imp (pt_cmpR ho ha hb hm) fun σ H Q ⟨N, ρ, M, Qd, R, er, o, q, k, x⟩ =>
    ⟨N, ρ, M, _, R, er, o, q, fun d v M1 H1 f1 o1 r1 q1 =>
      ⟨N, ρ, M1, _, R, er.mono f1, o1, q1, fun e u M2 H2 f2 o2 r2 q2 => ⟨N, M2, d, e, _, o2, r1.mono f2, r2, q2, fun z w M3 H3 f3 o3 r3 ⟨b, eb, q3⟩ => by
        subst eb; exact ⟨b, rep_bl r3, k b M3 H3 ((f1.trans f2).trans f3) o3 q3⟩⟩, x.mono f1⟩, x⟩
def dChain (g h : F2) (a b c : TED) : TED := fun ρ M Q R => a ρ M (fun x M1 => b ρ M1 (fun y M2 => g x y M2 (fun z M3 => ∃ k, z = .bl k ∧ if k = true then c ρ M3 (fun w M4 => h y w M4 Q) R else Q (.bl false) M3)) R) R
theorem e_chain {a b c : Expr} {op op' : CmpOp} {g h : F2} {ta tb tc : TED} {pos : Pos} (ho : OpD X (compareOp op) g) (ho' : OpD X (compareOp op') h) (ha : JE X W a ta) (hb : JE X W b tb) (hc : JE X W c tc)
    (hm : lastMarks [op, op'] [b, c] = false := by with_unfolding_all rfl) : JE X W (.Compare a [op, op'] [b, c] pos) (dChain g h ta tb tc) :=
  pe_imp (pe_chain ho ho' ha hb hc hm) fun σ H Q ⟨N, ρ, M, Qd, R, er, o, q, k, x⟩ =>
    ⟨N, ρ, M, _, R, er, o, q, fun d v M1 H1 f1 o1 r1 q1 =>
      ⟨N, ρ, M1, _, R, er.mono f1, o1, q1, fun e u M2 H2 f2 o2 r2 q2 => ⟨N, M2, d, e, _, o2, r1.mono f2, r2, q2, fun z w M3 H3 f3 o3 r3 ⟨b, eb, q3⟩ => by
        subst eb
        refine ⟨b, rep_bl r3, ?_⟩
        cases b with
        | false => exact k (.bl false) (.bl false) M3 H3 ((f1.trans f2).trans f3) o3 (.bl false) q3
        | true => exact ⟨N, ρ, M3, _, R, (er.mono (f1.trans f2)).mono f3, o3, q3, fun y t M4 H4 f4 o4 r4 q4 => ⟨N, M4, e, y, Qd, o4, (r2.mono f3).mono f4, r4, q4, KE.mono (((f1.trans f2).trans f3).trans f4) k⟩, x.mono ((f1.trans f2).trans f3)⟩⟩, x.mono f1⟩, x⟩
theorem t_chain {a b c : Expr} {op op' : CmpOp} {g h : F2} {ta tb tc : TED} {pos : Pos} (ho : OpD X (compareOp op) g) (ho' : OpD X (compareOp op') h) (ha : JE X W a ta) (hb : JE X W b tb) (hc : JE X W c tc)
    (hm : lastMarks [op, op'] [b, c] = false := by with_unfolding_all rfl) : JT X W (.Compare a [op, op'] [b, c] pos) (dTest (dChain g h ta tb tc)) :=
  pt_imp (pt_chain ho ho' ha hb hc hm) fun σ H Q ⟨N, ρ, M, Qd, R, er, o, q, k, x⟩ =>
    ⟨N, ρ, M, _, R, er, o, q, fun d v M1 H1 f1 o1 r1 q1 =>
      ⟨N, ρ, M1, _, R, er.mono f1, o1, q1, fun e u M2 H2 f2 o2 r2 q2 => ⟨N, M2, d, e, _, o2, r1.mono f2, r2, q2, fun z w M3 H3 f3 o3 r3 ⟨b, eb, q3⟩ => by
        subst eb
        refine ⟨b, rep_bl r3, ?_⟩
        cases b with
        | false =>
          obtain ⟨b', e', q'⟩ := q3
          cases e'
          exact ⟨false, rfl, k false M3 H3 ((f1.trans f2).trans f3) o3 q'⟩
        | true => exact ⟨N, ρ, M3, _, R, (er.mono (f1.trans f2)).mono f3, o3, q3, fun y t M4 H4 f4 o4 r4 q4 => ⟨N, M4, e, y, _, o4, (r2.mono f3).mono f4, r4, q4, fun z w M5 H5 f5 o5 r5 ⟨b, eb, q5⟩ => by
            subst eb; exact ⟨b, rep_bl r5, k b M5 H5 ((((f1.trans f2).trans f3).trans f4).trans f5) o5 q5⟩⟩, x.mono ((f1.trans f2).trans f3)⟩⟩, x.mono f1⟩, x⟩

/-! ### the operators -/
/-- two ints -/
def gI (C : Int → Int → Prop) (f : Int → Int → D) : F2 := fun x y M Q => match x, y with
  | .int i, .int j => C i j ∧ Q (f i j) M
  | _, _ => False
theorem opd_I {op : Value → Value → Sem Value} {C : Int → Int → Prop} {f : Int → Int → D} {fv : Int → Int → V} (h : OpR X op (rI C fv)) (r : ∀ (K : KN) i j H M, Rep K H M (f i j) (fv i j)) : OpD X op (gI C f) := by
  intro pins s σ H x y v u Q I rx ry ⟨N, M, d, e, Qd, o, r1, r2, g, k⟩
  cases d with
  | int i =>
    cases e with
    | int j =>
      cases r1; cases r2
      exact h pins s σ H _ _ v u Q I rx ry ⟨i, j, rfl, rfl, g.1, k _ _ M H (Fr.refl _ _) o (r _ i j H M) g.2⟩
    | _ => exact g.elim
  | _ => exact g.elim
theorem opr_of0 {op : Value → Value → Sem Value} {f : Int → Int → V} (h : OpR X op (rI0 f)) : OpR X op (rI (fun _ _ => True) f) := fun pins s σ H x y v u Q I rx ry ⟨i, j, e1, e2, _, q⟩ => h pins s σ H x y v u Q I rx ry ⟨i, j, e1, e2, q⟩
abbrev TT2 : Int → Int → Prop := fun _ _ => True
def gSub : F2 := gI TT2 fun i j => .int (i - j)
def gMul : F2 := gI CMul fun i j => .int (i * j)
def gFdiv : F2 := gI CDiv fun i j => .int (i / j)
def gMod : F2 := gI (fun _ j => 0 < j) fun i j => .int (i % j)
def gPow : F2 := gI CPow fun i j => .int (i ^ j.toNat)
def gGt : F2 := gI TT2 fun i j => .bl (decide (j < i))
def gGe : F2 := gI TT2 fun i j => .bl (decide (j ≤ i))
theorem op_subD : OpD X (binaryOp .Sub) gSub := opd_I (opr_of0 op_sub) fun _ _ _ _ _ => .int _
theorem op_mulD : OpD X (binaryOp .Mult) gMul := opd_I op_mul fun _ _ _ _ _ => .int _
theorem op_fdivD : OpD X (binaryOp .FloorDiv) gFdiv := opd_I op_fdiv fun _ _ _ _ _ => .int _
theorem op_modD : OpD X (binaryOp .Mod) gMod := opd_I op_mod fun _ _ _ _ _ => .int _
theorem op_powD : OpD X (binaryOp .Pow) gPow := opd_I op_pow fun _ _ _ _ _ => .int _
theorem op_gtD : OpD X (compareOp .Gt) gGt := opd_I (opr_of0 op_gt) fun _ _ _ _ _ => .bl _
theorem op_geD : OpD X (compareOp .GtE) gGe := opd_I (opr_of0 op_ge) fun _ _ _ _ _ => .bl _
/-- tuples of ints -/
def intsD : List D → Option (List Int)
  | [] => some []
  | .int i :: ds => match intsD ds with | some ns => some (i :: ns) | none => none
  | _ :: _ => none
theorem Reps.intsD {K : KN} {H : Hp} {M : MS} : ∀ {ds : List D} {vs : List V} {ns : List Int}, Reps K H M ds vs → intsD ds = some ns → vs = ns.map V.int
  | [], _, _, .nil, e => by cases e; rfl
  | d :: ds, _, ns, .cons r t, e => by
    cases d with
    | int i =>
      simp only [DL.intsD] at e
      cases q : DL.intsD ds with
      | none => rw [q] at e; cases e
      | some ms => rw [q] at e; cases e; cases r; rw [Reps.intsD t q]; rfl
    | _ => simp [DL.intsD] at e
def leT (ns ms : List Int) : Bool := Ob.lexAt (fun j => decide (ns.getD j 0 = ms.getD j 0)) (fun j => decide (ns.getD j 0 ≤ ms.getD j 0)) (decide (ns.length ≤ ms.length)) 0 (min ns.length ms.length)
def gLt : F2 := fun x y M Q => match x, y with
  | .int i, .int j => Q (.bl (decide (i < j))) M
  | .tup a, .tup b => ∃ ns ms, intsD a = some ns ∧ intsD b = some ms ∧ Q (.bl (HT.lexLt ns ms)) M
  | _, _ => False
def gLe : F2 := fun x y M Q => match x, y with
  | .int i, .int j => Q (.bl (decide (i ≤ j))) M
  | .tup a, .tup b => ∃ ns ms, intsD a = some ns ∧ intsD b = some ms ∧ Q (.bl (leT ns ms)) M
  | _, _ => False
theorem op_ltD (hu : X.A.units < cLine) : OpD X (compareOp .Lt) gLt := by
  intro pins s σ H x y v u Q I rx ry ⟨N, M, d, e, Qd, o, r1, r2, g, k⟩
  cases d with
  | int i =>
    cases e with
    | int j =>
      cases r1; cases r2
      exact op_lt pins s σ H _ _ v u Q I rx ry ⟨i, j, rfl, rfl, k _ _ M H (Fr.refl _ _) o (.bl _) g⟩
    | _ => exact g.elim
  | tup a =>
    cases e with
    | tup b =>
      obtain ⟨ns, ms, e1, e2, q⟩ := g
      cases r1 with | tup t1 q1 =>
      cases r2 with | tup t2 q2 =>
      have h1 := q1.intsD e1
      have h2 := q2.intsD e2
      subst h1 h2
      exact op_ltT hu pins s σ H _ _ v u Q I rx ry ⟨_, _, ns, ms, rfl, rfl, TupAt.sq (K := ⟨X.K, N⟩) t1, TupAt.sq (K := ⟨X.K, N⟩) t2, k _ _ M H (Fr.refl _ _) o (.bl _) q⟩
    | _ => exact g.elim
  | _ => exact g.elim
theorem op_leD (hu : X.A.units < cLine) : OpD X (compareOp .LtE) gLe := by
  intro pins s σ H x y v u Q I rx ry ⟨N, M, d, e, Qd, o, r1, r2, g, k⟩
  cases d with
  | int i =>
    cases e with
    | int j =>
      cases r1; cases r2
      exact op_le pins s σ H _ _ v u Q I rx ry ⟨i, j, rfl, rfl, k _ _ M H (Fr.refl _ _) o (.bl _) g⟩
    | _ => exact g.elim
  | tup a =>
    cases e with
    | tup b =>
      obtain ⟨ns, ms, e1, e2, q⟩ := g
      cases r1 with | tup t1 q1 =>
      cases r2 with | tup t2 q2 =>
      have h1 := q1.intsD e1
      have h2 := q2.intsD e2
      subst h1 h2
      exact op_leT hu pins s σ H _ _ v u Q I rx ry ⟨_, _, ns, ms, rfl, rfl, TupAt.sq (K := ⟨X.K, N⟩) t1, TupAt.sq (K := ⟨X.K, N⟩) t2, k _ _ M H (Fr.refl _ _) o (.bl _) q⟩
    | _ => exact g.elim
  | _ => exact g.elim
/-- == and != of plain data -/
def gEq : F2 := fun x y M Q => ∃ p q, toPM M x = some p ∧ toPM M y = some q ∧ SeqAt.shaped p = true ∧ SeqAt.shaped q = true ∧ Q (.bl (PyData.eqv p q)) M
def gNe : F2 := fun x y M Q => ∃ p q, toPM M x = some p ∧ toPM M y = some q ∧ SeqAt.shaped p = true ∧ SeqAt.shaped q = true ∧ Q (.bl (!PyData.eqv p q)) M
theorem op_eqDD (hu : X.A.units + 64 < cLine) : OpD X (compareOp .Eq) gEq := by
  intro pins s σ H x y v u Q I rx ry ⟨N, M, d, e, Qd, o, r1, r2, ⟨p, q, e1, e2, s1, s2, g⟩, k⟩
  exact op_eqD hu pins s σ H _ _ v u Q I rx ry ⟨p, q, r1.dpM o e1, r2.dpM o e2, s1, s2, k _ _ M H (Fr.refl _ _) o (.bl _) g⟩
theorem op_neDD (hu : X.A.units + 64 < cLine) : OpD X (compareOp .NotEq) gNe := by
  intro pins s σ H x y v u Q I rx ry ⟨N, M, d, e, Qd, o, r1, r2, ⟨p, q, e1, e2, s1, s2, g⟩, k⟩
  exact op_neD hu pins s σ H _ _ v u Q I rx ry ⟨p, q, r1.dpM o e1, r2.dpM o e2, s1, s2, k _ _ M H (Fr.refl _ _) o (.bl _) g⟩
/-- + -/
def gAdd : F2 := fun x y M Q => match x, y with
  | .int i, .int j => Q (.int (i + j)) M
  | .str i, .str j => i.length + j.length ≤ sizeLine ∧ Q (.str (i ++ j)) M
  | .tup a, .tup b => a.length + b.length ≤ sizeLine ∧ Q (.tup (a ++ b)) M
  | x, y => ∃ a b, asL M x = some a ∧ asL M y = some b ∧ a.length + b.length ≤ sizeLine ∧ Q (.lst (a ++ b)) M
theorem cat_lists {pins : List (Addr × Obj)} {s : Shared} {σ : L2.St} {H : Hp} {Q : VK} {l b : Addr} {xs zs : List V} (I : Inv X pins σ H s) (hH : Rd H l (.lst xs)) (hB : Rd H b (.lst zs)) (hz : xs.length + zs.length ≤ sizeLine)
    (q : ∀ p, H p = none → Q (.ref p) (upd H p (.lst (xs ++ zs)))) : wpAny (model X.prog X.w) X.A (binaryOp .Add (.ref l) (.ref b)) (EP X pins σ Q) X.xe s := by
  obtain ⟨z, its, n, r, hl⟩ := hH.ok I.hok
  obtain ⟨z2, its2, n2, r2, hl2⟩ := hB.ok I.hok
  refine PySem.P.add_list hl hl2 ?_ (by rw [List.size_toArray, List.size_toArray, ← r.length, ← r2.length]; omega)
  have ea : its.toArray ++ its2.toArray = (its ++ its2).toArray := by simp
  rw [ea]
  exact ⟨.ref _, _, I.lnew (t' := s.toks) (r.append r2) (by rw [List.length_append]; omega), rfl, q _ I.fresh⟩
theorem op_addD : OpD X (binaryOp .Add) gAdd := by
  intro pins s σ H x y v u Q I rx ry ⟨N, M, d, e, Qd, o, r1, r2, g, k⟩
  have lists : (∃ a b, asL M d = some a ∧ asL M e = some b ∧ a.length + b.length ≤ sizeLine ∧ Qd (.lst (a ++ b)) M) → wpAny (model X.prog X.w) X.A (binaryOp .Add v u) (EP X pins σ Q) X.xe s := by
    rintro ⟨a, b, e1, e2, hz, q⟩
    obtain ⟨la, va, rfl, h1, q1⟩ := r1.asL o e1
    obtain ⟨lb, vb, rfl, h2, q2⟩ := r2.asL o e2
    cases rx; cases ry
    exact cat_lists I (.inl h1) (.inl h2) (by rw [← q1.length, ← q2.length]; exact hz) fun p hp => KE.new k o hp q (Rep.lstNew o hp (q1.append q2))
  have here : Fr H M H M := Fr.refl _ _
  cases d with
  | int i =>
    cases e with
    | int j => cases r1; cases r2; exact op_add pins s σ H _ _ v u Q I rx ry ⟨i, j, rfl, rfl, k _ _ M H here o (.int _) g⟩
    | _ => exact lists g
  | str i =>
    cases e with
    | str j => cases r1; cases r2; exact op_add_str pins s σ H _ _ v u Q I rx ry ⟨i, j, rfl, rfl, g.1, k _ _ M H here o (.str _) g.2⟩
    | _ => exact lists g
  | tup a =>
    cases e with
    | tup b =>
      cases r1 with | tup t1 q1 =>
      cases r2 with | tup t2 q2 =>
      refine op_catA pins s σ H _ _ v u Q I rx ry ⟨_, _, _, _, rfl, rfl, TupAt.sq (K := ⟨X.K, N⟩) t1, TupAt.sq (K := ⟨X.K, N⟩) t2, by rw [← q1.length, ← q2.length]; exact g.1, fun hx => ?_, fun _ hy => ?_, fun _ _ p hp => KE.new k o hp g.2 (Rep.tupNew o hp (q1.append q2))⟩
      · subst hx
        cases q1
        exact k _ _ M H here o (.tup t2 q2) (by simpa using g.2)
      · subst hy
        cases q2
        exact k _ _ M H here o (.tup t1 q1) (by simpa using g.2)
    | _ => exact lists g
  | _ => cases e <;> exact lists g
end
end DL

set_option Elab.async false
set_option maxRecDepth 100000
set_option maxHeartbeats 4000000
/-! The data layer: dicts by their keys, in, is, truth, and, or, not, items, slices, fields. -/
namespace DL
open PySem PySem.Spec L2

/-! ### dicts over data -/
section
variable {κ : Type} [DecidableEq κ] {α : Type}
def dGet : List κ → List α → κ → Option α
  | k :: ks, v :: vs, q => if k = q then some v else dGet ks vs q
  | _, _, _ => none
def dPutK (ks : List κ) (q : κ) : List κ := if q ∈ ks then ks else ks ++ [q]
def dSet : List κ → List α → κ → α → List α
  | k :: ks, v :: vs, q, x => (if k = q then x else v) :: dSet ks vs q x
  | _, _, _, _ => []
def dPutV (ks : List κ) (vs : List α) (q : κ) (x : α) : List α := if q ∈ ks then dSet ks vs q x else vs ++ [x]
end
def keyD : D → Option Key
  | .int i => some (.inl i)
  | .str x => some (.inr x)
  | _ => none
def keysD : List D → Option (List Key)
  | [] => some []
  | d :: ds => match keyD d, keysD ds with | some k, some ks => some (k :: ks) | _, _ => none
def keyT : D → Option (List Key)
  | .tup ds => keysD ds
  | _ => none
/-- a dict with plain keys, with tuples for keys -/
def asDK (M : MS) : D → Option (List Key × List D)
  | .dk ks ds => some (ks, ds)
  | .ref a => match M a with | some (.dk ks ds) => some (ks, ds) | _ => none
  | _ => none
def asDT (M : MS) : D → Option (List (List Key) × List D)
  | .dt ks ds => some (ks, ds)
  | .ref a => match M a with | some (.dt ks ds) => some (ks, ds) | _ => none
  | _ => none
section
variable {K : KN} {H : Hp} {M : MS} {κ : Type} [DecidableEq κ]
theorem valV_cons {k q : κ} {v : V} {r : List (κ × V)} : valV ((k, v) :: r) q = if k = q then some v else valV r q := by
  by_cases e : k = q
  · rw [if_pos e, valV_pos (p := (k, v)) e]
  · rw [if_neg e, valV_neg (p := (k, v)) e]
theorem dGet_rep : ∀ {ks : List κ} {ds : List D} {vs : List V} {q : κ}, Reps K H M ds vs → ks.length = vs.length →
    (∀ d, dGet ks ds q = some d → ∃ v, valV (ks.zip vs) q = some v ∧ Rep K H M d v) ∧ (dGet ks ds q = none → valV (ks.zip vs) q = none)
  | [], _, _, _, .nil, _ => ⟨fun d e => by simp [dGet] at e, fun _ => rfl⟩
  | [], _, _, _, .cons _ _, e => by simp at e
  | _ :: _, _, _, _, .nil, e => by simp at e
  | k :: ks, d0 :: ds, v0 :: vs, q, .cons r t, e => by
    have ih := dGet_rep (ks := ks) (q := q) t (by simpa using e)
    show (∀ d, (if k = q then some d0 else dGet ks ds q) = some d → ∃ v, valV ((k, v0) :: ks.zip vs) q = some v ∧ Rep K H M d v) ∧ ((if k = q then some d0 else dGet ks ds q) = none → valV ((k, v0) :: ks.zip vs) q = none)
    rw [valV_cons]
    by_cases h : k = q
    · rw [if_pos h, if_pos h]
      exact ⟨fun d e => by cases e; exact ⟨v0, rfl, r⟩, fun e => by cases e⟩
    · rw [if_neg h, if_neg h]
      exact ih
theorem any_key {q : κ} : ∀ {ks : List κ} {vs : List V}, ks.length = vs.length → ((ks.zip vs).any fun kv => decide (kv.1 = q)) = decide (q ∈ ks)
  | [], [], _ => by simp
  | k :: ks, v :: vs, e => by
    rw [List.zip_cons_cons, List.any_cons, any_key (by simpa using e)]
    by_cases h : k = q
    · simp [h]
    · have h' : ¬ q = k := fun z => h z.symm
      simp [h, h']
theorem dSet_len {α : Type} {q : κ} {x : α} : ∀ {ks : List κ} {vs : List α}, ks.length = vs.length → (dSet ks vs q x).length = vs.length
  | [], [], _ => rfl
  | k :: ks, v :: vs, e => congrArg Nat.succ (dSet_len (ks := ks) (vs := vs) (by simpa using e))
theorem dPut_len {α : Type} {q : κ} {x : α} {ks : List κ} {vs : List α} (e : ks.length = vs.length) : (dPutK ks q).length = (dPutV ks vs q x).length := by
  unfold dPutK dPutV
  split
  · rw [dSet_len e]; exact e
  · simp [e]
theorem putK_zip {q : κ} {x : V} {ks : List κ} {vs : List V} (e : ks.length = vs.length) : putK (ks.zip vs) q x = (dPutK ks q).zip (dPutV ks vs q x) := by
  unfold putK dPutK dPutV
  rw [any_key e]
  by_cases h : q ∈ ks
  · rw [decide_eq_true h, if_pos rfl, if_pos h, if_pos h]
    have go : ∀ {l : List κ} {w : List V}, l.length = w.length → (l.zip w).map (fun kv => if kv.1 = q then (kv.1, x) else kv) = l.zip (dSet l w q x) := by
      intro l
      induction l with
      | nil => intro w _; rfl
      | cons k l ih =>
        intro w ew
        cases w with
        | nil => simp at ew
        | cons v w =>
          simp only [List.zip_cons_cons, List.map_cons, dSet, ih (w := w) (by simpa using ew)]
          by_cases hk : k = q
          · rw [if_pos hk, if_pos hk]
          · rw [if_neg hk, if_neg hk]
    exact go e
  · rw [decide_eq_false h, if_neg Bool.false_ne_true, if_neg h, if_neg h]
    rw [List.zip_append e]; rfl
theorem dSet_rep {q : κ} {d : D} {v : V} (r : Rep K H M d v) : ∀ {ks : List κ} {ds : List D} {vs : List V}, ks.length = vs.length → Reps K H M ds vs → Reps K H M (dSet ks ds q d) (dSet ks vs q v)
  | [], _, _, _, .nil => .nil
  | [], _, _, e, .cons _ _ => by simp at e
  | _ :: _, _, _, e, .nil => by simp at e
  | k :: ks, _, _, e, .cons r' t => by
    simp only [dSet]
    by_cases h : k = q
    · rw [if_pos h, if_pos h]; exact .cons r (dSet_rep r (by simpa using e) t)
    · rw [if_neg h, if_neg h]; exact .cons r' (dSet_rep r (by simpa using e) t)
theorem dPutV_rep {q : κ} {d : D} {v : V} {ks : List κ} {ds : List D} {vs : List V} (r : Rep K H M d v) (e : ks.length = vs.length) (t : Reps K H M ds vs) : Reps K H M (dPutV ks ds q d) (dPutV ks vs q v) := by
  unfold dPutV
  split
  · exact dSet_rep r e t
  · exact t.append (.cons r .nil)
theorem keyD_rep {d : D} {v : V} {k : Key} (r : Rep K H M d v) (e : keyD d = some k) : v = kV k := by
  cases r <;> simp [keyD] at e <;> subst e <;> rfl
theorem keysD_rep : ∀ {ds : List D} {vs : List V} {ks : List Key}, Reps K H M ds vs → keysD ds = some ks → vs = ks.map kV
  | [], _, _, .nil, e => by cases e; rfl
  | d :: ds, _, ks, .cons r t, e => by
    simp only [keysD] at e
    cases q : keyD d with
    | none => rw [q] at e; cases e
    | some k =>
      cases q2 : keysD ds with
      | none => rw [q, q2] at e; cases e
      | some ks' => rw [q, q2] at e; cases e; rw [keyD_rep r q, keysD_rep t q2]; rfl
theorem asDK_rep (o : Own K H M) {d : D} {v : V} {ks : List Key} {ds : List D} (r : Rep K H M d v) (e : asDK M d = some (ks, ds)) : ∃ a vs, v = .ref a ∧ H a = some (.dK (ks.zip vs)) ∧ ks.length = vs.length ∧ Reps K H M ds vs := by
  cases r with
  | dk h1 h2 h3 h4 => simp [asDK] at e; obtain ⟨rfl, rfl⟩ := e; exact ⟨_, _, rfl, h1, h3, h4⟩
  | ref a =>
    simp only [asDK] at e
    cases q : M a with
    | none => rw [q] at e; cases e
    | some mo =>
      rw [q] at e
      cases mo with
      | dk ks' ds' =>
        cases e
        obtain ⟨vs, h1, h2, h3⟩ := o.at_ a _ q
        exact ⟨a, vs, rfl, h1, h2, h3⟩
      | _ => cases e
  | _ => simp [asDK] at e
theorem asDT_rep (o : Own K H M) {d : D} {v : V} {ks : List (List Key)} {ds : List D} (r : Rep K H M d v) (e : asDT M d = some (ks, ds)) : ∃ a vs, v = .ref a ∧ H a = some (.dT (ks.zip vs)) ∧ ks.length = vs.length ∧ Reps K H M ds vs := by
  cases r with
  | dt h1 h2 h3 h4 => simp [asDT] at e; obtain ⟨rfl, rfl⟩ := e; exact ⟨_, _, rfl, h1, h3, h4⟩
  | ref a =>
    simp only [asDT] at e
    cases q : M a with
    | none => rw [q] at e; cases e
    | some mo =>
      rw [q] at e
      cases mo with
      | dt ks' ds' =>
        cases e
        obtain ⟨vs, h1, h2, h3⟩ := o.at_ a _ q
        exact ⟨a, vs, rfl, h1, h2, h3⟩
      | _ => cases e
  | _ => simp [asDT] at e
end

section
variable {X : Cx} {W : WX}
/-- what a dict holds under a key -/
inductive DLook (M : MS) (x y : D) : Option D → Prop where
  | k {ks : List Key} {ds : List D} {k : Key} : asDK M y = some (ks, ds) → keyD x = some k → DLook M x y (dGet ks ds k)
  | t {ks : List (List Key)} {ds : List D} {k : List Key} : asDT M y = some (ks, ds) → keyT x = some k → DLook M x y (dGet ks ds k)
theorem DLook.get {K : KN} {H : Hp} {M : MS} {x y : D} {vx vy : V} {r : Option D} (o : Own K H M) (rx : Rep K H M x vx) (ry : Rep K H M y vy) (l : DLook M x y r) :
    ∃ a ov, vy = .ref a ∧ DGet H a vx ov ∧ (∀ d, r = some d → ∃ v, ov = some v ∧ Rep K H M d v) ∧ (r = none → ov = none) := by
  cases l with
  | k e1 e2 =>
    obtain ⟨a, vs, h1, h2, h3, h4⟩ := asDK_rep o ry e1
    have hk := keyD_rep rx e2
    subst hk
    obtain ⟨g1, g2⟩ := dGet_rep (q := _) h4 h3
    exact ⟨a, _, h1, DGet.k h2, fun d e => by obtain ⟨v, a, b⟩ := g1 d e; exact ⟨v, a, b⟩, g2⟩
  | t e1 e2 =>
    obtain ⟨a, vs, h1, h2, h3, h4⟩ := asDT_rep o ry e1
    cases x with
    | tup ds =>
      cases rx with
      | tup t q =>
        have e4 := keysD_rep q e2
        subst e4
        obtain ⟨g1, g2⟩ := dGet_rep (q := _) h4 h3
        exact ⟨a, _, h1, DGet.t h2 t.1, fun d e => by obtain ⟨v, a, b⟩ := g1 d e; exact ⟨v, a, b⟩, g2⟩
    | _ => simp [keyT] at e2
/-! ### in, not in -/
def gIn (neg : Bool) : F2 := fun x y M Q =>
  (∃ ds p ps, asQ M y = some ds ∧ toPM M x = some p ∧ toPs ds = some ps ∧ SeqAt.shaped p = true ∧ SeqAt.shaped (.list ps) = true ∧ Q (.bl (if neg = true then !ps.any fun z => PyData.eqv z p else ps.any fun z => PyData.eqv z p)) M) ∨
  ∃ r, DLook M x y r ∧ Q (.bl (if neg = true then !r.isSome else r.isSome)) M
theorem look_some {K : KN} {H : Hp} {M : MS} {r : Option D} {ov : Option V} (h1 : ∀ d, r = some d → ∃ v, ov = some v ∧ Rep K H M d v) (h2 : r = none → ov = none) : ov.isSome = r.isSome := by
  cases r with
  | none => rw [h2 rfl]; rfl
  | some d => obtain ⟨v, e, _⟩ := h1 d rfl; rw [e]; rfl
theorem dpAll_of {K : PySem.W.Frag} {H : Hp} {a : Addr} {vs : List V} {ps : List PyData} (h : SqL K H a vs ∨ SqT K H a vs) (q : DpAll K H vs ps) : Dp K H (.ref a) (.list ps) ∨ Dp K H (.ref a) (.tuple ps) := h.imp (fun h => .lst h q) fun h => .tup h q
theorem op_inDD (neg : Bool) (hu : X.A.units + 65 < cLine) : OpD X (compareOp (if neg = true then .NotIn else .In)) (gIn neg) := by
  intro pins s σ H x y v u Q I rx ry ⟨N, M, d, e, Qd, o, r1, r2, g, k⟩
  rcases g with ⟨ds, p, ps, h1, h2, h3, h4, h5, q⟩ | ⟨r, l, q⟩
  · obtain ⟨a, vs, e1, e2, e3⟩ := r2.asQ o h1
    subst e1
    have hp := r1.dpM o h2
    have hps := e3.dp h3
    obtain ⟨as, ra⟩ := Dp.reads I p _ v hp rx
    have hfin : EP X pins σ Q (Value.bool (if neg = true then !ps.any fun z => PyData.eqv z p else ps.any fun z => PyData.eqv z p)) s := ⟨V.bl _, H, I, rfl, k _ _ M H (Fr.refl _ _) o (.bl _) q⟩
    have c1 : PyData.canLayAll0 ps = true := SeqAt.canLay_of_shaped h5
    have c2 := SeqAt.canLay_of_shaped h4
    have c3 : X.A.units + 1 + min (PyData.depthAll ps) p.depth < cLine := PyProof.Rows.room_in_shaped h4 hu
    rcases dpAll_of e2 hps with hl | hl
    · obtain ⟨bs, rb⟩ := Dp.reads I (.list ps) _ u hl ry
      cases neg with
      | true => exact SeqAt.notIn_list_reads rb ra c1 c2 c3 hfin
      | false => exact SeqAt.in_list_reads rb ra c1 c2 c3 hfin
    · obtain ⟨bs, rb⟩ := Dp.reads I (.tuple ps) _ u hl ry
      cases neg with
      | true => exact SeqAt.notIn_tuple_reads rb ra c1 c2 c3 hfin
      | false => exact SeqAt.in_tuple_reads rb ra c1 c2 c3 hfin
  · obtain ⟨a, ov, e1, g, h1, h2⟩ := l.get o r1 r2
    subst e1
    obtain rfl : u = Value.ref a := ry
    have es := look_some h1 h2
    cases neg with
    | true => exact d_notIn (by omega) I g rx fun s' I' => by rw [es]; exact ⟨V.bl _, H, I', rfl, k _ _ M H (Fr.refl _ _) o (.bl _) q⟩
    | false => exact d_in (by omega) I g rx fun s' I' => by rw [es]; exact ⟨V.bl _, H, I', rfl, k _ _ M H (Fr.refl _ _) o (.bl _) q⟩
/-! ### is -/
def isNon : D → Bool
  | .non => true
  | _ => false
def gIs (neg : Bool) : F2 := fun x y M Q => match y with
  | .non => Q (.bl (if neg = true then !isNon x else isNon x)) M
  | .bl b => ∃ a, x = .bl a ∧ Q (.bl (if neg = true then !decide (a = b) else decide (a = b))) M
  | _ => False
theorem op_isD (neg : Bool) : OpD X (compareOp (if neg = true then .IsNot else .Is)) (gIs neg) := by
  intro pins s σ H x y v u Q I rx ry ⟨N, M, d, e, Qd, o, r1, r2, g, k⟩
  have here : Fr H M H M := Fr.refl _ _
  cases e with
  | non =>
    cases r2
    have hd : decide (x = V.non) = isNon d := by cases r1 <;> simp [isNon]
    cases neg with
    | true => exact op_notN pins s σ H _ _ v u Q I rx ry ⟨rfl, by rw [hd]; exact k _ _ M H here o (.bl _) g⟩
    | false => exact op_isN pins s σ H _ _ v u Q I rx ry ⟨rfl, by rw [hd]; exact k _ _ M H here o (.bl _) g⟩
  | bl b =>
    obtain ⟨a, rfl, q⟩ := g
    cases r1; cases r2
    cases neg with
    | true => exact op_isnot_bl pins s σ H _ _ v u Q I rx ry ⟨a, b, rfl, rfl, k _ _ M H here o (.bl _) q⟩
    | false => exact op_is_bl pins s σ H _ _ v u Q I rx ry ⟨a, b, rfl, rfl, k _ _ M H here o (.bl _) q⟩
  | _ => exact g.elim

/-! ### -a, not a, and, or, if else -/
def dNeg (t : TED) : TED := fun ρ M Q R => t ρ M (fun d M1 => ∃ i, d = .int i ∧ Q (.int (-i)) M1) R
theorem e_neg {a : Expr} {t : TED} {pos : Pos} (ha : JE X W a t) : JE X W (.UnaryOp .USub a pos) (dNeg t) :=
  pe_imp (pe_un un_neg ha) fun σ H Q ⟨N, ρ, M, Qd, R, er, o, q, k, x⟩ =>
    ⟨N, ρ, M, _, R, er, o, q, fun d v M1 H1 f1 o1 r1 ⟨i, e, q1⟩ => by
      subst e; cases r1; exact ⟨i, rfl, k _ _ M1 H1 f1 o1 (.int _) q1⟩, x⟩
/-- a value's truth -/
def truD (M : MS) : D → Option Bool
  | .non => some false
  | .bl b => some b
  | .int i => some (i != 0)
  | .str x => if x.length ≤ sizeLine then some ((x.length : Int) != 0) else none
  | .tup ds => some !ds.isEmpty
  | .ktup ds => some !ds.isEmpty
  | .lst ds => some !ds.isEmpty
  | .klst ds => some !ds.isEmpty
  | .dk ks _ => some !ks.isEmpty
  | .ref a => match M a with
    | some (.lst ds) => some !ds.isEmpty
    | some (.dk ks _) => some !ks.isEmpty
    | _ => none
  | _ => none
theorem Reps.empty {K : KN} {H : Hp} {M : MS} {ds : List D} {vs : List V} (r : Reps K H M ds vs) : vs.isEmpty = ds.isEmpty := by cases r <;> rfl
theorem truD_rep {K : KN} {H : Hp} {M : MS} {d : D} {v : V} {b : Bool} (o : Own K H M) (r : Rep K H M d v) (e : truD M d = some b) : TruV K.K v H b := by
  have zipE : ∀ {ks : List Key} {vs : List V}, ks.length = vs.length → (ks.zip vs).isEmpty = ks.isEmpty := fun {ks vs} h => by
    cases ks <;> cases vs <;> simp at h ⊢
  cases r with
  | non => cases e; rfl
  | bl b' => cases e; rfl
  | int i => cases e; rfl
  | str x =>
    simp only [truD] at e
    by_cases h : x.length ≤ sizeLine
    · rw [if_pos h] at e; cases e; exact ⟨h, rfl⟩
    · rw [if_neg h] at e; cases e
  | tup t q => cases e; exact .inr (.inl ⟨_, t.sq, by rw [q.empty]⟩)
  | ktup t q => cases e; exact .inr (.inl ⟨_, t.sq, by rw [q.empty]⟩)
  | lst t q => cases e; exact .inl ⟨_, t.sq, by rw [q.empty]⟩
  | klst e' q => cases e; exact .inl ⟨_, e'.sq, by rw [q.empty]⟩
  | dk h1 h2 h3 h4 => cases e; exact .inr (.inr ⟨_, h1, by rw [zipE h3]⟩)
  | ref a =>
    simp only [truD] at e
    cases q : M a with
    | none => rw [q] at e; cases e
    | some mo =>
      rw [q] at e
      cases mo with
      | lst ds => cases e; obtain ⟨vs, h1, h2⟩ := o.at_ a _ q; exact .inl ⟨_, SqL.of h1, by rw [h2.empty]⟩
      | dk ks ds => cases e; obtain ⟨vs, h1, h2, h3⟩ := o.at_ a _ q; exact .inr (.inr ⟨_, h1, by rw [zipE h2]⟩)
      | dt _ _ => cases e
      | ins _ _ _ => cases e
  | _ => simp [truD] at e
def dTru (t : TED) : TTD := fun ρ M Q R => t ρ M (fun d M1 => ∃ b, truD M1 d = some b ∧ Q b M1) R
/-- any expression whose test is its value's truth -/
theorem t_tru {a : Expr} {t : TED} (ha : JE X W a t) (he : ∀ whole, isTrue a X.env whole = (do let v ← whole; standAt a.pos; holding [v] (truthy v))) : JT X W a (dTru t) :=
  pt_imp (pt_truth ha he) fun σ H Q ⟨N, ρ, M, Qd, R, er, o, q, k, x⟩ =>
    ⟨N, ρ, M, _, R, er, o, q, fun d v M1 H1 f1 o1 r1 ⟨b, e, q1⟩ => ⟨b, truD_rep o1 r1 e, k b M1 H1 f1 o1 q1⟩, x⟩
def dNotT (t : TTD) : TTD := fun ρ M Q R => t ρ M (fun b M1 => Q (!b) M1) R
theorem t_not {a : Expr} {t : TTD} {pos : Pos} (ha : JT X W a t) : JT X W (.UnaryOp .Not a pos) (dNotT t) :=
  pt_imp (pt_not ha) fun σ H Q ⟨N, ρ, M, Qd, R, er, o, q, k, x⟩ => ⟨N, ρ, M, _, R, er, o, q, fun b M1 H1 f1 o1 q1 => k (!b) M1 H1 f1 o1 q1, x⟩
def dAndT (t u : TTD) : TTD := fun ρ M Q R => t ρ M (fun b M1 => if b = true then u ρ M1 Q R else Q false M1) R
def dOrT (t u : TTD) : TTD := fun ρ M Q R => t ρ M (fun b M1 => if b = true then Q true M1 else u ρ M1 Q R) R
theorem w_and1 {a : Expr} {t : TTD} {pos : Pos} (ha : JT X W a t) : JW X W (.BoolOp .And [a] pos) t := pw_and1 ha
theorem w_or1 {a : Expr} {t : TTD} {pos : Pos} (ha : JT X W a t) : JW X W (.BoolOp .Or [a] pos) t := pw_or1 ha
theorem w_and {a b : Expr} {rest : List Expr} {t u : TTD} {pos : Pos} (ha : JT X W a t) (hb : JW X W (.BoolOp .And (b :: rest) pos) u) : JW X W (.BoolOp .And (a :: b :: rest) pos) (dAndT t u) :=
  pw_imp (pw_and ha hb) fun σ H Q ⟨N, ρ, M, Qd, R, er, o, q, k, x⟩ => ⟨N, ρ, M, _, R, er, o, q, fun c M1 H1 f1 o1 q1 => by
    cases c with
    | true => exact ⟨N, ρ, M1, _, R, er.mono f1, o1, q1, fun c M2 H2 f2 o2 q2 => k c M2 H2 (f1.trans f2) o2 q2, x.mono f1⟩
    | false => exact k false M1 H1 f1 o1 q1, x⟩
theorem w_or {a b : Expr} {rest : List Expr} {t u : TTD} {pos : Pos} (ha : JT X W a t) (hb : JW X W (.BoolOp .Or (b :: rest) pos) u) : JW X W (.BoolOp .Or (a :: b :: rest) pos) (dOrT t u) :=
  pw_imp (pw_or ha hb) fun σ H Q ⟨N, ρ, M, Qd, R, er, o, q, k, x⟩ => ⟨N, ρ, M, _, R, er, o, q, fun c M1 H1 f1 o1 q1 => by
    cases c with
    | false => exact ⟨N, ρ, M1, _, R, er.mono f1, o1, q1, fun c M2 H2 f2 o2 q2 => k c M2 H2 (f1.trans f2) o2 q2, x.mono f1⟩
    | true => exact k true M1 H1 f1 o1 q1, x⟩
theorem t_w {a : Expr} {t : TTD} (h : JW X W a t) : JT X W a t := PW.pt h
/-- and, or, not as values: bools -/
def dAndE (t u : TED) : TED := fun ρ M Q R => t ρ M (fun d M1 => ∃ b, d = .bl b ∧ if b = true then u ρ M1 Q R else Q (.bl false) M1) R
def dOrE (t u : TED) : TED := fun ρ M Q R => t ρ M (fun d M1 => ∃ b, d = .bl b ∧ if b = true then Q (.bl true) M1 else u ρ M1 Q R) R
def dNotE (t : TED) : TED := fun ρ M Q R => t ρ M (fun d M1 => ∃ b, d = .bl b ∧ Q (.bl (!b)) M1) R
theorem e_one {op : BoolOp} {a : Expr} {t : TED} {pos : Pos} (ha : JE X W a t) : JE X W (.BoolOp op [a] pos) t := pe_one ha
theorem e_and {a b : Expr} {rest : List Expr} {t u : TED} {pos : Pos} (ha : JE X W a t) (hb : JE X W (.BoolOp .And (b :: rest) pos) u) : JE X W (.BoolOp .And (a :: b :: rest) pos) (dAndE t u) :=
  pe_imp (pe_and ha hb) fun σ H Q ⟨N, ρ, M, Qd, R, er, o, q, k, x⟩ => ⟨N, ρ, M, _, R, er, o, q, fun d v M1 H1 f1 o1 r1 ⟨c, e, q1⟩ => by
    subst e; cases r1
    refine ⟨c, rfl, ?_⟩
    cases c with
    | true => exact ⟨N, ρ, M1, _, R, er.mono f1, o1, q1, fun d v M2 H2 f2 o2 r2 q2 => k d v M2 H2 (f1.trans f2) o2 r2 q2, x.mono f1⟩
    | false => exact k _ _ M1 H1 f1 o1 (.bl _) q1, x⟩
theorem e_or {a b : Expr} {rest : List Expr} {t u : TED} {pos : Pos} (ha : JE X W a t) (hb : JE X W (.BoolOp .Or (b :: rest) pos) u) : JE X W (.BoolOp .Or (a :: b :: rest) pos) (dOrE t u) :=
  pe_imp (pe_or ha hb) fun σ H Q ⟨N, ρ, M, Qd, R, er, o, q, k, x⟩ => ⟨N, ρ, M, _, R, er, o, q, fun d v M1 H1 f1 o1 r1 ⟨c, e, q1⟩ => by
    subst e; cases r1
    refine ⟨c, rfl, ?_⟩
    cases c with
    | false => exact ⟨N, ρ, M1, _, R, er.mono f1, o1, q1, fun d v M2 H2 f2 o2 r2 q2 => k d v M2 H2 (f1.trans f2) o2 r2 q2, x.mono f1⟩
    | true => exact k _ _ M1 H1 f1 o1 (.bl _) q1, x⟩
theorem e_not {a : Expr} {t : TED} {pos : Pos} (ha : JE X W a t) : JE X W (.UnaryOp .Not a pos) (dNotE t) :=
  pe_imp (pe_not ha) fun σ H Q ⟨N, ρ, M, Qd, R, er, o, q, k, x⟩ => ⟨N, ρ, M, _, R, er, o, q, fun d v M1 H1 f1 o1 r1 ⟨c, e, q1⟩ => by
    subst e; cases r1
    exact ⟨c, rfl, k _ _ M1 H1 f1 o1 (.bl _) q1⟩, x⟩
def dIfE (c : TTD) (t u : TED) : TED := fun ρ M Q R => c ρ M (fun b M1 => if b = true then t ρ M1 Q R else u ρ M1 Q R) R
theorem e_if {c a b : Expr} {tc : TTD} {t u : TED} {pos : Pos} (hc : JT X W c tc) (ha : JE X W a t) (hb : JE X W b u) : JE X W (.IfExp c a b pos) (dIfE tc t u) :=
  pe_imp (pe_ifExp hc ha hb) fun σ H Q ⟨N, ρ, M, Qd, R, er, o, q, k, x⟩ => ⟨N, ρ, M, _, R, er, o, q, fun c M1 H1 f1 o1 q1 => by
    cases c with
    | true => exact ⟨N, ρ, M1, _, R, er.mono f1, o1, q1, fun d v M2 H2 f2 o2 r2 q2 => k d v M2 H2 (f1.trans f2) o2 r2 q2, x.mono f1⟩
    | false => exact ⟨N, ρ, M1, _, R, er.mono f1, o1, q1, fun d v M2 H2 f2 o2 r2 q2 => k d v M2 H2 (f1.trans f2) o2 r2 q2, x.mono f1⟩, x⟩
end
end DL

set_option Elab.async false
set_option maxRecDepth 100000
set_option maxHeartbeats 4000000
/-! The data layer: targets, statements, loops. -/
namespace DL
open PySem PySem.Spec L2

/-! ### targets -/
inductive Tgt where
  | name (i : Nat) | tup (ts : List Tgt)
def asT : D → Option (List D)
  | .tup ds => some ds
  | .ktup ds => some ds
  | _ => none
mutual
/-- a value is laid to a target -/
def asg : Tgt → D → Rho → Option Rho
  | .name i, d, ρ => some (ρ.set i (some d))
  | .tup ts, d, ρ => match asT d with
    | some ds => asgs ts ds ρ
    | none => none
def asgs : List Tgt → List D → Rho → Option Rho
  | [], [], ρ => some ρ
  | t :: ts, d :: ds, ρ => match asg t d ρ with
    | some ρ' => asgs ts ds ρ'
    | none => none
  | _, _, _ => none
end
mutual
def slots : Tgt → List Nat
  | .name i => [i]
  | .tup ts => slotsL ts
def slotsL : List Tgt → List Nat
  | [] => []
  | t :: ts => slots t ++ slotsL ts
end
/-- the reading of a target, at the level of values: what it does with the slots -/
structure GOk (F : PySem.W.Frag) (t : Tgt) (g : TG) : Prop where
  go : ∀ (N : Addr → Prop) (H : Hp) (M : MS) (d : D) (v : V) (ρ ρ' : Rho) (σ : L2.St) (Q : L2.St → Hp → Prop), Own ⟨F, N⟩ H M → Rep ⟨F, N⟩ H M d v → EnvR ⟨F, N⟩ H M ρ σ → asg t d ρ = some ρ' →
    (∀ σ', EnvR ⟨F, N⟩ H M ρ' σ' → (∀ vs : List Nat, (∀ i ∈ slots t, i ∈ vs) → wipe σ' vs = wipe σ vs) → Q σ' H) → g v σ H Q
structure GsOk (F : PySem.W.Frag) (ts : List Tgt) (g : TGs) : Prop where
  go : ∀ (N : Addr → Prop) (H : Hp) (M : MS) (ds : List D) (vs : List V) (ρ ρ' : Rho) (σ : L2.St) (Q : L2.St → Hp → Prop), Own ⟨F, N⟩ H M → Reps ⟨F, N⟩ H M ds vs → EnvR ⟨F, N⟩ H M ρ σ → asgs ts ds ρ = some ρ' →
    (∀ σ', EnvR ⟨F, N⟩ H M ρ' σ' → (∀ vs : List Nat, (∀ i ∈ slotsL ts, i ∈ vs) → wipe σ' vs = wipe σ vs) → Q σ' H) → g vs σ H Q
theorem wipe_set {σ : L2.St} {i : Nat} {v : Option V} : ∀ {vs : List Nat}, i ∈ vs → wipe (σ.set i v) vs = wipe σ vs
  | [], h => by cases h
  | j :: vs, h => by
    unfold wipe
    by_cases hj : i ∈ vs
    · rw [wipe_set hj]
    · have e : i = j := (List.mem_cons.mp h).resolve_right hj
      subst e
      have key : ∀ (vs : List Nat), i ∉ vs → wipe (σ.set i v) vs = (wipe σ vs).set i v := by
        intro vs
        induction vs with
        | nil => intro _; rfl
        | cons k vs ih =>
          intro hk
          unfold wipe
          rw [ih fun z => hk (List.mem_cons_of_mem _ z)]
          exact List.set_comm _ _ (fun z => hk (by rw [z]; exact List.mem_cons_self))
      rw [key vs hj, List.set_set]
theorem gok_name {K : PySem.W.Frag} (i : Nat) : GOk K (.name i) (gName i) := ⟨fun N H M d v ρ ρ' σ Q o r e h k => by
  cases h
  exact k _ (e.set r i) fun vs hv => wipe_set (hv i (by simp [slots]))⟩
theorem gsok_nil {K : PySem.W.Frag} : GsOk K [] gNil := ⟨fun N H M ds vs ρ ρ' σ Q o r e h k => by
  cases ds with
  | nil => cases r; cases h; exact ⟨rfl, k _ e fun _ _ => rfl⟩
  | cons d ds => simp [asgs] at h⟩
theorem gsok_cons {K : PySem.W.Frag} {t : Tgt} {ts : List Tgt} {g : TG} {gs : TGs} (h1 : GOk K t g) (h2 : GsOk K ts gs) : GsOk K (t :: ts) (gCons g gs) := ⟨fun N H M ds vs ρ ρ' σ Q o r e h k => by
  cases ds with
  | nil => simp [asgs] at h
  | cons d ds =>
    simp only [asgs] at h
    cases r with
    | cons r rs =>
      cases q : asg t d ρ with
      | none => rw [q] at h; cases h
      | some ρ1 =>
        rw [q] at h
        refine ⟨_, _, rfl, h1.go N H M d _ ρ ρ1 σ _ o r e q fun σ1 e1 w1 => h2.go N H M ds _ ρ1 ρ' σ1 Q o rs e1 h fun σ2 e2 w2 => k σ2 e2 fun vs hv => ?_⟩
        rw [w2 vs fun i hi => hv i (by simp [slotsL, hi]), w1 vs fun i hi => hv i (by simp [slotsL, hi])]⟩
theorem asgs_len : ∀ {ts : List Tgt} {ds : List D} {ρ ρ' : Rho}, asgs ts ds ρ = some ρ' → ds.length = ts.length
  | [], [], _, _, _ => rfl
  | [], _ :: _, _, _, h => by simp [asgs] at h
  | _ :: _, [], _, _, h => by simp [asgs] at h
  | t :: ts, d :: ds, ρ, ρ', h => by
    simp only [asgs] at h
    cases q : asg t d ρ with
    | none => rw [q] at h; cases h
    | some ρ1 => rw [q] at h; exact congrArg Nat.succ (asgs_len h)
theorem gok_tup {K : PySem.W.Frag} {ts : List Tgt} {gs : TGs} {n : Nat} (h : GsOk K ts gs) (hn : ts.length = n) : GOk K (.tup ts) (gTup K n gs) := ⟨fun N H M d v ρ ρ' σ Q o r e hq k => by
  simp only [asg] at hq
  cases q : asT d with
  | none => rw [q] at hq; cases hq
  | some ds =>
    rw [q] at hq
    have hl := asgs_len hq
    have fin : ∀ {a vs}, SqT K H a vs → Reps ⟨K, N⟩ H M ds vs → gTup K n gs (.ref a) σ H Q := fun {a vs} hs rs =>
      ⟨a, vs, rfl, hs, by rw [← rs.length, hl, hn], h.go N H M ds vs ρ ρ' σ Q o rs e hq fun σ' e' w => k σ' e' fun vs hv => w vs fun i hi => hv i (by simpa [slots] using hi)⟩
    cases r with
    | tup t rs => simp [asT] at q; subst q; exact fin (TupAt.sq (K := ⟨K, N⟩) t) rs
    | ktup t rs => simp [asT] at q; subst q; exact fin t.sq rs
    | _ => simp [asT] at q⟩

/-! ### statements -/
section
variable {X : Cx} {W : WX}
def dNext : TSD := fun D ρ M => D.nx ρ M
def dSeq (t u : TSD) : TSD := fun D ρ M => t { D with nx := u D } ρ M
theorem b_nil : JB X W [] dNext := pss_imp pss_nil fun D σ H ⟨N, ρ, M, D0, er, o, q, l⟩ => l.nx ρ σ M H (Fr.refl _ _) o er q
theorem b_cons {st : Stmt} {rest : List Stmt} {t u : TSD} (h1 : JS X W st t) (h2 : JB X W rest u) : JB X W (st :: rest) (dSeq t u) :=
  pss_imp (pss_cons h1 h2) fun D σ H ⟨N, ρ, M, D0, er, o, q, l⟩ => ⟨N, ρ, M, { D0 with nx := u D0 }, er, o, q, ⟨fun ρ' σ' M' H' f o' e' q' => ⟨N, ρ', M', D0, e', o', q', l.mono f⟩, l.rt, l.bk, l.ct, l.rz⟩⟩
theorem b_one {st : Stmt} {t : TSD} (h1 : JS X W st t) : JB X W [st] t := pss_one h1
theorem s_pass {pos : Pos} : JS X W (.Pass pos) dNext := ps_imp ps_pass fun D σ H ⟨N, ρ, M, D0, er, o, q, l⟩ => l.nx ρ σ M H (Fr.refl _ _) o er q
def dBreak : TSD := fun D ρ M => D.bk ρ M
def dCont : TSD := fun D ρ M => D.ct ρ M
theorem s_break {pos : Pos} : JS X W (.Break pos) dBreak := ps_imp ps_break fun D σ H ⟨N, ρ, M, D0, er, o, q, l⟩ => l.bk ρ σ M H (Fr.refl _ _) o er q
theorem s_cont {pos : Pos} : JS X W (.Continue pos) dCont := ps_imp ps_continue fun D σ H ⟨N, ρ, M, D0, er, o, q, l⟩ => l.ct ρ σ M H (Fr.refl _ _) o er q
theorem s_doc {x : Str} {j} {pos pos' : Pos} : JS X W (.Expr (.Constant (.str x) j pos) pos') dNext := ps_imp ps_doc fun D σ H ⟨N, ρ, M, D0, er, o, q, l⟩ => l.nx ρ σ M H (Fr.refl _ _) o er q
def dRz (D : EndsD) (ρ : Rho) : RK := fun C d M => D.rz C d ρ M
def dDrop (t : TED) : TSD := fun D ρ M => t ρ M (fun _ M1 => D.nx ρ M1) (dRz D ρ)
theorem s_expr {e : Expr} {t : TED} {pos : Pos} (he : JE X W e t) (hs : swapsWith e none pos.line X.env = pure false := by rfl) : JS X W (.Expr e pos) (dDrop t) :=
  ps_imp (ps_expr he hs) fun D σ H ⟨N, ρ, M, D0, er, o, q, l⟩ => ⟨N, ρ, M, _, _, er, o, q, fun d v M1 H1 f1 o1 r1 q1 => l.nx ρ σ M1 H1 f1 o1 (er.mono f1) q1, l.raise er⟩
def dRet (t : TED) : TSD := fun D ρ M => t ρ M D.rt (dRz D ρ)
theorem s_ret {e : Expr} {t : TED} {pos : Pos} (he : JE X W e t) : JS X W (.Return (some e) pos) (dRet t) :=
  ps_imp (ps_ret he) fun D σ H ⟨N, ρ, M, D0, er, o, q, l⟩ => ⟨N, ρ, M, _, _, er, o, q, fun d v M1 H1 f1 o1 r1 q1 => l.rt d v M1 H1 f1 o1 r1 q1, l.raise er⟩
def dRetN : TSD := fun D _ M => D.rt .non M
theorem s_retN {pos : Pos} : JS X W (.Return none pos) dRetN := ps_imp ps_retN fun D σ H ⟨N, ρ, M, D0, er, o, q, l⟩ => l.rt .non .non M H (Fr.refl _ _) o .non q
def dIf (c : TTD) (t u : TSD) : TSD := fun D ρ M => c ρ M (fun b M1 => if b = true then t D ρ M1 else u D ρ M1) (dRz D ρ)
theorem s_if {c : Expr} {a b : List Stmt} {tc : TTD} {t u : TSD} {pos : Pos} (hc : JT X W c tc) (ha : JB X W a t) (hb : JB X W b u) : JS X W (.If c a b pos) (dIf tc t u) :=
  ps_imp (ps_if hc ha hb) fun D σ H ⟨N, ρ, M, D0, er, o, q, l⟩ => ⟨N, ρ, M, _, _, er, o, q, fun b M1 H1 f1 o1 q1 => by
    cases b with
    | true => exact ⟨N, ρ, M1, D0, er.mono f1, o1, q1, l.mono f1⟩
    | false => exact ⟨N, ρ, M1, D0, er.mono f1, o1, q1, l.mono f1⟩, l.raise er⟩
/-- target = value -/
def dAsg (t : TED) (g : Tgt) : TSD := fun D ρ M => t ρ M (fun d M1 => ∃ ρ', asg g d ρ = some ρ' ∧ D.nx ρ' M1) (dRz D ρ)
theorem asg_read {K : PySem.W.Frag} {te : TE} {t : TED} {g : Tgt} {gv : TG} (hg : GOk K g gv) (hte : ∀ σ H Q, lE K W t σ H Q → te σ H Q) : ∀ D σ H, lS K W (dAsg t g) D σ H → tAsg te gv D σ H :=
  fun D σ H ⟨N, ρ, M, D0, er, o, q, l⟩ => hte σ H _ ⟨N, ρ, M, _, _, er, o, q, fun d v M1 H1 f1 o1 r1 ⟨ρ', ea, q1⟩ =>
    hg.go N H1 M1 d v ρ ρ' σ _ o1 r1 (er.mono f1) ea fun σ' e' _ => l.nx ρ' σ' M1 H1 f1 o1 e' q1, l.raise er⟩
theorem s_asg {tg e : Expr} {t : TED} {g : Tgt} {gv : TG} {pos : Pos} (he : JE X W e t) (hp : PG X tg gv) (hg : GOk X.K g gv) (hs : swapsWithSole [tg] e pos.line X.env = pure false := by rfl) (hw : swappedStores [tg] e X.env = pure none := by rfl)
    (h1 : (assignEach [tg] X.env).map (·.2) = [assign tg X.env] := by rfl) : JS X W (.Assign [tg] e pos) (dAsg t g) :=
  ps_imp (ps_asg he hp hs hw h1) (asg_read hg fun _ _ _ h => h)
theorem s_set {i : Nat} {x : Str} {e : Expr} {t : TED} {pos pos' : Pos} (hN : X.N.Nodup) (hi : X.N[i]? = some x) (hx : Loc X.env.scope x) (he : JE X W e t) (hs : swapsWith e (some (.Name x pos')) pos.line X.env = pure false := by rfl)
    (hf : X.fn x = true ∨ X.env.scope.names.lookup x = some .local := by first | exact .inl rfl | exact .inr rfl | assumption) : JS X W (.Assign [.Name x pos'] e pos) (dAsg t (.name i)) :=
  ps_imp (ps_set hN hi hx he hs hf) (asg_read (gok_name i) fun _ _ _ h => h)
/-- a, b = x, y: two plain names -/
def dPar (i j : Nat) (t : TAD) : TSD := fun D ρ M => t ρ M (fun ds M1 => ∃ d e, ds = [d, e] ∧ D.nx ((ρ.set i (some d)).set j (some e)) M1) (dRz D ρ)
theorem par_read {K : PySem.W.Frag} {ta : TA} {t : TAD} {i j : Nat} (hta : ∀ σ H Q, lA K W t σ H Q → ta σ H Q) : ∀ D σ H, lS K W (dPar i j t) D σ H → tPar i j ta D σ H :=
  fun D σ H ⟨N, ρ, M, D0, er, o, q, l⟩ => hta σ H _ ⟨N, ρ, M, _, _, er, o, q, fun ds vs M1 H1 f1 o1 r1 ⟨d, e, ed, q1⟩ => by
    subst ed
    cases r1 with | cons r1 r2 =>
    cases r2 with | cons r2 r3 =>
    cases r3
    exact ⟨_, _, rfl, l.nx _ _ M1 H1 f1 o1 (((er.mono f1).set r1 i).set r2 j) q1⟩, l.raise er⟩
/-- o[i] = e -/
abbrev F3 := D → D → D → MS → (MS → Prop) → Prop
def gStore : F3 := fun o i v M Q =>
  (∃ a ds k j, o = .ref a ∧ i = .int k ∧ M a = some (.lst ds) ∧ ixN ds.length k = some j ∧ Q (M.set a (.lst (ds.set j v)))) ∨
  (∃ a ks ds k, o = .ref a ∧ keyD i = some k ∧ M a = some (.dk ks ds) ∧ ks.length < sizeLine ∧ Q (M.set a (.dk (dPutK ks k) (dPutV ks ds k v)))) ∨
  ∃ a ks ds k, o = .ref a ∧ keyT i = some k ∧ M a = some (.dt ks ds) ∧ ks.length < sizeLine ∧ Q (M.set a (.dt (dPutK ks k) (dPutV ks ds k v)))
def lF3 (F : PySem.W.Frag) (g : F3) : TSet := fun x y z H Q => ∃ N M o i v Qd, Own ⟨F, N⟩ H M ∧ Rep ⟨F, N⟩ H M o x ∧ Rep ⟨F, N⟩ H M i y ∧ Rep ⟨F, N⟩ H M v z ∧ g o i v M Qd ∧ ∀ M' H', Fr H M H' M' → Own ⟨F, N⟩ H' M' → Qd M' → Q H'
theorem set_store (hu : X.A.units + 1 < cLine) : PSet X (lF3 X.K gStore) := by
  intro pins s σ H ov iv vv o i v Q I ro ri rv ⟨N, M, od, id', vd, Qd, ow, r1, r2, r3, g, k⟩
  rcases g with ⟨a, ds, kk, j, e1, e2, hm, hj, q⟩ | ⟨a, ks, ds, kk, e1, e2, hm, hl, q⟩ | ⟨a, ks, ds, kk, e1, e2, hm, hl, q⟩
  · subst e1 e2
    cases r1; cases r2
    obtain ⟨vs, h1, h2⟩ := ow.at_ a _ hm
    refine set_list pins s σ H _ _ _ o i v Q I ro ri rv ⟨a, vs, kk, j, rfl, rfl, h1, by rw [← h2.length]; exact hj, ?_⟩
    exact k _ _ (Fr.put hm) (ow.put (mo' := .lst (ds.set j vd)) hm ⟨_, upd_same, (h2.mono (Fr.put hm)).set (r3.mono (Fr.put hm)) j⟩) q
  · subst e1
    cases r1
    obtain ⟨vs, h1, h2, h3⟩ := ow.at_ a _ hm
    have hk := keyD_rep r2 e2
    subst hk
    obtain rfl : o = Value.ref a := ro
    have hz : (ks.zip vs).length < sizeLine := by rw [List.length_zip]; omega
    refine d_setItem hu I (DPut.k (k := kk) (v := vv) h1 hz) ri rv fun s' I' => ⟨_, I', ?_⟩
    refine k _ _ (Fr.put hm) (ow.put (mo' := .dk (dPutK ks kk) (dPutV ks ds kk vd)) hm ⟨dPutV ks vs kk vv, ?_, dPut_len h2, (dPutV_rep (r3.mono (Fr.put hm)) h2 (h3.mono (Fr.put hm)))⟩) q
    rw [upd_same, putK_zip h2]
  · subst e1
    cases r1
    obtain ⟨vs, h1, h2, h3⟩ := ow.at_ a _ hm
    cases id' with
    | tup ds' =>
      cases r2 with
      | tup t rq =>
        have hk := keysD_rep rq e2
        subst hk
        obtain rfl : o = Value.ref a := ro
        have hz : (ks.zip vs).length < sizeLine := by rw [List.length_zip]; omega
        refine d_setItem hu I (DPut.t (k := kk) (v := vv) h1 t.1 hz) ri rv fun s' I' => ⟨_, I', ?_⟩
        refine k _ _ (Fr.put hm) (ow.put (mo' := .dt (dPutK ks kk) (dPutV ks ds kk vd)) hm ⟨dPutV ks vs kk vv, ?_, dPut_len h2, (dPutV_rep (r3.mono (Fr.put hm)) h2 (h3.mono (Fr.put hm)))⟩) q
        rw [upd_same, putK_zip h2]
    | _ => simp [keyT] at e2
def dStore (t o i : TED) : TSD := fun D ρ M => t ρ M (fun v M1 => o ρ M1 (fun x M2 => i ρ M2 (fun y M3 => gStore x y v M3 fun M4 => D.nx ρ M4) (dRz D ρ)) (dRz D ρ)) (dRz D ρ)
theorem s_store {oe ie e : Expr} {t to ti : TED} {pos tpos : Pos} (hu : X.A.units + 1 < cLine) (he : JE X W e t) (ho : JE X W oe to) (hi : JE X W ie ti)
    (ha : ∀ v, assign (.Subscript oe ie tpos) X.env v = (do
      let ov ← holding [v] (eval oe X.env)
      let iv ← holding [v, ov] (eval ie X.env)
      standAt tpos
      holding [v, ov, iv] (setItem ov iv v)
      release [v, ov, iv] []) := by intro _; rfl)
    (hs : swapsWithSole [.Subscript oe ie tpos] e pos.line X.env = pure false := by rfl) (hw : swappedStores [.Subscript oe ie tpos] e X.env = pure none := by rfl)
    (h1 : (assignEach [.Subscript oe ie tpos] X.env).map (·.2) = [assign (.Subscript oe ie tpos) X.env] := by rfl) : JS X W (.Assign [.Subscript oe ie tpos] e pos) (dStore t to ti) :=
  ps_imp (ps_asg he (pg_sub ho hi (set_store hu) ha) hs hw h1) fun D σ H ⟨N, ρ, M, D0, er, o, q, l⟩ => ⟨N, ρ, M, _, _, er, o, q, fun d v M1 H1 f1 o1 r1 q1 =>
    ⟨N, ρ, M1, _, _, er.mono f1, o1, q1, fun x vx M2 H2 f2 o2 r2 q2 =>
      ⟨N, ρ, M2, _, _, (er.mono f1).mono f2, o2, q2, fun y vy M3 H3 f3 o3 r3 q3 => ⟨N, M3, x, y, d, _, o3, r2.mono f3, r3, (r1.mono f2).mono f3, q3, fun M4 H4 f4 o4 q4 =>
        l.nx ρ σ M4 H4 (((f1.trans f2).trans f3).trans f4) o4 ((((er.mono f1).mono f2).mono f3).mono f4) q4⟩, (l.raise er).mono (f1.trans f2)⟩, (l.raise er).mono f1⟩, l.raise er⟩
end
end DL

set_option Elab.async false
set_option maxRecDepth 100000
set_option maxHeartbeats 4000000
/-! The data layer: loops, comprehensions. -/
namespace DL
open PySem PySem.Spec L2

/-- what is walked, over data: the items; chk: what must stand at each turn -/
abbrev TID := Rho → MS → ((MS → Prop) → List D → MS → Prop) → RK → Prop
/-- some further lists are hidden, none of which stood yet -/
def Hid (N N' : Addr → Prop) (H1 : Hp) : Prop := ∀ a, N' a → N a ∨ H1 a = none
mutual
theorem Rep.hide {F : PySem.W.Frag} {N N' : Addr → Prop} {H : Hp} {M : MS} (n : Hid N N' H) {d : D} {v : V} (h : Rep ⟨F, N⟩ H M d v) : Rep ⟨F, N'⟩ H M d v :=
  match h with
  | .non => .non
  | .bl b => .bl b
  | .int i => .int i
  | .str x => .str x
  | .ty n => .ty n
  | .ref a => .ref a
  | .tup t r => .tup t (Reps.hide n r)
  | .ktup t r => .ktup t (Reps.hide n r)
  | .lst t r => .lst ⟨t.1, t.2.1, fun z => (n _ z).elim t.2.2 fun z => by have e := t.1; rw [z] at e; cases e⟩ (Reps.hide n r)
  | .klst e r => .klst e (Reps.hide n r)
  | .dk e m l r => .dk e m l (Reps.hide n r)
  | .dt e m l r => .dt e m l (Reps.hide n r)
  | .ins e m l r => .ins e m l (Reps.hide n r)
  | .exc e m r => .exc e m (Rep.hide n r)
theorem Reps.hide {F : PySem.W.Frag} {N N' : Addr → Prop} {H : Hp} {M : MS} (n : Hid N N' H) {ds : List D} {vs : List V} (h : Reps ⟨F, N⟩ H M ds vs) : Reps ⟨F, N'⟩ H M ds vs :=
  match h with
  | .nil => .nil
  | .cons r t => .cons (Rep.hide n r) (Reps.hide n t)
end
mutual
theorem Rep.show {F : PySem.W.Frag} {N N' : Addr → Prop} {H : Hp} {M : MS} (n : ∀ a, N a → N' a) {d : D} {v : V} (h : Rep ⟨F, N'⟩ H M d v) : Rep ⟨F, N⟩ H M d v :=
  match h with
  | .non => .non
  | .bl b => .bl b
  | .int i => .int i
  | .str x => .str x
  | .ty n => .ty n
  | .ref a => .ref a
  | .tup t r => .tup t (Reps.show n r)
  | .ktup t r => .ktup t (Reps.show n r)
  | .lst t r => .lst ⟨t.1, t.2.1, fun z => t.2.2 (n _ z)⟩ (Reps.show n r)
  | .klst e r => .klst e (Reps.show n r)
  | .dk e m l r => .dk e m l (Reps.show n r)
  | .dt e m l r => .dt e m l (Reps.show n r)
  | .ins e m l r => .ins e m l (Reps.show n r)
  | .exc e m r => .exc e m (Rep.show n r)
theorem Reps.show {F : PySem.W.Frag} {N N' : Addr → Prop} {H : Hp} {M : MS} (n : ∀ a, N a → N' a) {ds : List D} {vs : List V} (h : Reps ⟨F, N'⟩ H M ds vs) : Reps ⟨F, N⟩ H M ds vs :=
  match h with
  | .nil => .nil
  | .cons r t => .cons (Rep.show n r) (Reps.show n t)
end
theorem OwnAt.show {F : PySem.W.Frag} {N N' : Addr → Prop} {H : Hp} {M : MS} (n : ∀ a, N a → N' a) {a : Addr} {o : MO} (h : OwnAt ⟨F, N'⟩ H M a o) : OwnAt ⟨F, N⟩ H M a o := by
  cases o with
  | lst ds => obtain ⟨vs, e, r⟩ := h; exact ⟨vs, e, r.show n⟩
  | dk ks ds => obtain ⟨vs, e, l, r⟩ := h; exact ⟨vs, e, l, r.show n⟩
  | dt ks ds => obtain ⟨vs, e, l, r⟩ := h; exact ⟨vs, e, l, r.show n⟩
  | ins C fs ds => obtain ⟨dx, vs, e, l, r⟩ := h; exact ⟨dx, vs, e, l, r.show n⟩
theorem OwnAt.hide {F : PySem.W.Frag} {N N' : Addr → Prop} {H : Hp} {M : MS} (n : Hid N N' H) {a : Addr} {o : MO} (h : OwnAt ⟨F, N⟩ H M a o) : OwnAt ⟨F, N'⟩ H M a o := by
  cases o with
  | lst ds => obtain ⟨vs, e, r⟩ := h; exact ⟨vs, e, r.hide n⟩
  | dk ks ds => obtain ⟨vs, e, l, r⟩ := h; exact ⟨vs, e, l, r.hide n⟩
  | dt ks ds => obtain ⟨vs, e, l, r⟩ := h; exact ⟨vs, e, l, r.hide n⟩
  | ins C fs ds => obtain ⟨dx, vs, e, l, r⟩ := h; exact ⟨dx, vs, e, l, r.hide n⟩
theorem Own.show {F : PySem.W.Frag} {N N' : Addr → Prop} {H : Hp} {M : MS} (n : ∀ a, N a → N' a) (h : Own ⟨F, N'⟩ H M) : Own ⟨F, N⟩ H M := ⟨fun a o e => (h.at_ a o e).show n, fun a z => h.hid a (n a z)⟩
theorem EnvR.hide {F : PySem.W.Frag} {N N' : Addr → Prop} {H : Hp} {M : MS} (n : Hid N N' H) : ∀ {ρ : Rho} {σ : L2.St}, EnvR ⟨F, N⟩ H M ρ σ → EnvR ⟨F, N'⟩ H M ρ σ
  | _, _, .nil => .nil
  | _, _, .cons h t => .cons (fun d e => by obtain ⟨v, h1, h2⟩ := h d e; exact ⟨v, h1, h2.hide n⟩) (EnvR.hide n t)
/-- what is walked, at any state behind (H1, M1) -/
structure WalkOK (F : PySem.W.Frag) (N : Addr → Prop) (H1 : Hp) (M1 : MS) (J : It) (chk : MS → Prop) (ds : List D) : Prop where
  goes : ∀ N', Hid N N' H1 → ∀ i H M, i < ds.length → Fr H1 M1 H M → Own ⟨F, N'⟩ H M → chk M → J.go i H
  stops : ∀ N', Hid N N' H1 → ∀ H M, Fr H1 M1 H M → Own ⟨F, N'⟩ H M → chk M → J.stop ds.length H
  yields : ∀ N', Hid N N' H1 → ∀ i H M x H', i < ds.length → Fr H1 M1 H M → Own ⟨F, N'⟩ H M → chk M → J.yld i H x H' → ∃ d, ds[i]? = some d ∧ Fr H M H' M ∧ Own ⟨F, N'⟩ H' M ∧ Rep ⟨F, N'⟩ H' M d x
section
variable (F : PySem.W.Frag) (W : WX)
def lI (I : TID) : TI := fun σ H R => ∃ N ρ M Qd Rk, EnvR ⟨F, N⟩ H M ρ σ ∧ Own ⟨F, N⟩ H M ∧ I ρ M Qd Rk ∧ (∀ chk ds J M' H', Fr H M H' M' → Own ⟨F, N⟩ H' M' → WalkOK F N H' M' J chk ds → Qd chk ds M' → R J H') ∧ LR ⟨F, N⟩ W H M σ Rk
end
section
variable {X : Cx} {W : WX}
abbrev JI (X : Cx) (W : WX) (tg iter : Expr) (I : TID) : Prop := PI X tg iter (lI X.K W I)
theorem pi_imp {tg iter : Expr} {t t' : TI} (h : PI X tg iter t) (i : ∀ σ H R, t' σ H R → t σ H R) : PI X tg iter t' := ⟨fun pins s σ H R I q => h.run pins s σ H R I (i σ H R q)⟩
/-- a list or a tuple -/
theorem pi_sq {tg l : Expr} {tl : TE} (hl : PE X l tl) : PI X tg l (fun σ H R => tl σ H fun x H1 => ∃ a, x = .ref a ∧ ((∃ xs, SqL X.K H1 a xs) ∧ R (Itl X.K a) H1 ∨ (∃ xs, SqT X.K H1 a xs) ∧ R (Itt X.K a) H1)) := by
  refine ⟨fun pins s σ H R I h => ?_⟩
  refine thn (hl.run pins s σ H _ I h) fun v s1 ⟨x, H1, I1, r1, q1⟩ => ?_
  obtain ⟨a, e, q⟩ := q1
  subst e
  cases r1
  have fin : FpOk X pins H1 s1.heap.objs.size := I1.fpOk (Nat.le_refl _) (I1.hok.fresh (Nat.le_refl _))
  have fin' : ∀ b ∈ [s1.heap.objs.size], FpOk X pins H1 b := fun b hb => by
    have e : b = s1.heap.objs.size := by simpa using hb
    subst e
    exact fin
  rcases q with ⟨⟨xs, hq⟩, q⟩ | ⟨⟨xs, hq⟩, q⟩
  · obtain ⟨its, rv, p, hz⟩ := I1.list hq
    refine wpAny_pyIter_list p.isList ?_
    exact ⟨s1.heap.objs.size, [s1.heap.objs.size], _, _, H1, rfl, I1.kept (t' := s1.toks) fun b o e => Heap.get?_push_of_some _ e, turn_list a _, ⟨_, Heap.get?_push_size _ rfl, rfl, rfl⟩, fin', q⟩
  · obtain ⟨its, rv, p, hz⟩ := I1.tuple hq
    refine wpAny_pyIter_tuple (show s1.heap.IsTuple a its.toArray from p) ?_
    exact ⟨s1.heap.objs.size, [s1.heap.objs.size], _, _, H1, rfl, I1.kept (t' := s1.toks) fun b o e => Heap.get?_push_of_some _ e, turn_tuple a _, ⟨_, Heap.get?_push_size _ rfl, rfl, rfl⟩, fin', q⟩
/-- what a list or tuple holds is read off the data at each turn -/
theorem asQ_at {K : KN} {H1 H : Hp} {M1 M : MS} {d : D} {a : Addr} {ds : List D} (f : Fr H1 M1 H M) (o : Own K H M) (r : Rep K H1 M1 d (.ref a)) (e : asQ M d = some ds) : ∃ vs, (SqL K.K H a vs ∨ SqT K.K H a vs) ∧ Reps K H M ds vs := by
  obtain ⟨b, vs, e1, h, rs⟩ := (r.mono f).asQ o e
  cases e1
  exact ⟨vs, h, rs⟩
def isTupD : D → Bool
  | .tup _ => true
  | .ktup _ => true
  | _ => false
theorem asQ_list {K : KN} {H1 H : Hp} {M1 M : MS} {d : D} {a : Addr} {ds : List D} (hd : isTupD d = false) (f : Fr H1 M1 H M) (o : Own K H M) (r : Rep K H1 M1 d (.ref a)) (e : asQ M d = some ds) : ∃ vs, SqL K.K H a vs ∧ Reps K H M ds vs := by
  by_cases hk : ∃ es, d = .klst es
  · obtain ⟨es, rfl⟩ := hk
    have r' := r.mono f
    cases r' with
    | klst e' rs => simp [asQ] at e; subst e; exact ⟨_, e'.sq, rs⟩
  · have e' : asL M d = some ds := by
      cases d <;> first | (simp [isTupD] at hd; done) | (exact absurd ⟨_, rfl⟩ hk) | simpa [asQ] using e
    obtain ⟨b, vs, e1, h, rs⟩ := (r.mono f).asL o e'
    cases e1
    exact ⟨vs, .inl (.inl h), rs⟩
theorem asQ_tup {K : KN} {H1 H : Hp} {M1 M : MS} {d : D} {a : Addr} {ds : List D} (hd : isTupD d = true) (f : Fr H1 M1 H M) (r : Rep K H1 M1 d (.ref a)) (e : asQ M d = some ds) : ∃ vs, SqT K.K H a vs ∧ Reps K H M ds vs := by
  have r' := r.mono f
  cases r' with
  | tup t rs => simp [asQ] at e; subst e; exact ⟨_, t.sq, rs⟩
  | ktup t rs => simp [asQ] at e; subst e; exact ⟨_, t.sq, rs⟩
  | _ => simp [isTupD] at hd
def iSeq (t : TED) : TID := fun ρ M Q R => t ρ M (fun d M1 => ∃ ds, asQ M1 d = some ds ∧ Q (fun M => asQ M d = some ds) ds M1) R
theorem i_seq {tg l : Expr} {t : TED} (hl : JE X W l t) : JI X W tg l (iSeq t) :=
  pi_imp (pi_sq hl) fun σ H R ⟨N, ρ, M, Qd, Rk, er, o, q, k, x⟩ => ⟨N, ρ, M, _, Rk, er, o, q, fun d v M1 H1 f1 o1 r1 ⟨ds, e, q1⟩ => by
    obtain ⟨a, vs, e1, h1, rs⟩ := r1.asQ o1 e
    subst e1
    refine ⟨a, rfl, ?_⟩
    cases hd : isTupD d with
    | false =>
      obtain ⟨vs', hs, _⟩ := asQ_list hd (Fr.refl _ _) o1 r1 e
      refine .inl ⟨⟨vs', hs⟩, k _ ds _ M1 H1 f1 o1 ⟨fun N' hN i H' M' hi f o' c => ?_, fun N' hN H' M' f o' c => ?_, fun N' hN i H' M' y H2 hi f o' c yl => ?_⟩ q1⟩
      · obtain ⟨ws, hw, rw'⟩ := asQ_list hd f o' (r1.hide hN) c
        exact ⟨ws, ws[i]'(by rw [← rw'.length]; exact hi), hw, by simp⟩
      · obtain ⟨ws, hw, rw'⟩ := asQ_list hd f o' (r1.hide hN) c
        exact ⟨ws, hw, by rw [rw'.length]; exact Nat.le_refl _⟩
      · obtain ⟨ws, hw, rw'⟩ := asQ_list hd f o' (r1.hide hN) c
        obtain ⟨e2, y2⟩ := yl
        subst e2
        obtain ⟨d', hd', rd⟩ := rw'.getV (y2 ws hw)
        exact ⟨d', hd', Fr.refl _ _, o', rd⟩
    | true =>
      obtain ⟨vs', hs, _⟩ := asQ_tup hd (Fr.refl _ _) r1 e
      refine .inr ⟨⟨vs', hs⟩, k _ ds _ M1 H1 f1 o1 ⟨fun N' hN i H' M' hi f o' c => ?_, fun N' hN H' M' f o' c => ?_, fun N' hN i H' M' y H2 hi f o' c yl => ?_⟩ q1⟩
      · obtain ⟨ws, hw, rw'⟩ := asQ_tup hd f (r1.hide hN) c
        exact ⟨ws, ws[i]'(by rw [← rw'.length]; exact hi), hw, by simp⟩
      · obtain ⟨ws, hw, rw'⟩ := asQ_tup hd f (r1.hide hN) c
        exact ⟨ws, hw, by rw [rw'.length]; exact Nat.le_refl _⟩
      · obtain ⟨ws, hw, rw'⟩ := asQ_tup hd f (r1.hide hN) c
        obtain ⟨e2, y2⟩ := yl
        subst e2
        obtain ⟨d', hd', rd⟩ := rw'.getV (y2 ws hw)
        exact ⟨d', hd', Fr.refl _ _, o', rd⟩, x⟩
/-- range(n), range(lo, hi) -/
def rangeD (lo : Int) (n : Nat) : List D := (List.range n).map fun i => .int (lo + (i : Nat))
theorem rangeD_ok {F : PySem.W.Frag} {N : Addr → Prop} {H1 : Hp} {M1 : MS} (lo : Int) (n : Nat) : WalkOK F N H1 M1 (Itr lo n) (fun _ => True) (rangeD lo n) := by
  have hl : (rangeD lo n).length = n := by simp [rangeD]
  refine ⟨fun _ _ i H M hi _ _ _ => by rw [hl] at hi; exact hi, fun _ _ H M _ _ _ => by rw [hl]; exact Nat.le_refl _, fun _ _ i H M x H' hi f o _ y => ?_⟩
  obtain ⟨e, y⟩ := y
  subst e y
  rw [hl] at hi
  exact ⟨.int (lo + i), by simp [rangeD, hi], Fr.refl _ _, o, .int _⟩
def iRange1 (t : TAD) : TID := fun ρ M Q R => t ρ M (fun ds M1 => ∃ j, ds = [.int j] ∧ -(2 ^ 62) ≤ j ∧ j < 2 ^ 62 ∧ Q (fun _ => True) (rangeD 0 j.toNat) M1) R
def iRange2 (t : TAD) : TID := fun ρ M Q R => t ρ M (fun ds M1 => ∃ i j, ds = [.int i, .int j] ∧ (-(2 ^ 62) ≤ i ∧ i < 2 ^ 62 ∧ -(2 ^ 62) ≤ j ∧ j < 2 ^ 62) ∧ Q (fun _ => True) (rangeD i (j - i).toNat) M1) R
theorem i_range1 {tg a : Expr} {t : TAD} {p pos : Pos} (hg : Gl X "range") (hm : X.mg "range" = none) (ha : JA X W [a] t) (hs : starEach [a] X.env = [(false, eval a X.env)] := by rfl) : JI X W tg (.Call (.Name "range" p) [a] [] pos) (iRange1 t) :=
  pi_imp (pi_range1 hg hm ha hs) fun σ H R ⟨N, ρ, M, Qd, Rk, er, o, q, k, x⟩ => ⟨N, ρ, M, _, Rk, er, o, q, fun ds vs M1 H1 f1 o1 r1 ⟨j, e, h1, h2, q1⟩ => by
    subst e
    cases r1 with | cons r1 r2 =>
    cases r2; cases r1
    exact ⟨j, rfl, h1, h2, k _ _ _ M1 H1 f1 o1 (rangeD_ok 0 j.toNat) q1⟩, x⟩
theorem i_range2 {tg a b : Expr} {t : TAD} {p pos : Pos} (hg : Gl X "range") (hm : X.mg "range" = none) (ha : JA X W [a, b] t) (hs : starEach [a, b] X.env = [(false, eval a X.env), (false, eval b X.env)] := by rfl) (hs2 : starEach [b] X.env = [(false, eval b X.env)] := by rfl) :
    JI X W tg (.Call (.Name "range" p) [a, b] [] pos) (iRange2 t) :=
  pi_imp (pi_range2 hg hm ha hs hs2) fun σ H R ⟨N, ρ, M, Qd, Rk, er, o, q, k, x⟩ => ⟨N, ρ, M, _, Rk, er, o, q, fun ds vs M1 H1 f1 o1 r1 ⟨i, j, e, h1, q1⟩ => by
    subst e
    cases r1 with | cons r1 r2 =>
    cases r2 with | cons r2 r3 =>
    cases r3; cases r1; cases r2
    exact ⟨i, j, rfl, h1, k _ _ _ M1 H1 f1 o1 (rangeD_ok i (j - i).toNat) q1⟩, x⟩
/-- zip of two lists, of two tuples -/
def zipD : List D → List D → List D
  | d :: ds, e :: es => .tup [d, e] :: zipD ds es
  | _, _ => []
theorem zipD_len : ∀ ds es : List D, (zipD ds es).length = min ds.length es.length
  | [], _ => by simp [zipD]
  | _ :: _, [] => by simp [zipD]
  | d :: ds, e :: es => by simp [zipD, zipD_len ds es]
theorem zipD_get : ∀ (ds es : List D) (i : Nat) (d e : D), ds[i]? = some d → es[i]? = some e → (zipD ds es)[i]? = some (.tup [d, e])
  | [], _, _, _, _, h, _ => by simp at h
  | _ :: _, [], _, _, _, _, h => by simp at h
  | d :: ds, e :: es, 0, _, _, h1, h2 => by simp at h1 h2; subst h1 h2; rfl
  | d :: ds, e :: es, i + 1, d', e', h1, h2 => by simpa [zipD] using zipD_get ds es i d' e' (by simpa using h1) (by simpa using h2)
def iZip (t : TAD) : TID := fun ρ M Q R => t ρ M (fun l M1 => ∃ d e ds es, l = [d, e] ∧ isTupD d = isTupD e ∧ asQ M1 d = some ds ∧ asQ M1 e = some es ∧ Q (fun M => asQ M d = some ds ∧ asQ M e = some es) (zipD ds es) M1) R
theorem pair_new {K : KN} {H : Hp} {M : MS} {d e : D} {x y : V} {T : Addr} (o : Own K H M) (hT : H T = none) (r : Rep K H M d x) (q : Rep K H M e y) :
    Fr H M (upd H T (.tup [x, y])) M ∧ Own K (upd H T (.tup [x, y])) M ∧ Rep K (upd H T (.tup [x, y])) M (.tup [d, e]) (.ref T) :=
  ⟨Fr.new hT, o.new hT, Rep.tupNew o hT (.cons r (.cons q .nil))⟩
theorem i_zip {a b : Expr} {t : TAD} {p pos tpos : Pos} {elts : List Expr} {kk : Nat} (hg : Gl X "zip") (hm : X.mg "zip" = none) (ha : JA X W [a, b] t)
    (hs : starEach [a, b] X.env = (false, eval a X.env) :: starEach [b] X.env := by rfl) (hpl : (backTo pos (starEach [b] X.env)).any (·.1) = false := by rfl) :
    JI X W (.Tuple elts kk tpos) (.Call (.Name "zip" p) [a, b] [] pos) (iZip t) :=
  pi_imp (RZ.pi_zipA hg hm ha hs hpl) fun σ H R ⟨N, ρ, M, Qd, Rk, er, o, q, k, x⟩ => ⟨N, ρ, M, _, Rk, er, o, q, fun l vs M1 H1 f1 o1 r1 ⟨d, e, ds, es, el, hde, h1, h2, q1⟩ => by
    subst el
    cases r1 with | cons r1 r2 =>
    cases r2 with | cons r2 r3 =>
    cases r3
    obtain ⟨la, va, e1, _, _⟩ := r1.asQ o1 h1
    obtain ⟨lb, vb, e2, _, _⟩ := r2.asQ o1 h2
    subst e1 e2
    cases hd : isTupD d with
    | false =>
      have he : isTupD e = false := by rw [← hde]; exact hd
      obtain ⟨wa, ha1, ra1⟩ := asQ_list hd (Fr.refl _ _) o1 r1 h1
      obtain ⟨wb, hb1, rb1⟩ := asQ_list he (Fr.refl _ _) o1 r2 h2
      refine ⟨la, lb, wa, wb, rfl, .inl ⟨ha1, hb1, k _ _ _ M1 H1 f1 o1 ⟨fun N' hN i H' M' hi f o' c => ?_, fun N' hN H' M' f o' c => ?_, fun N' hN i H' M' y H2 hi f o' c yl => ?_⟩ q1⟩⟩
      · rw [zipD_len] at hi
        obtain ⟨xa, hxa, rxa⟩ := asQ_list hd f o' (r1.hide hN) c.1
        obtain ⟨xb, hxb, rxb⟩ := asQ_list he f o' (r2.hide hN) c.2
        exact ⟨xa, xb, xa[i]'(by rw [← rxa.length]; omega), xb[i]'(by rw [← rxb.length]; omega), hxa, hxb, by simp, by simp⟩
      · obtain ⟨xa, hxa, rxa⟩ := asQ_list hd f o' (r1.hide hN) c.1
        obtain ⟨xb, hxb, rxb⟩ := asQ_list he f o' (r2.hide hN) c.2
        refine ⟨xa, xb, hxa, hxb, ?_⟩
        rw [zipD_len, ← rxa.length, ← rxb.length]; omega
      · obtain ⟨xa, hxa, rxa⟩ := asQ_list hd f o' (r1.hide hN) c.1
        obtain ⟨xb, hxb, rxb⟩ := asQ_list he f o' (r2.hide hN) c.2
        obtain ⟨T, u, w, e1, hT, e2, g1, g2⟩ := yl
        subst e1 e2
        obtain ⟨d', hd', rd⟩ := rxa.getV (g1 _ hxa)
        obtain ⟨e', he', re⟩ := rxb.getV (g2 _ hxb)
        obtain ⟨z1, z2, z3⟩ := pair_new o' hT rd re
        exact ⟨_, zipD_get _ _ _ _ _ hd' he', z1, z2, z3⟩
    | true =>
      have he : isTupD e = true := by rw [← hde]; exact hd
      obtain ⟨wa, ha1, ra1⟩ := asQ_tup hd (Fr.refl _ _) r1 h1
      obtain ⟨wb, hb1, rb1⟩ := asQ_tup he (Fr.refl _ _) r2 h2
      refine ⟨la, lb, wa, wb, rfl, .inr ⟨ha1, hb1, k _ _ _ M1 H1 f1 o1 ⟨fun N' hN i H' M' hi f o' c => ?_, fun N' hN H' M' f o' c => ?_, fun N' hN i H' M' y H2 hi f o' c yl => ?_⟩ q1⟩⟩
      · rw [zipD_len] at hi
        obtain ⟨xa, hxa, rxa⟩ := asQ_tup hd f (r1.hide hN) c.1
        obtain ⟨xb, hxb, rxb⟩ := asQ_tup he f (r2.hide hN) c.2
        exact ⟨xa, xb, xa[i]'(by rw [← rxa.length]; omega), xb[i]'(by rw [← rxb.length]; omega), hxa, hxb, by simp, by simp⟩
      · obtain ⟨xa, hxa, rxa⟩ := asQ_tup hd f (r1.hide hN) c.1
        obtain ⟨xb, hxb, rxb⟩ := asQ_tup he f (r2.hide hN) c.2
        refine ⟨xa, xb, hxa, hxb, ?_⟩
        rw [zipD_len, ← rxa.length, ← rxb.length]; omega
      · obtain ⟨xa, hxa, rxa⟩ := asQ_tup hd f (r1.hide hN) c.1
        obtain ⟨xb, hxb, rxb⟩ := asQ_tup he f (r2.hide hN) c.2
        obtain ⟨T, u, w, e1, hT, e2, g1, g2⟩ := yl
        subst e1 e2
        obtain ⟨d', hd', rd⟩ := rxa.getV (g1 _ hxa)
        obtain ⟨e', he', re⟩ := rxb.getV (g2 _ hxb)
        obtain ⟨z1, z2, z3⟩ := pair_new o' hT rd re
        exact ⟨_, zipD_get _ _ _ _ _ hd' he', z1, z2, z3⟩, x⟩

/-! ### for -/
def dForGo (chk : MS → Prop) (g : Tgt) (tb : TSD) (D0 : EndsD) : List D → Rho → MS → Prop
  | [], ρ, M => chk M ∧ D0.nx ρ M
  | d :: ds, ρ, M => chk M ∧ ∃ ρ', asg g d ρ = some ρ' ∧ tb { D0 with nx := dForGo chk g tb D0 ds, ct := dForGo chk g tb D0 ds, bk := D0.nx } ρ' M
def dFor (I : TID) (g : Tgt) (tb : TSD) : TSD := fun D ρ M => I ρ M (fun chk ds M1 => dForGo chk g tb D ds ρ M1) (dRz D ρ)
theorem for_read {K : PySem.W.Frag} {wi : TI} {I : TID} {g : Tgt} {gv : TG} {t : TS} {tb : TSD} (hi : ∀ σ H R, lI K W I σ H R → wi σ H R) (hg : GOk K g gv) (hb : ∀ D σ H, lS K W tb D σ H → t D σ H) : ∀ D σ H, lS K W (dFor I g tb) D σ H → tFor wi gv t D σ H :=
  fun D σ H ⟨N, ρ, M, D0, er, o, q, l⟩ => hi σ H _ ⟨N, ρ, M, _, _, er, o, q, fun chk ds J M1 H1 f1 o1 w q1 => by
    refine ⟨fun i m σ H => m = ds.length - i ∧ i ≤ ds.length ∧ ∃ ρ M, EnvR ⟨K, N⟩ H M ρ σ ∧ Own ⟨K, N⟩ H M ∧ Fr H1 M1 H M ∧ dForGo chk g tb D0 (ds.drop i) ρ M, ⟨ds.length, by simp, Nat.zero_le _, ρ, M1, er.mono f1, o1, Fr.refl _ _, by simpa using q1⟩, ?_⟩
    rintro i m σ2 H2 ⟨rfl, hi2, ρ2, M2, e2, o2, f2, go⟩
    by_cases hlt : i < ds.length
    · rw [List.drop_eq_getElem_cons hlt] at go
      obtain ⟨c, ρ3, ea, q3⟩ := go
      refine .inr ⟨w.goes N (fun a z => .inl z) i H2 M2 hlt f2 o2 c, fun σ H => ∃ ρ M, EnvR ⟨K, N⟩ H M ρ σ ∧ Own ⟨K, N⟩ H M ∧ Fr H1 M1 H M ∧ dForGo chk g tb D0 (ds.drop (i + 1)) ρ M, fun σ' H' h => ⟨ds.length - (i + 1), by omega, rfl, hlt, h⟩, fun x H' y => ?_⟩
      obtain ⟨d, hd, f3, o3, r3⟩ := w.yields N (fun a z => .inl z) i H2 M2 x H' hlt f2 o2 c y
      have ed : ds[i] = d := by rw [List.getElem?_eq_getElem hlt] at hd; exact Option.some.inj hd
      rw [ed] at ea
      refine hg.go N H' M2 d x ρ2 ρ3 σ2 _ o3 r3 (e2.mono f3) ea fun σ3 e3 _ => hb _ _ _ ⟨N, ρ3, M2, _, e3, o3, q3, ?_⟩
      have ff := f2.trans f3
      have l2 := l.mono (f1.trans ff)
      exact ⟨fun ρ' σ' M' H4 f o' e' q' => ⟨ρ', M', e', o', ff.trans f, q'⟩, l2.rt, l2.nx, fun ρ' σ' M' H4 f o' e' q' => ⟨ρ', M', e', o', ff.trans f, q'⟩, l2.rz⟩
    · have e : i = ds.length := by omega
      subst e
      rw [List.drop_length] at go
      exact .inl ⟨w.stops N (fun a z => .inl z) H2 M2 f2 o2 go.1, l.nx ρ2 σ2 M2 H2 (f1.trans f2) o2 e2 go.2⟩, l.raise er⟩
theorem s_for {tg iter : Expr} {body : List Stmt} {I : TID} {g : Tgt} {gv : TG} {tb : TSD} {pos : Pos} (hp : PassesOwn (model X.prog X.w) X.A X.env X.xe) (hc : X.calm = true) (hi : JI X W tg iter I) (hpg : PG X tg gv) (hg : GOk X.K g gv) (hb : JB X W body tb)
    (hs : ∀ x, foldedSetIterable iter X.env x = pure x := by intro _; rfl) : JS X W (.For tg iter body [] pos) (dFor I g tb) :=
  ps_imp (ps_for hp hc hi hpg hb hs) (for_read (fun _ _ _ h => h) hg fun _ _ _ h => h)

/-! ### while: by a measure -/
def dWhGo (c : TTD) (tb : TSD) (D : EndsD) : Nat → Rho → MS → Prop
  | 0, _, _ => False
  | n + 1, ρ, M => c ρ M (fun b M1 => if b = true then tb { D with nx := dWhGo c tb D n, ct := dWhGo c tb D n, bk := D.nx } ρ M1 else D.nx ρ M1) (dRz D ρ)
def dWhile (c : TTD) (tb : TSD) : TSD := fun D ρ M => ∃ n, dWhGo c tb D n ρ M
theorem while_read {K : PySem.W.Frag} {tc : TT} {c : TTD} {t : TS} {tb : TSD} (hc : ∀ σ H Q, lT K W c σ H Q → tc σ H Q) (hb : ∀ D σ H, lS K W tb D σ H → t D σ H) : ∀ D σ H, lS K W (dWhile c tb) D σ H → tWhile tc t D σ H :=
  fun D σ H ⟨N, ρ, M, D0, er, o, ⟨n, q⟩, l⟩ => by
    refine ⟨fun m σ' H' => ∃ ρ' M', EnvR ⟨K, N⟩ H' M' ρ' σ' ∧ Own ⟨K, N⟩ H' M' ∧ Fr H M H' M' ∧ dWhGo c tb D0 m ρ' M', ⟨n, ρ, M, er, o, Fr.refl _ _, q⟩, ?_⟩
    rintro m σ1 H1 ⟨ρ1, M1, e1, o1, f1, q1⟩
    cases m with
    | zero => exact q1.elim
    | succ m =>
      have l1 := l.mono f1
      refine hc σ1 H1 _ ⟨N, ρ1, M1, _, _, e1, o1, q1, fun b M2 H2 f2 o2 q2 => ?_, l1.raise e1⟩
      cases b with
      | false => exact l1.nx ρ1 σ1 M2 H2 f2 o2 (e1.mono f2) q2
      | true =>
        have l2 := l1.mono f2
        refine ⟨fun σ' H' => ∃ ρ' M', EnvR ⟨K, N⟩ H' M' ρ' σ' ∧ Own ⟨K, N⟩ H' M' ∧ Fr H M H' M' ∧ dWhGo c tb D0 m ρ' M', fun σ' H' h => ⟨m, Nat.lt_succ_self m, h⟩, hb _ _ _ ⟨N, ρ1, M2, _, e1.mono f2, o2, q2, ?_⟩⟩
        exact ⟨fun ρ' σ' M' H4 f o' e' q' => ⟨ρ', M', e', o', (f1.trans f2).trans f, q'⟩, l2.rt, l2.nx, fun ρ' σ' M' H4 f o' e' q' => ⟨ρ', M', e', o', (f1.trans f2).trans f, q'⟩, l2.rz⟩
theorem s_while {c : Expr} {body : List Stmt} {tc : TTD} {tb : TSD} {pos : Pos} (hp : PassesOwn (model X.prog X.w) X.A X.env X.xe) (hc : JT X W c tc) (hb : JB X W body tb) : JS X W (.While c body [] pos) (dWhile tc tb) :=
  ps_imp (ps_while hp hc hb) (while_read (fun _ _ _ h => h) fun _ _ _ h => h)
end
end DL

set_option Elab.async false
set_option maxRecDepth 100000
set_option maxHeartbeats 4000000
/-! The data layer: list comprehensions. -/
namespace DL
open PySem PySem.Spec L2
abbrev W0 : WX := fun _ _ _ _ => False
def wipeD (ρ : Rho) : List Nat → Rho
  | [] => ρ
  | v :: vs => (wipeD ρ vs).set v none
theorem EnvR.wipe {K : KN} {H : Hp} {M : MS} {ρ : Rho} {σ : L2.St} (e : EnvR K H M ρ σ) : ∀ vs : List Nat, EnvR K H M (wipeD ρ vs) (L2.wipe σ vs)
  | [] => e
  | v :: vs => (EnvR.wipe e vs).clear v
/-- the list that comes: never changed, or one that may be -/
abbrev Fin := List D → MS → QD → Prop
def finF : Fin := fun acc M Q => Q (.lst acc) M
def finM : Fin := fun acc M Q => ∀ p, M p = none → Q (.ref p) (M.set p (.lst acc))
def dCompGo (chk : MS → Prop) (ρw : Rho) (g : Tgt) (tt : TTD) (te : TED) (fin : List D → MS → Prop) : List D → List D → MS → Prop
  | [], acc, M => chk M ∧ fin acc M
  | d :: ds, acc, M => chk M ∧ ∃ ρ', asg g d ρw = some ρ' ∧ tt ρ' M (fun b M1 => if b = true then te ρ' M1 (fun y M2 => acc.length < sizeLine ∧ dCompGo chk ρw g tt te fin ds (acc ++ [y]) M2) NoR else dCompGo chk ρw g tt te fin ds acc M1) NoR
def dComp (fin : Fin) (I : TID) (vs : List Nat) (g : Tgt) (tt : TTD) (te : TED) : TED := fun ρ M Q R => I ρ M (fun chk ds M1 => dCompGo chk (wipeD ρ vs) g tt te (fun acc M => fin acc M Q) ds [] M1) R
def dYes : TTD := fun _ M Q _ => Q true M
/-- the hidden list becomes one that may be changed -/
theorem MS.set_none {M : MS} {a b : Addr} {o : MO} (h : M b = none) (ne : b ≠ a) : M.set a o b = none := by rw [MS.set_ne ne]; exact h
mutual
theorem Rep.own {F : PySem.W.Frag} {N N' : Addr → Prop} {H : Hp} {M : MS} {a : Addr} {o : MO} {ws : List V} (hN : ∀ b, N b → N' b) (ha : N' a) (hH : H a = some (.lst ws)) {d : D} {v : V} (h : Rep ⟨F, N'⟩ H M d v) : Rep ⟨F, N⟩ H (M.set a o) d v :=
  match h with
  | .non => .non
  | .bl b => .bl b
  | .int i => .int i
  | .str x => .str x
  | .ty n => .ty n
  | .ref a => .ref a
  | .tup t r => .tup ⟨t.1, MS.set_none t.2 (ne_of t.1 hH fun z => nomatch z)⟩ (Reps.own hN ha hH r)
  | .ktup t r => .ktup t (Reps.own hN ha hH r)
  | .lst t r => .lst ⟨t.1, MS.set_none t.2.1 fun z => t.2.2 (by rw [z]; exact ha), fun z => t.2.2 (hN _ z)⟩ (Reps.own hN ha hH r)
  | .klst e r => .klst (e.imp (fun ⟨u, e, m⟩ => ⟨u, e, MS.set_none m (ne_of e hH fun z => nomatch z)⟩) id) (Reps.own hN ha hH r)
  | .dk e m l r => .dk e (MS.set_none m (ne_of e hH fun z => nomatch z)) l (Reps.own hN ha hH r)
  | .dt e m l r => .dt e (MS.set_none m (ne_of e hH fun z => nomatch z)) l (Reps.own hN ha hH r)
  | .ins e m l r => .ins e (MS.set_none m (ne_of e hH fun z => nomatch z)) l (Reps.own hN ha hH r)
  | .exc e m r => .exc e (MS.set_none m (ne_of e hH fun z => nomatch z)) (Rep.own hN ha hH r)
theorem Reps.own {F : PySem.W.Frag} {N N' : Addr → Prop} {H : Hp} {M : MS} {a : Addr} {o : MO} {ws : List V} (hN : ∀ b, N b → N' b) (ha : N' a) (hH : H a = some (.lst ws)) {ds : List D} {vs : List V} (h : Reps ⟨F, N'⟩ H M ds vs) : Reps ⟨F, N⟩ H (M.set a o) ds vs :=
  match h with
  | .nil => .nil
  | .cons r t => .cons (Rep.own hN ha hH r) (Reps.own hN ha hH t)
end
theorem Own.made {F : PySem.W.Frag} {N N' : Addr → Prop} {H : Hp} {M : MS} {a : Addr} {ws : List V} {acc : List D} (hN : ∀ b, N b → N' b) (na : ¬ N a) (ha : N' a) (hH : H a = some (.lst ws)) (o : Own ⟨F, N'⟩ H M) (r : Reps ⟨F, N'⟩ H M acc ws) : Own ⟨F, N⟩ H (M.set a (.lst acc)) := ⟨fun b mo e => by
  by_cases hb : b = a
  · subst hb
    rw [MS.set_same] at e; cases e
    exact ⟨ws, hH, r.own hN ha hH⟩
  · rw [MS.set_ne hb] at e
    have q := o.at_ b mo e
    cases mo with
    | lst ds => obtain ⟨vs, e, r⟩ := q; exact ⟨vs, e, r.own hN ha hH⟩
    | dk ks ds => obtain ⟨vs, e, l, r⟩ := q; exact ⟨vs, e, l, r.own hN ha hH⟩
    | dt ks ds => obtain ⟨vs, e, l, r⟩ := q; exact ⟨vs, e, l, r.own hN ha hH⟩
    | ins C fs ds => obtain ⟨dx, vs, e, l, r⟩ := q; exact ⟨dx, vs, e, l, r.own hN ha hH⟩, fun b n => by
  obtain ⟨m, u⟩ := o.hid b (hN b n)
  exact ⟨MS.set_none m fun z => na (by rw [← z]; exact n), u⟩⟩
/-- a hidden list grows: nothing else speaks of it -/
theorem LstAt.grow {F : PySem.W.Frag} {N : Addr → Prop} {H : Hp} {M : MS} {a b : Addr} {ws' vs : List V} (ha : N a) (t : LstAt ⟨F, N⟩ H M b vs) : LstAt ⟨F, N⟩ (upd H a (.lst ws')) M b vs := by
  have ne : b ≠ a := fun z => t.2.2 (by rw [z]; exact ha)
  exact ⟨by rw [upd_ne ne]; exact t.1, t.2⟩
mutual
theorem Rep.grow {F : PySem.W.Frag} {N : Addr → Prop} {H : Hp} {M : MS} {a : Addr} {ws ws' : List V} (ha : N a) (hH : H a = some (.lst ws)) {d : D} {v : V} (h : Rep ⟨F, N⟩ H M d v) : Rep ⟨F, N⟩ (upd H a (.lst ws')) M d v :=
  match h with
  | .non => .non
  | .bl b => .bl b
  | .int i => .int i
  | .str x => .str x
  | .ty n => .ty n
  | .ref a => .ref a
  | .tup t r => .tup ⟨by rw [upd_ne (ne_of t.1 hH fun z => nomatch z)]; exact t.1, t.2⟩ (Reps.grow ha hH r)
  | .ktup t r => .ktup t (Reps.grow ha hH r)
  | .lst t r => .lst (t.grow ha) (Reps.grow ha hH r)
  | .klst e r => .klst (e.imp (fun ⟨u, e, m⟩ => ⟨u, by rw [upd_ne (ne_of e hH fun z => nomatch z)]; exact e, m⟩) id) (Reps.grow ha hH r)
  | .dk e m l r => .dk (by rw [upd_ne (ne_of e hH fun z => nomatch z)]; exact e) m l (Reps.grow ha hH r)
  | .dt e m l r => .dt (by rw [upd_ne (ne_of e hH fun z => nomatch z)]; exact e) m l (Reps.grow ha hH r)
  | .ins e m l r => .ins (by rw [upd_ne (ne_of e hH fun z => nomatch z)]; exact e) m l (Reps.grow ha hH r)
  | .exc e m r => .exc (by rw [upd_ne (ne_of e hH fun z => nomatch z)]; exact e) m (Rep.grow ha hH r)
theorem Reps.grow {F : PySem.W.Frag} {N : Addr → Prop} {H : Hp} {M : MS} {a : Addr} {ws ws' : List V} (ha : N a) (hH : H a = some (.lst ws)) {ds : List D} {vs : List V} (h : Reps ⟨F, N⟩ H M ds vs) : Reps ⟨F, N⟩ (upd H a (.lst ws')) M ds vs :=
  match h with
  | .nil => .nil
  | .cons r t => .cons (Rep.grow ha hH r) (Reps.grow ha hH t)
end
def FinOk (fin : Fin) : Prop := ∀ (F : PySem.W.Frag) (N N' : Addr → Prop) (H1 H : Hp) (M1 M : MS) (a : Addr) (acc : List D) (vs : List V) (Qd : QD) (Q : VK), (∀ b, N b → N' b) → ¬ N a → N' a → H1 a = none → Fr H1 M1 H M → Own ⟨F, N'⟩ H M →
  H a = some (.lst vs) → Reps ⟨F, N'⟩ H M acc vs → fin acc M Qd → KE ⟨F, N⟩ H1 M1 Qd Q → Q (.ref a) H
theorem finF_ok : FinOk finF := fun F N N' H1 H M1 M a acc vs Qd Q hN na ha h1 f o e r q k =>
  k _ _ M H f (o.show hN) (.lst ⟨e, (o.hid a ha).1, na⟩ (r.show hN)) q
theorem finM_ok : FinOk finM := fun F N N' H1 H M1 M a acc vs Qd Q hN na ha h1 f o e r q k =>
  k (.ref a) _ (M.set a (.lst acc)) H ⟨fun b u hb mb => by
    obtain ⟨x1, x2⟩ := f.keep b u hb mb
    exact ⟨x1, MS.set_none x2 (ne_of_none hb h1)⟩⟩ (o.made hN na ha e r) (.ref a) (q a (o.hid a ha).1)
theorem comp_read {F : PySem.W.Frag} {W : WX} {fin : Fin} (hf : FinOk fin) {wi : TI} {I : TID} {g : Tgt} {gv : TG} {t : TT} {tt : TTD} {e : TE} {te : TED} {vs : List Nat} (hi : ∀ σ H R, lI F W I σ H R → wi σ H R) (hg : GOk F g gv) (hv : ∀ i ∈ slots g, i ∈ vs)
    (ht : ∀ σ H Q, lT F W0 tt σ H Q → t σ H Q) (he : ∀ σ H Q, lE F W0 te σ H Q → e σ H Q) : ∀ σ H Q, lE F W (dComp fin I vs g tt te) σ H Q → tLc wi gv t e vs σ H Q :=
  fun σ H Q ⟨N, ρ, M, Qd, R, er, o, q, k, x⟩ => hi σ H _ ⟨N, ρ, M, _, _, er, o, q, fun chk ds J M1 H1 f1 o1 w q1 => by
    intro A hA
    have hNN : ∀ b, N b → N b ∨ b = A := fun b z => .inl z
    have hHid : Hid N (fun b => N b ∨ b = A) H1 := fun b z => z.imp_right fun z => by rw [z]; exact hA
    have nA : ¬ N A := fun z => by obtain ⟨_, u, e⟩ := o1.hid A z; rw [hA] at e; cases e
    have noR : ∀ {H M σ}, LR ⟨F, fun b => N b ∨ b = A⟩ W0 H M σ NoR := fun {H M σ} C d dx M' H' _ _ _ z => z
    have fA : Fr H1 M1 (upd H1 A (.lst [])) M1 := Fr.new hA
    have oA : Own ⟨F, fun b => N b ∨ b = A⟩ (upd H1 A (.lst [])) M1 := by
      have o2 := Own.new (o := .lst []) o1 hA
      refine ⟨fun b mo e => ?_, fun b z => ?_⟩
      · have q := o1.at_ b mo e
        have q2 := OwnAt.hide hHid q
        exact q2.mono fA fun u e' => by rw [upd_ne (ne_of_none e' hA)]; exact e'
      · rcases z with z | z
        · exact o2.hid b z
        · rw [z]; exact ⟨o1.no hA, _, upd_same⟩
    have eW : EnvR ⟨F, fun b => N b ∨ b = A⟩ H1 M1 (wipeD ρ vs) (L2.wipe σ vs) := ((er.mono f1).hide hHid).wipe vs
    refine ⟨fun i m H => m = ds.length - i ∧ i ≤ ds.length ∧ ∃ acc ws M, Own ⟨F, fun b => N b ∨ b = A⟩ H M ∧ H A = some (.lst ws) ∧ Reps ⟨F, fun b => N b ∨ b = A⟩ H M acc ws ∧ Fr H1 M1 H M ∧ dCompGo chk (wipeD ρ vs) g tt te (fun acc M => fin acc M Qd) (ds.drop i) acc M,
      ⟨ds.length, by simp, Nat.zero_le _, [], [], M1, oA, upd_same, .nil, fA, by simpa using q1⟩, ?_⟩
    rintro i m H2 ⟨rfl, hi2, acc, ws, M2, o2, e2, r2, f2, go⟩
    by_cases hlt : i < ds.length
    · rw [List.drop_eq_getElem_cons hlt] at go
      obtain ⟨c, ρ3, ea, q3⟩ := go
      refine .inr ⟨w.goes _ hHid i H2 M2 hlt f2 o2 c, fun H => ∃ acc ws M, Own ⟨F, fun b => N b ∨ b = A⟩ H M ∧ H A = some (.lst ws) ∧ Reps ⟨F, fun b => N b ∨ b = A⟩ H M acc ws ∧ Fr H1 M1 H M ∧ dCompGo chk (wipeD ρ vs) g tt te (fun acc M => fin acc M Qd) (ds.drop (i + 1)) acc M,
        fun H' h => ⟨ds.length - (i + 1), by omega, rfl, hlt, h⟩, fun y H' hy => ?_⟩
      obtain ⟨d, hd, f3, o3, r3⟩ := w.yields _ hHid i H2 M2 y H' hlt f2 o2 c hy
      have ed : ds[i] = d := by rw [List.getElem?_eq_getElem hlt] at hd; exact Option.some.inj hd
      rw [ed] at ea
      have mA : ∀ {H M}, Own ⟨F, fun b => N b ∨ b = A⟩ H M → M A = none := fun o => (o.hid A (.inr rfl)).1
      refine hg.go _ H' M2 d y (wipeD ρ vs) ρ3 (L2.wipe σ vs) _ o3 r3 (eW.mono (f2.trans f3)) ea fun σ3 e3 hw => ⟨?_, ?_⟩
      · have q5 := hw vs hv
        rw [q5]
        have idem : ∀ (l : List Nat) (τ : L2.St), L2.wipe (L2.wipe τ l) l = L2.wipe τ l := by
          intro l
          induction l with
          | nil => intro τ; rfl
          | cons j l ih =>
            intro τ
            show ((L2.wipe ((L2.wipe τ l).set j none) l).set j none) = (L2.wipe τ l).set j none
            by_cases hj : j ∈ l
            · rw [wipe_set hj, ih]
            · have key : ∀ (l : List Nat) (τ : L2.St), j ∉ l → L2.wipe (τ.set j none) l = (L2.wipe τ l).set j none := by
                intro l
                induction l with
                | nil => intro τ _; rfl
                | cons k l ih2 =>
                  intro τ hk
                  show (L2.wipe (τ.set j none) l).set k none = ((L2.wipe τ l).set k none).set j none
                  rw [ih2 τ fun z => hk (List.mem_cons_of_mem _ z)]
                  exact List.set_comm _ _ (fun z => hk (by rw [z]; exact List.mem_cons_self))
              rw [key l _ hj, ih, List.set_set]
        exact idem vs σ
      · refine ht _ _ _ ⟨_, ρ3, M2, _, NoR, e3, o3, q3, fun b M4 H4 f4 o4 q4 => ?_, noR⟩
        have eA4 : H4 A = some (.lst ws) := ((f3.trans f4).keep A _ e2 (mA o2)).1
        cases b with
        | false => exact ⟨acc, ws, M4, o4, eA4, r2.mono (f3.trans f4), (f2.trans f3).trans f4, q4⟩
        | true =>
          refine he _ _ _ ⟨_, ρ3, M4, _, NoR, e3.mono f4, o4, q4, fun z vz M5 H5 f5 o5 r5 ⟨hl, q5⟩ => ?_, noR⟩
          have eA5 : H5 A = some (.lst ws) := (f5.keep A _ eA4 (mA o4)).1
          have rr := (r2.mono (f3.trans f4)).mono f5
          have neA : ∀ {b : Addr} {u : HO}, H1 b = some u → b ≠ A := fun h => ne_of_none h hA
          -- the list grows: nothing else speaks of it
          have fG : ∀ {b : Addr} {u : HO}, b ≠ A → H5 b = some u → (upd H5 A (.lst (ws ++ [vz]))) b = some u := fun ne h => by rw [upd_ne ne]; exact h
          refine ⟨ws, eA5, by rw [← rr.length]; exact hl, acc ++ [z], ws ++ [vz], M5, ⟨fun b mo e => ?_, fun b n => ?_⟩, upd_same, (rr.grow (.inr rfl) eA5).append (.cons (r5.grow (.inr rfl) eA5) .nil), ?_, q5⟩
          · have ne : b ≠ A := fun z => by rw [z, mA o5] at e; cases e
            have q := o5.at_ b mo e
            cases mo with
            | lst ds => obtain ⟨vs, e, r⟩ := q; exact ⟨vs, fG ne e, r.grow (.inr rfl) eA5⟩
            | dk ks ds => obtain ⟨vs, e, l, r⟩ := q; exact ⟨vs, fG ne e, l, r.grow (.inr rfl) eA5⟩
            | dt ks ds => obtain ⟨vs, e, l, r⟩ := q; exact ⟨vs, fG ne e, l, r.grow (.inr rfl) eA5⟩
            | ins C fs ds => obtain ⟨dx, vs, e, l, r⟩ := q; exact ⟨dx, vs, fG ne e, l, r.grow (.inr rfl) eA5⟩
          · obtain ⟨m, u, e⟩ := o5.hid b n
            refine ⟨m, ?_⟩
            by_cases hb : b = A
            · rw [hb]; exact ⟨_, upd_same⟩
            · exact ⟨u, fG hb e⟩
          · exact ⟨fun b u h m => by
              obtain ⟨h', m'⟩ := (((f2.trans f3).trans f4).trans f5).keep b u h m
              exact ⟨fG (neA h) h', m'⟩⟩
    · have e : i = ds.length := by omega
      subst e
      rw [List.drop_length] at go
      exact .inl ⟨w.stops _ hHid H2 M2 f2 o2 go.1, hf F N _ H1 H2 M1 M2 A acc ws Qd Q hNN nA (.inr rfl) hA f2 o2 e2 r2 go.2 (KE.mono f1 k)⟩, x⟩
section
variable {X : Cx} {W : WX}
theorem dYes_ok {F : PySem.W.Frag} {W : WX} : ∀ σ H Q, lT F W dYes σ H Q → tYes σ H Q := fun σ H Q ⟨N, ρ, M, Qd, R, er, o, q, k, x⟩ => k true M H (Fr.refl _ _) o q
theorem e_comp {fin : Fin} (hf : FinOk fin) {elt tg iter : Expr} {ifs : List Expr} {scope : Scope} {own : List (Str × Nat)} {pos : Pos} {I : TID} {g : Tgt} {gv : TG} {t : TT} {tt : TTD} {te : TED} (hc : X.calm = true) (hN : X.N.Nodup) (hi : JI X W tg iter I) (ok : BlkOk X.N X.env.scope scope own)
    (hpg : ∀ (s : Shared) (H : Hp) (C : Addr) (cl : List (Str × Addr)) (fp : List Addr), PG (X.blk s H scope (compEnvC scope cl C X.env) fp) tg gv) (hg : GOk X.K g gv) (hv : ∀ i ∈ slots g, i ∈ own.map (·.2))
    (ht : ∀ (s : Shared) (H : Hp) (C : Addr) (cl : List (Str × Addr)) (fp : List Addr), PTs (X.blk s H scope (compEnvC scope cl C X.env) fp) ifs t) (htt : ∀ σ H Q, lT X.K W0 tt σ H Q → t σ H Q)
    (he : ∀ (s : Shared) (H : Hp) (C : Addr) (cl : List (Str × Addr)) (fp : List Addr), JE (X.blk s H scope (compEnvC scope cl C X.env) fp) W0 elt te) (hs : ∀ x, foldedSetIterable iter X.env x = pure x := by intro _; rfl) :
    JE X W (.ListComp elt [⟨tg, iter, ifs, 0⟩] scope pos) (dComp fin I (own.map (·.2)) g tt te) :=
  pe_imp (pe_lc hc hN hi ok hpg ht he hs) (comp_read hf (fun _ _ _ h => h) hg hv htt fun _ _ _ h => h)
/-- name = [..] on one line -/
theorem s_setComp {fin : Fin} (hf : FinOk fin) {i : Nat} {y : Str} {py : Pos} {elt tg iter : Expr} {ifs : List Expr} {scope : Scope} {own : List (Str × Nat)} {pos spos : Pos} {I : TID} {g : Tgt} {gv : TG} {t : TT} {tt : TTD} {te : TED} (hc : X.calm = true) (hN : X.N.Nodup) (hy : X.N[i]? = some y) (hyl : X.env.scope.names.lookup y = some .local)
    (hsw : swapsWith (.ListComp elt [⟨tg, iter, ifs, 0⟩] scope pos) (some (.Name y py)) spos.line X.env = pure true) (hi : JI X W tg iter I) (ok : BlkOk X.N X.env.scope scope own)
    (hpg : ∀ (s : Shared) (H : Hp) (C : Addr) (cl : List (Str × Addr)) (fp : List Addr), PG (X.blk s H scope (compEnvC scope cl C X.env) fp) tg gv) (hg : GOk X.K g gv) (hv : ∀ i ∈ slots g, i ∈ own.map (·.2))
    (ht : ∀ (s : Shared) (H : Hp) (C : Addr) (cl : List (Str × Addr)) (fp : List Addr), PTs (X.blk s H scope (compEnvC scope cl C X.env) fp) ifs t) (htt : ∀ σ H Q, lT X.K W0 tt σ H Q → t σ H Q)
    (he : ∀ (s : Shared) (H : Hp) (C : Addr) (cl : List (Str × Addr)) (fp : List Addr), JE (X.blk s H scope (compEnvC scope cl C X.env) fp) W0 elt te) (hs : ∀ x, foldedSetIterable iter X.env x = pure x := by intro _; rfl) :
    JS X W (.Assign [.Name y py] (.ListComp elt [⟨tg, iter, ifs, 0⟩] scope pos) spos) (dAsg (dComp fin I (own.map (·.2)) g tt te) (.name i)) :=
  ps_imp (ps_setLc hc hN hy hyl hsw hi ok hpg ht he hs) (asg_read (gok_name i) (comp_read hf (fun _ _ _ h => h) hg hv htt fun _ _ _ h => h))
end
end DL

set_option Elab.async false
set_option maxRecDepth 100000
set_option maxHeartbeats 4000000
/-! The data layer: defs, their promises over data, calls. -/
namespace DL
open PySem PySem.Spec L2
open PyProof.Rows (envOfC)

/-! ### a def's promise over data -/
/-- the arguments, the store, what is wanted of an answer, of an error -/
abbrev SpD := List D → MS → QD → RK → Prop
def lSp (F : PySem.W.Frag) (sp : SpD) : Sp := fun vs H Q E => ∃ N ds M Qd R, Own ⟨F, N⟩ H M ∧ Reps ⟨F, N⟩ H M ds vs ∧ sp ds M Qd R ∧ KE ⟨F, N⟩ H M Qd Q ∧
  ∀ C d dx M' H', Fr H M H' M' → Own ⟨F, N⟩ H' M' → ExcAt ⟨F, N⟩ H' M' dx d → R C d M' → E (.ref C) (some dx) H'
/-- the def at f keeps sp -/
abbrev Okd (P : Program) (w : World) (K : PySem.W.Frag) (mg : Str → Option Value) (base : Heap) (k : Nat) (f : Addr) (fd : FuncData) (ps : List Str) (sp : SpD) : Prop := FnOk P w K mg base (L2.CX P w) k f fd ps (lSp K sp)

/-! ### what is handed back may be forgotten or may not be changed any more -/
mutual
inductive Fz (M M' : MS) : D → D → Prop where
  | refl (d : D) : Fz M M' d d
  | lst {a : Addr} {ds ds' : List D} : M a = some (.lst ds) → M' a = none → Fzs M M' ds ds' → Fz M M' (.ref a) (.lst ds')
  | dk {a : Addr} {ks : List Key} {ds ds' : List D} : M a = some (.dk ks ds) → M' a = none → Fzs M M' ds ds' → Fz M M' (.ref a) (.dk ks ds')
  | dt {a : Addr} {ks : List (List Key)} {ds ds' : List D} : M a = some (.dt ks ds) → M' a = none → Fzs M M' ds ds' → Fz M M' (.ref a) (.dt ks ds')
  | ins {a C : Addr} {fs : List Str} {ds ds' : List D} : M a = some (.ins C fs ds) → M' a = none → Fzs M M' ds ds' → Fz M M' (.ref a) (.ins C fs ds')
  | tup {ds ds' : List D} : Fzs M M' ds ds' → Fz M M' (.tup ds) (.tup ds')
inductive Fzs (M M' : MS) : List D → List D → Prop where
  | nil : Fzs M M' [] []
  | cons {d d' : D} {ds ds' : List D} : Fz M M' d d' → Fzs M M' ds ds' → Fzs M M' (d :: ds) (d' :: ds')
end
theorem Fzs.refl {M M' : MS} : ∀ ds : List D, Fzs M M' ds ds
  | [] => .nil
  | d :: ds => .cons (.refl d) (Fzs.refl ds)
abbrev Sub (M' M : MS) : Prop := ∀ a o, M' a = some o → M a = some o
mutual
theorem Fz.rep {K : KN} {H : Hp} {M M' : MS} (o : Own K H M) (s : Sub M' M) {d d' : D} {v : V} (z : Fz M M' d d') (r : Rep K H M d v) : Rep K H M' d' v :=
  match z with
  | .refl d => r.mono (Fr.sub s)
  | .lst (a := a) e n zs => by
    cases r
    obtain ⟨vs, h1, h2⟩ := o.at_ a _ e
    exact .lst ⟨h1, n, fun q => by obtain ⟨m, _⟩ := o.hid a q; rw [e] at m; cases m⟩ (Fzs.rep o s zs h2)
  | .dk (a := a) e n zs => by
    cases r
    obtain ⟨vs, h1, h2, h3⟩ := o.at_ a _ e
    exact .dk h1 n h2 (Fzs.rep o s zs h3)
  | .dt (a := a) e n zs => by
    cases r
    obtain ⟨vs, h1, h2, h3⟩ := o.at_ a _ e
    exact .dt h1 n h2 (Fzs.rep o s zs h3)
  | .ins (a := a) e n zs => by
    cases r
    obtain ⟨dx, vs, h1, h2, h3⟩ := o.at_ a _ e
    exact .ins h1 n h2 (Fzs.rep o s zs h3)
  | .tup zs => by
    cases r with
    | tup t r => exact .tup (t.mono (Fr.sub s)) (Fzs.rep o s zs r)
theorem Fzs.rep {K : KN} {H : Hp} {M M' : MS} (o : Own K H M) (s : Sub M' M) {ds ds' : List D} {vs : List V} (z : Fzs M M' ds ds') (r : Reps K H M ds vs) : Reps K H M' ds' vs :=
  match z with
  | .nil => by cases r; exact .nil
  | .cons z zs => by
    cases r with
    | cons r t => exact .cons (Fz.rep o s z r) (Fzs.rep o s zs t)
end
def RetOk (Q : QD) : QD := fun d M => ∃ d' M', Sub M' M ∧ Fz M M' d d' ∧ Q d' M'
def RetX (R : RK) : RK := fun C d M => ∃ M', Sub M' M ∧ R C d M'
def retD (Q : QD) (R : RK) : EndsD := { nx := fun _ M => RetOk Q .non M, rt := RetOk Q, rz := fun C d _ M => RetX R C d M }
theorem RetOk.of {Q : QD} {d : D} {M : MS} (q : Q d M) : RetOk Q d M := ⟨d, M, fun _ _ e => e, .refl d, q⟩
theorem RetX.of {R : RK} {C : Addr} {d : D} {M : MS} (q : R C d M) : RetX R C d M := ⟨M, fun _ _ e => e, q⟩
def startD (n : Nat) (ds : List D) : Rho := ds.map some ++ List.replicate (n - ds.length) none
theorem EnvR.start {K : KN} {H : Hp} {M : MS} {N : List Str} : ∀ {ds : List D} {vs : List V}, Reps K H M ds vs → EnvR K H M (startD N.length ds) (L2.start N vs) := fun {ds vs} r => by
  unfold startD L2.start
  have rest : ∀ n : Nat, EnvR K H M (List.replicate n none) (List.replicate n none) := fun n => by
    induction n with
    | zero => exact .nil
    | succ n ih => exact .cons (fun d e => by cases e) ih
  have app : ∀ {ds : List D} {vs : List V} {ρ : Rho} {σ : L2.St}, Reps K H M ds vs → EnvR K H M ρ σ → EnvR K H M (ds.map some ++ ρ) (vs.map some ++ σ) := by
    intro ds vs ρ σ r e
    induction ds generalizing vs with
    | nil => cases r; exact e
    | cons d ds ih =>
      cases r with
      | cons r t => exact .cons (fun d' e => by cases e; exact ⟨_, rfl, r⟩) (ih t)
  rw [← r.length]
  exact app r (rest _)
section
variable {P : Program} {w : World} {K : PySem.W.Frag} {mg : Str → Option Value} {base : Heap}
abbrev WE0 (E : XK) : WX := fun cls d _ H => E cls d H
/-- THE RULE for a def -/
theorem ok_def {x qual : Str} {st : Stmt} {f : Addr} {fd : FuncData} {N ps : List Str} {k : Nat} {sp : SpD} (F : Fun K x qual st f fd) (S : FnScope N ps (defScope st)) (tb : TSD) (len : ∀ ds M Q R, sp ds M Q R → ds.length = ps.length)
    (body : ∀ (cdv : Value) (A : Around) (outer : List Env) (s : Shared) (H : Hp) (E : XK), Room k (A.deeper (envOfC qual (defScope st) s.heap.objs.size f cdv)) →
      JB (cxOf (L2.CX P w) P w K mg base N qual (defScope st) f cdv A outer s H E) (WE0 E) (defBody st) tb)
    (read : ∀ ds M Q R, sp ds M Q R → tb (retD Q R) (startD N.length ds) M) : Okd P w K mg base (k + 1) f fd ps sp := by
  refine F.okX S (fun vs H Q E ⟨N', ds, M, Qd, R, o, r, q, _⟩ => by rw [← r.length]; exact len ds M Qd R q) fun cdv A outer s H vs Q E hr ⟨N', ds, M, Qd, R, o, r, q, k, x⟩ => ⟨_, body cdv A outer s H E hr, N', startD N.length ds, M, retD Qd R, EnvR.start r, o, read ds M Qd R q, ?_⟩
  have fin : ∀ d v M' H', Fr H M H' M' → Own ⟨K, N'⟩ H' M' → Rep ⟨K, N'⟩ H' M' d v → RetOk Qd d M' → Q v H' := fun d v M' H' f o' r' ⟨d2, M2, s2, z, q2⟩ => k d2 v M2 H' (f.trans (Fr.sub s2)) (o'.sub s2) (z.rep o' s2 r') q2
  exact ⟨fun ρ' σ' M' H' f o' e' q' => fin .non .non M' H' f o' .non q', fin, fun _ _ _ _ _ _ _ z => z, fun _ _ _ _ _ _ _ z => z, fun C d dx ρ' σ' M' H' f o' e' xa ⟨M2, s2, q2⟩ => x C d dx M2 H' (f.trans (Fr.sub s2)) (o'.sub s2) (xa.mono (Fr.sub s2)) q2⟩
end

/-! ### calls -/
section
variable {X : Cx} {W : WX} {k : Nat} {f : Addr} {fd : FuncData} {ps : List Str} {sp : SpD} {x : Str} {p pos : Pos} {e : Expr} {es : List Expr} {t : TAD}
def dCall (sp : SpD) (t : TAD) : TED := fun ρ M Q R => t ρ M (fun ds M1 => sp ds M1 Q R) R
theorem e_call (tk : Takes X W) (F : Okd X.prog X.w X.K X.mg X.base k f fd ps sp) (hr : Room k X.A) (hg : Gl X x) (hm : X.mg x = some (.ref f)) (hk : PySem.W.keepIn X.K (.ref f) = true) (hb : Binds X.K fd ps []) (ha : JA X W (e :: es) t)
    (hdb : (x == ("__debug__" : Str)) = false := by decide) (he : starEach (e :: es) X.env = (false, eval e X.env) :: starEach es X.env := by rfl) (hpl : (backTo pos (starEach es X.env)).any (·.1) = false := by rfl) : JE X W (.Call (.Name x p) (e :: es) [] pos) (dCall sp t) :=
  pe_imp (pe_callS F hr hg hm hk hb (fun σ => passAt tk σ) ha hdb he hpl) fun σ H Q ⟨N, ρ, M, Qd, R, er, o, q, k, x⟩ =>
    ⟨N, ρ, M, _, R, er, o, q, fun ds vs M1 H1 f1 o1 r1 q1 => ⟨N, ds, M1, Qd, R, o1, r1, q1, KE.mono f1 k, fun C d dx M' H' f o' xa r => x C d dx M' H' (f1.trans f) o' xa r⟩, x⟩
theorem pe_call0S {E : L2.St → XK} {sp : Sp} {CX : CXT} (F : FnOk X.prog X.w X.K X.mg X.base CX k f fd ps sp) (hr : Room k X.A) (hg : Gl X x) (hm : X.mg x = some (.ref f)) (hk : PySem.W.keepIn X.K (.ref f) = true) (hb : Binds X.K fd ps []) (hx : ∀ σ, PassesAt CX X σ (E σ))
    (hdb : (x == ("__debug__" : Str)) = false := by decide) : PE X (.Call (.Name x p) [] [] pos) (tCallS sp E tNil) := by
  refine ⟨fun pins s σ H Q I h => ?_⟩
  refine wpAny_Call_Name_kw (ld_glob I hg hm ?_ hdb)
  exact PySem.W.callWith_K0 I.kIn hk (run_fnS (us := []) F hr hb (hx σ) I .nil h)
theorem e_call0 (tk : Takes X W) (F : Okd X.prog X.w X.K X.mg X.base k f fd ps sp) (hr : Room k X.A) (hg : Gl X x) (hm : X.mg x = some (.ref f)) (hk : PySem.W.keepIn X.K (.ref f) = true) (hb : Binds X.K fd ps [])
    (hdb : (x == ("__debug__" : Str)) = false := by decide) : JE X W (.Call (.Name x p) [] [] pos) (dCall sp dNil) :=
  pe_imp (pe_call0S F hr hg hm hk hb (fun σ => passAt tk σ) hdb) fun σ H Q ⟨N, ρ, M, Qd, R, er, o, q, k, x⟩ => ⟨N, [], M, Qd, R, o, .nil, q, k, x⟩
/-- f(k = v, ..): keywords alone, or behind positional ones; perm tells where each parameter's value stands among them -/
theorem run_fnKS {E : L2.St → XK} {sp : Sp} {CX : CXT} {ks : List Str} {g : List Value → List Value → List Value} {gV : List V → List V → List V} {pins : List (Addr × Obj)} {σ : L2.St} {H : Hp} {s : Shared} {Q : VK} {us ws : List Value} {vs zs : List V}
    (F : FnOk X.prog X.w X.K X.mg X.base CX k f fd ps sp) (hr : Room k X.A) (hb : KBinds X.K fd ps ks g gV) (hx : PassesAt CX X σ (E σ))
    (I : Inv X pins σ H s) (r : Vals vs us) (rz : Vals zs ws) (h : sp (gV vs zs) H Q (E σ)) : wpAny (model X.prog X.w) X.A (call (.ref f) us (ks.zip ws)) (EP X pins σ Q) X.xe s := by
  have r2 := hb.rel r rz
  have hl : (g us ws).length = ps.length := by rw [← r2.length]; exact F.len _ _ _ _ h
  refine wpAny_call (codeAny_mono (F.run X.A X.stack s H ⟨us, ks.zip ws⟩ (g us ws) (gV vs zs) Q (E σ) hr I.env0 (hb.to s us ws I.kIn hl) r2 h) fun r s' hq => ?_)
  cases r with
  | error e => exact hx pins H s e s' I hq
  | ok fl =>
    cases fl with
    | ret u => exact I.after hq
    | next => exact False.elim hq
    | brk => exact False.elim hq
    | cont => exact False.elim hq
theorem pe_callKS0 {E : L2.St → XK} {sp : Sp} {CX : CXT} {ks : List Str} {kws : List Keyword} {tk : TA} {g : List Value → List Value → List Value} {gV : List V → List V → List V} (F : FnOk X.prog X.w X.K X.mg X.base CX k f fd ps sp) (hr : Room k X.A) (hg : Gl X x) (hm : X.mg x = some (.ref f)) (hk : PySem.W.keepIn X.K (.ref f) = true) (hb : KBinds X.K fd ps ks g gV) (hx : ∀ σ, PassesAt CX X σ (E σ))
    (hkw : PK X kws tk) (hall : (backToKw pos (keywordEach kws X.env)).all (·.1.isSome) = true := by rfl) (hks : (backToKw pos (keywordEach kws X.env)).filterMap (·.1) = ks := by rfl)
    (hdb : (x == ("__debug__" : Str)) = false := by decide) (hpl : (backToKw pos (keywordEach kws X.env)).any (·.1.isNone) = false := by rfl) :
    PE X (.Call (.Name x p) [] kws pos) (fun σ H Q => tk σ H fun zs H2 => sp (gV [] zs) H2 Q (E σ)) := by
  refine ⟨fun pins s σ H Q I h => ?_⟩
  refine wpAny_Call_Name_kw (ld_glob I hg hm ?_ hdb)
  refine PySem.W.callWith_KW0 (h₀ := X.base) I.ok.mod.kin hk hall (thn (hkw.run pos pins s σ H _ I h) fun ws s2 ⟨zs, H2, I2, rz, q2⟩ => ⟨I2.kIn, ?_⟩) (by first | exact hpl | simpa using hpl)
  rw [hks]
  exact run_fnKS F hr hb (hx σ) I2 .nil rz q2
end
end DL

set_option Elab.async false
set_option maxRecDepth 100000
set_option maxHeartbeats 4000000
/-! The data layer: keywords, instances, errors raised and caught. -/
namespace DL
open PySem PySem.Spec L2
open PyProof.Rows (envOfC)

section
variable {X : Cx} {W : WX} {k : Nat} {f : Addr} {fd : FuncData} {ps ks : List Str} {sp : SpD} {x : Str} {p pos : Pos} {e : Expr} {es : List Expr} {t u : TAD} {kws : List Keyword}
/-! ### keywords -/
abbrev JK (X : Cx) (W : WX) (kws : List Keyword) (t : TAD) : Prop := PK X kws (lA X.K W t)
theorem pk_imp {kws : List Keyword} {t t' : TA} (h : PK X kws t) (i : ∀ σ H Q, t' σ H Q → t σ H Q) : PK X kws t' := ⟨fun p pins s σ H Q I q => h.run p pins s σ H Q I (i σ H Q q)⟩
theorem k_nil : JK X W [] dNil := pk_imp pk_nil fun σ H Q ⟨N, ρ, M, Qd, R, er, o, q, k, _⟩ => k [] [] M H (Fr.refl _ _) o .nil q
theorem k_cons {nm : Option Str} {kpos : Pos} {t : TED} (he : JE X W e t) (hr : JK X W kws u) : JK X W (⟨nm, e, kpos⟩ :: kws) (dCons t u) :=
  pk_imp (pk_cons he hr) fun σ H Q ⟨N, ρ, M, Qd, R, er, o, q, k, x⟩ =>
    ⟨N, ρ, M, _, R, er, o, q, fun d v M1 H1 f1 o1 r1 q1 =>
      ⟨N, ρ, M1, _, R, er.mono f1, o1, q1, fun ds vs M2 H2 f2 o2 r2 q2 => k (d :: ds) (v :: vs) M2 H2 (f1.trans f2) o2 (.cons (r1.mono f2) r2) q2, x.mono f1⟩, x⟩
/-- the parameters' order: ix tells where each parameter's value stands among the written ones -/
def perm {α : Type} (ix : List Nat) (l : List α) (d : α) : List α := ix.map fun i => l.getD i d
theorem Reps.perm {K : KN} {H : Hp} {M : MS} {ds : List D} {vs : List V} (r : Reps K H M ds vs) : ∀ ix : List Nat, Reps K H M (DL.perm ix ds .non) (DL.perm ix vs .non)
  | [] => .nil
  | i :: ix => by
    refine .cons ?_ (Reps.perm r ix)
    by_cases h : i < ds.length
    · have h2 : i < vs.length := by rw [← r.length]; exact h
      obtain ⟨v, hv, rv⟩ := r.get (i := i) (d := ds[i]) (by simp [h])
      have e : vs[i] = v := by rw [List.getElem?_eq_getElem h2] at hv; exact Option.some.inj hv
      simp only [List.getD_eq_getElem?_getD, List.getElem?_eq_getElem h, List.getElem?_eq_getElem h2, Option.getD_some]
      rw [e]; exact rv
    · have h2 : ¬ i < vs.length := by rw [← r.length]; exact h
      simp only [List.getD_eq_getElem?_getD, List.getElem?_eq_none (Nat.le_of_not_lt h), List.getElem?_eq_none (Nat.le_of_not_lt h2), Option.getD_none]
      exact .non
theorem Vals.perm {vs : List V} {us : List Value} (r : Vals vs us) : ∀ ix : List Nat, Vals (DL.perm ix vs .non) (DL.perm ix us .none)
  | [] => .nil
  | i :: ix => by
    refine .cons ?_ (Vals.perm r ix)
    by_cases h : i < vs.length
    · have h2 : i < us.length := by rw [← r.length]; exact h
      obtain ⟨v, hv, rv⟩ := r.get (i := i) (x := vs[i]) (by simp [h])
      have e : us[i] = v := by rw [List.getElem?_eq_getElem h2] at hv; exact Option.some.inj hv
      simp only [List.getD_eq_getElem?_getD, List.getElem?_eq_getElem h, List.getElem?_eq_getElem h2, Option.getD_some]
      rw [e]; exact rv
    · have h2 : ¬ i < us.length := by rw [← r.length]; exact h
      simp only [List.getD_eq_getElem?_getD, List.getElem?_eq_none (Nat.le_of_not_lt h), List.getElem?_eq_none (Nat.le_of_not_lt h2), Option.getD_none]
      rfl
/-- how a call with n positional values and the keywords ks binds -/
def KwOk (fd : FuncData) (ps ks : List Str) (n : Nat) (ix : List Nat) : Prop := ∀ us ws : List Value, us.length = n → ws.length = ks.length → bindArgs fd ⟨us, ks.zip ws⟩ = pure (ps.zip (perm ix (us ++ ws) .none))
theorem run_kw {E : L2.St → XK} {CX : CXT} {sp : Sp} {n : Nat} {ix : List Nat} {pins : List (Addr × Obj)} {σ : L2.St} {H : Hp} {s : Shared} {Q : VK} {us ws : List Value} {vs zs : List V}
    (F : FnOk X.prog X.w X.K X.mg X.base CX k f fd ps sp) (hr : Room k X.A) (hb : KwOk fd ps ks n ix) (hx : PassesAt CX X σ (E σ)) (hn : vs.length = n) (hz : zs.length = ks.length)
    (I : Inv X pins σ H s) (r : Vals vs us) (rz : Vals zs ws) (h : sp (perm ix (vs ++ zs) .non) H Q (E σ)) : wpAny (model X.prog X.w) X.A (call (.ref f) us (ks.zip ws)) (EP X pins σ Q) X.xe s := by
  have r2 := Vals.perm (r.append rz) ix
  refine wpAny_call (codeAny_mono (F.run X.A X.stack s H ⟨us, ks.zip ws⟩ _ _ Q (E σ) hr I.env0 (BindsTo.of_eq (hb us ws (by rw [← r.length]; exact hn) (by rw [← rz.length]; exact hz))) r2 h) fun r s' hq => ?_)
  cases r with
  | error e => exact hx pins H s e s' I hq
  | ok fl =>
    cases fl with
    | ret u => exact I.after hq
    | next => exact False.elim hq
    | brk => exact False.elim hq
    | cont => exact False.elim hq
def dCallK (sp : SpD) (n m : Nat) (ix : List Nat) (t u : TAD) : TED := fun ρ M Q R => t ρ M (fun ds M1 => u ρ M1 (fun es M2 => ds.length = n ∧ es.length = m ∧ sp (perm ix (ds ++ es) .non) M2 Q R) R) R
theorem e_callK0 {ix : List Nat} (tk : Takes X W) (F : Okd X.prog X.w X.K X.mg X.base k f fd ps sp) (hr : Room k X.A) (hg : Gl X x) (hm : X.mg x = some (.ref f)) (hk : PySem.W.keepIn X.K (.ref f) = true) (hb : KwOk fd ps ks 0 ix)
    (hkw : JK X W kws u) (hall : (backToKw pos (keywordEach kws X.env)).all (·.1.isSome) = true := by rfl) (hks : (backToKw pos (keywordEach kws X.env)).filterMap (·.1) = ks := by rfl)
    (hdb : (x == ("__debug__" : Str)) = false := by decide) (hpl : ((backTo pos (starEach [] X.env)).any (·.1) || (backToKw pos (keywordEach kws X.env)).any (·.1.isNone)) = false := by rfl) :
    JE X W (.Call (.Name x p) [] kws pos) (dCallK sp 0 ks.length ix dNil u) := by
  refine ⟨fun pins s σ H Q I ⟨N, ρ, M, Qd, R, er, o, q, k0, xr⟩ => ?_⟩
  refine wpAny_Call_Name_kw (ld_glob I hg hm ?_ hdb)
  refine PySem.W.callWith_KW0 (h₀ := X.base) I.ok.mod.kin hk hall (thn (hkw.run pos pins s σ H (fun zs H2 => zs.length = ks.length ∧ lSp X.K sp (perm ix ([] ++ zs) .non) H2 Q (WE W σ)) I ⟨N, ρ, M, _, R, er, o, q, fun es zs M2 H2 f2 o2 r2 ⟨_, l2, q2⟩ => ⟨by rw [← r2.length]; exact l2, N, _, M2, Qd, R, o2, r2.perm ix, q2, KE.mono f2 k0, fun C d dx M' H' f o' xa r => xr C d dx M' H' (f2.trans f) o' xa r⟩, xr⟩) fun ws s2 ⟨zs, H2, I2, rz, l2, q2⟩ => ⟨I2.kIn, ?_⟩) hpl
  rw [hks]
  exact run_kw (us := []) (vs := []) F hr hb (passAt tk σ) rfl l2 I2 .nil rz q2
theorem e_callK {n : Nat} {ix : List Nat} (tk : Takes X W) (F : Okd X.prog X.w X.K X.mg X.base k f fd ps sp) (hr : Room k X.A) (hg : Gl X x) (hm : X.mg x = some (.ref f)) (hk : PySem.W.keepIn X.K (.ref f) = true) (hb : KwOk fd ps ks n ix)
    (ha : JA X W (e :: es) t) (hkw : JK X W kws u) (hall : (backToKw pos (keywordEach kws X.env)).all (·.1.isSome) = true := by rfl) (hks : (backToKw pos (keywordEach kws X.env)).filterMap (·.1) = ks := by rfl)
    (hdb : (x == ("__debug__" : Str)) = false := by decide) (he : starEach (e :: es) X.env = (false, eval e X.env) :: starEach es X.env := by rfl)
    (hpl : ((backTo pos (starEach (e :: es) X.env)).any (·.1) || (backToKw pos (keywordEach kws X.env)).any (·.1.isNone)) = false := by rfl) :
    JE X W (.Call (.Name x p) (e :: es) kws pos) (dCallK sp n ks.length ix t u) := by
  refine ⟨fun pins s σ H Q I ⟨N, ρ, M, Qd, R, er, o, q, k0, xr⟩ => ?_⟩
  refine wpAny_Call_Name_kw (ld_glob I hg hm ?_ hdb)
  refine PySem.W.callWith_KW (h₀ := X.base) I.ok.mod.kin hk hall (thn (ha.run pos pins s σ H (fun vs H1 => lA X.K W u σ H1 fun zs H2 => vs.length = n ∧ zs.length = ks.length ∧ lSp X.K sp (perm ix (vs ++ zs) .non) H2 Q (WE W σ)) I ⟨N, ρ, M, _, R, er, o, q, fun ds vs M1 H1 f1 o1 r1 q1 =>
      ⟨N, ρ, M1, _, R, er.mono f1, o1, q1, fun es zs M2 H2 f2 o2 r2 ⟨l1, l2, q2⟩ => ⟨by rw [← r1.length]; exact l1, by rw [← r2.length]; exact l2, N, _, M2, Qd, R, o2, ((r1.mono f2).append r2).perm ix, q2, KE.mono (f1.trans f2) k0, fun C d dx M' H' f o' xa r => xr C d dx M' H' ((f1.trans f2).trans f) o' xa r⟩, xr.mono f1⟩, xr⟩)
    fun us s1 ⟨vs, H1, I1, r, q1⟩ => thn (hkw.run pos pins s1 σ H1 _ I1 q1) fun ws s2 ⟨zs, H2, I2, rz, l1, l2, q2⟩ => ⟨I2.kIn, ?_⟩) hpl he
  rw [hks]
  exact run_kw F hr hb (passAt tk σ) l1 l2 I2 r rz q2

/-! ### fields -/
def asIns (M : MS) : D → Option (Addr × List Str × List D)
  | .ins C fs ds => some (C, fs, ds)
  | .ref a => match M a with | some (.ins C fs ds) => some (C, fs, ds) | _ => none
  | _ => none
theorem asIns_rep {K : KN} {H : Hp} {M : MS} (o : Own K H M) {d : D} {v : V} {C : Addr} {fs : List Str} {ds : List D} (r : Rep K H M d v) (e : asIns M d = some (C, fs, ds)) : ∃ a dx vs, v = .ref a ∧ H a = some (.ins C dx (fs.zip vs)) ∧ fs.length = vs.length ∧ Reps K H M ds vs := by
  cases r with
  | ins h1 h2 h3 h4 => simp [asIns] at e; obtain ⟨rfl, rfl, rfl⟩ := e; exact ⟨_, _, _, rfl, h1, h3, h4⟩
  | ref a =>
    simp only [asIns] at e
    cases q : M a with
    | none => rw [q] at e; cases e
    | some mo =>
      rw [q] at e
      cases mo with
      | ins C' fs' ds' =>
        cases e
        obtain ⟨dx, vs, h1, h2, h3⟩ := o.at_ a _ q
        exact ⟨a, dx, vs, rfl, h1, h2, h3⟩
      | _ => cases e
  | _ => simp [asIns] at e
theorem lookup_zip {K : KN} {H : Hp} {M : MS} {q : Str} : ∀ {fs : List Str} {ds : List D} {vs : List V} {d : D}, Reps K H M ds vs → fs.length = vs.length → dGet fs ds q = some d → ∃ v, (fs.zip vs).lookup q = some v ∧ Rep K H M d v
  | [], _, _, d, _, _, e => by simp [dGet] at e
  | _ :: _, [], _, d, _, _, e => by simp [dGet] at e
  | f :: fs, d0 :: ds, _, d, .cons r t, l, e => by
    simp only [dGet] at e
    rw [List.zip_cons_cons, List.lookup_cons]
    by_cases h : f = q
    · rw [if_pos h] at e; cases e
      have hb : (q == f) = true := by rw [h]; simp
      rw [hb]
      exact ⟨_, rfl, r⟩
    · rw [if_neg h] at e
      have hb : (q == f) = false := by simpa using fun z => h z.symm
      rw [hb]
      exact lookup_zip t (by simpa using l) e
def dFld (Cs : Addr → Prop) (f : Str) (t : TED) : TED := fun ρ M Q R => t ρ M (fun d M1 => ∃ C fs ds v, asIns M1 d = some (C, fs, ds) ∧ Cs C ∧ dGet fs ds f = some v ∧ Q v M1) R
theorem e_fld {Cs : Addr → Prop} {n : Str} {t : TED} (hC : ∀ C, Cs C → Cls X.K C ∧ NoAttr X.K C n) (he : JE X W e t) (hb : attributeBase e n X.env (eval e X.env) = eval e X.env := by rfl) : JE X W (.Attribute e n pos) (dFld Cs n t) :=
  pe_imp (pe_fld he hb) fun σ H Q ⟨N, ρ, M, Qd, R, er, o, q, k, x⟩ => ⟨N, ρ, M, _, R, er, o, q, fun d v M1 H1 f1 o1 r1 ⟨C, fs, ds, w, e1, hc, e2, q1⟩ => by
    obtain ⟨a, dx, vs, rfl, h1, h2, h3⟩ := asIns_rep o1 r1 e1
    obtain ⟨v, hv, rv⟩ := lookup_zip h3 h2 e2
    exact ⟨a, C, dx, _, v, rfl, h1, (hC C hc).1, (hC C hc).2, hv, k w v M1 H1 f1 o1 rv q1⟩, x⟩
/-- o.f = e -/
def dPutF : List Str → Str → List Str
  | [], f => [f]
  | g :: fs, f => if g = f then g :: fs else g :: dPutF fs f
def dPutG {α : Type} : List Str → List α → Str → α → List α
  | g :: fs, v :: vs, f, x => if g = f then x :: vs else v :: dPutG fs vs f x
  | _, _, _, x => [x]
theorem putF_zip {f : Str} {y : V} : ∀ {fs : List Str} {vs : List V}, fs.length = vs.length → putF f y (fs.zip vs) = (dPutF fs f).zip (dPutG fs vs f y) ∧ (dPutF fs f).length = (dPutG fs vs f y).length
  | [], [], _ => ⟨rfl, rfl⟩
  | g :: fs, v :: vs, l => by
    obtain ⟨h1, h2⟩ := putF_zip (f := f) (y := y) (fs := fs) (vs := vs) (by simpa using l)
    show (if g = f then (g, y) :: fs.zip vs else (g, v) :: putF f y (fs.zip vs)) = _ ∧ _
    simp only [dPutF, dPutG]
    by_cases h : g = f
    · rw [if_pos h, if_pos h, if_pos h]; exact ⟨rfl, by simpa using l⟩
    · rw [if_neg h, if_neg h, if_neg h, h1]; exact ⟨rfl, by simpa using h2⟩
theorem dPutG_rep {K : KN} {H : Hp} {M : MS} {f : Str} {d : D} {v : V} (r : Rep K H M d v) : ∀ {fs : List Str} {ds : List D} {vs : List V}, fs.length = vs.length → Reps K H M ds vs → Reps K H M (dPutG fs ds f d) (dPutG fs vs f v)
  | [], [], _, _, .nil => .cons r .nil
  | [], _ :: _, _, l, .cons _ _ => by simp at l
  | _ :: _, _, _, l, .nil => by simp at l
  | g :: fs, _, _, l, .cons r' t => by
    simp only [dPutG]
    by_cases h : g = f
    · rw [if_pos h, if_pos h]; exact .cons r t
    · rw [if_neg h, if_neg h]; exact .cons r' (dPutG_rep r (by simpa using l) t)
def dSetF (Cs : Addr → Prop) (f : Str) (o t : TED) : TSD := fun D ρ M => t ρ M (fun v M1 => o ρ M1 (fun x M2 => ∃ a C fs ds, x = .ref a ∧ M2 a = some (.ins C fs ds) ∧ Cs C ∧ fs.length < 1000 ∧ D.nx ρ (M2.set a (.ins C (dPutF fs f) (dPutG fs ds f v)))) (dRz D ρ)) (dRz D ρ)
theorem s_setF {Cs : Addr → Prop} {n : Str} {oe : Expr} {to te : TED} {pos' : Pos} (hC : ∀ C, Cs C → Cls X.K C ∧ NoAttr X.K C n) (ho : JE X W oe to) (he : JE X W e te) (hs : swapsWith e (some (.Attribute oe n pos')) pos.line X.env = pure false := by rfl) : JS X W (.Assign [.Attribute oe n pos'] e pos) (dSetF Cs n to te) :=
  ps_imp (ps_fld ho he hs) fun D σ H ⟨N, ρ, M, D0, er, o, q, l⟩ => ⟨N, ρ, M, _, _, er, o, q, fun d v M1 H1 f1 o1 r1 q1 =>
    ⟨N, ρ, M1, _, _, er.mono f1, o1, q1, fun y vy M2 H2 f2 o2 r2 ⟨a, C, fs, ds, ey, hm, hc, hl, q2⟩ => by
      subst ey
      cases r2
      obtain ⟨dx, vs, h1, h2, h3⟩ := o2.at_ a _ hm
      obtain ⟨z1, z2⟩ := putF_zip (f := n) (y := v) h2
      refine ⟨a, C, dx, _, rfl, h1, (hC C hc).1, (hC C hc).2, by rw [List.length_zip]; omega, ?_⟩
      refine l.nx ρ σ _ _ ((f1.trans f2).trans (Fr.put hm)) (o2.put (mo' := .ins C (dPutF fs n) (dPutG fs ds n d)) hm ⟨dx, dPutG fs vs n v, ?_, z2, dPutG_rep ((r1.mono f2).mono (Fr.put hm)) h2 (h3.mono (Fr.put hm))⟩) (((er.mono f1).mono f2).mono (Fr.put hm)) q2
      rw [upd_same, z1], (l.raise er).mono f1⟩, l.raise er⟩
end
end DL

set_option Elab.async false
set_option maxRecDepth 100000
set_option maxHeartbeats 4000000
/-! The data layer: instances made, errors raised. -/
namespace DL
open PySem PySem.Spec L2
open PyProof.Rows (envOfC)

section
variable {X : Cx} {W : WX} {k : Nat} {f C : Addr} {fd : FuncData} {ps : List Str} {sp : SpD} {x : Str} {p pos : Pos} {e : Expr} {es : List Expr} {t : TAD}
/-- C(e, ..): an instance that is not changed behind its making -/
def dMake (C : Addr) (sp : SpD) (t : TAD) : TED := fun ρ M Q R => t ρ M (fun ds M1 => ∀ p, M1 p = none → sp (.ref p :: ds) (M1.set p (.ins C [] [])) (fun d M2 => d = .non ∧ ∃ fs vs, M2 p = some (.ins C fs vs) ∧ Q (.ins C fs vs) (M2.del p)) NoR) R
/-- .. that may be changed -/
def dMakeM (C : Addr) (sp : SpD) (t : TAD) : TED := fun ρ M Q R => t ρ M (fun ds M1 => ∀ p, M1 p = none → sp (.ref p :: ds) (M1.set p (.ins C [] [])) (fun d M2 => d = .non ∧ Q (.ref p) M2) NoR) R
theorem make_start {N : Addr → Prop} {F : PySem.W.Frag} {H : Hp} {M : MS} {a dx : Addr} (o : Own ⟨F, N⟩ H M) (h1 : H a = none) (h2 : H dx = none) (ne : dx ≠ a) :
    Fr H M (upd (upd H dx (.own a)) a (.ins C dx [])) (M.set a (.ins C [] [])) ∧ Own ⟨F, N⟩ (upd (upd H dx (.own a)) a (.ins C dx [])) (M.set a (.ins C [] [])) := by
  have h3 : upd H dx (.own a) a = none := by rw [upd_ne (Ne.symm ne)]; exact h1
  have o2 := Own.new (o := .own a) o h2
  exact ⟨(Fr.new h2).trans (Fr.newM h3), o2.newM h3 ⟨dx, [], upd_same, rfl, .nil⟩⟩
theorem e_make (MK : Mk X.K C f) (F : Okd X.prog X.w X.K X.mg X.base k f fd ps sp) (hr : Room (k + 1) X.A) (hg : Gl X x) (hm : X.mg x = some (.ref C)) (hb : Binds X.K fd ps []) (ha : JA X W (e :: es) t)
    (hdb : (x == ("__debug__" : Str)) = false := by decide) (he : starEach (e :: es) X.env = (false, eval e X.env) :: starEach es X.env := by rfl) (hpl : (backTo pos (starEach es X.env)).any (·.1) = false := by rfl) : JE X W (.Call (.Name x p) (e :: es) [] pos) (dMake C sp t) :=
  pe_imp (pe_make MK F hr hg hm hb .nil passL ha hdb he hpl) fun σ H Q ⟨N, ρ, M, Qd, R, er, o, q, k, x⟩ =>
    ⟨N, ρ, M, _, R, er, o, q, fun ds vs M1 H1 f1 o1 r1 q1 => by
      intro a dx h1 h2 ne
      obtain ⟨f2, o2⟩ := make_start (C := C) o1 h1 h2 ne
      refine ⟨N, .ref a :: ds, _, _, NoR, o2, .cons (.ref a) (by simpa using r1.mono f2), q1 a (o1.no h1), fun d v M' H' f3 o3 r3 ⟨ed, fs, vs', hm', q3⟩ => ?_, fun _ _ _ _ _ _ _ _ z => z.elim⟩
      subst ed
      cases r3
      obtain ⟨dx', ws, e1, e2, e3⟩ := o3.at_ a _ hm'
      exact ⟨rfl, k _ _ (M'.del a) H' (((f1.trans f2).trans f3).trans Fr.del) o3.del (.ins e1 MS.del_same e2 (e3.mono Fr.del)) q3⟩, x⟩
theorem e_makeM (MK : Mk X.K C f) (F : Okd X.prog X.w X.K X.mg X.base k f fd ps sp) (hr : Room (k + 1) X.A) (hg : Gl X x) (hm : X.mg x = some (.ref C)) (hb : Binds X.K fd ps []) (ha : JA X W (e :: es) t)
    (hdb : (x == ("__debug__" : Str)) = false := by decide) (he : starEach (e :: es) X.env = (false, eval e X.env) :: starEach es X.env := by rfl) (hpl : (backTo pos (starEach es X.env)).any (·.1) = false := by rfl) : JE X W (.Call (.Name x p) (e :: es) [] pos) (dMakeM C sp t) :=
  pe_imp (pe_make MK F hr hg hm hb .nil passL ha hdb he hpl) fun σ H Q ⟨N, ρ, M, Qd, R, er, o, q, k, x⟩ =>
    ⟨N, ρ, M, _, R, er, o, q, fun ds vs M1 H1 f1 o1 r1 q1 => by
      intro a dx h1 h2 ne
      obtain ⟨f2, o2⟩ := make_start (C := C) o1 h1 h2 ne
      refine ⟨N, .ref a :: ds, _, _, NoR, o2, .cons (.ref a) (by simpa using r1.mono f2), q1 a (o1.no h1), fun d v M' H' f3 o3 r3 ⟨ed, q3⟩ => ?_, fun _ _ _ _ _ _ _ _ z => z.elim⟩
      subst ed
      cases r3
      exact ⟨rfl, k _ _ M' H' ((f1.trans f2).trans f3) o3 (.ref a) q3⟩, x⟩

/-! ### raise C(e): C under Refused, whose __init__ keeps what -/
def spRI (K : PySem.W.Frag) : Sp := fun vs H Q _ => ∃ a C w, vs = [.ref a, w] ∧ H a = some (exo a C none) ∧ OexC K C ∧ PySem.W.findIn K (.ref C) kWhat = some none ∧
  ∀ dx, H dx = none → dx ≠ a → Q .non (upd (upd H dx (exd dx [(kWhat, w)])) a (exo a C (some dx)))
/-- what the top says of such a class -/
structure RefC (K : PySem.W.Frag) (fI C : Addr) : Prop where
  ox : OexC K C
  ini : PySem.W.findIn K (.ref C) "__init__" = some (some (.ref fI))
  no : PySem.W.findIn K (.ref C) kWhat = some none
def dRaise (C : Addr) (t : TED) : TSD := fun D ρ M => t ρ M (fun d M1 => D.rz C d ρ M1) (dRz D ρ)
theorem raise_heap {H : Hp} {a dx C : Addr} {w : V} (h1 : H a = none) (h2 : upd H a (exo a C none) dx = none) (ne : dx ≠ a) :
    upd (del (upd (upd (upd H a (exo a C none)) dx (exd dx [(kWhat, w)])) a (exo a C (some dx))) a) dx (.xd [(kWhat, w)]) = upd H dx (.xd [(kWhat, w)]) := by
  funext b
  by_cases hb : b = dx
  · rw [hb, upd_same, upd_same]
  · rw [upd_ne hb, upd_ne hb]
    by_cases ha : b = a
    · rw [ha, del_same, h1]
    · rw [del_ne ha, upd_ne ha, upd_ne hb, upd_ne ha]
theorem s_raise {fI : Addr} {fdI : FuncData} {te : TED} {pos2 : Pos} (hc : X.calm = true) (tk : Takes X W) (T : RefC X.K fI C) (tI : PySem.W.typeIn X.K (.ref fI) = some (.type "function"))
    (F1 : FnOk X.prog X.w X.K X.mg X.base CX0 k fI fdI ["self", kWhat] (spRI X.K)) (hr : Room (k + 1) X.A) (hb : Binds X.K fdI ["self", kWhat] []) (hg : Gl X x) (hm : X.mg x = some (.ref C)) (he : JE X W e te)
    (hdb : (x == ("__debug__" : Str)) = false := by decide) (hst : starEach (e :: []) X.env = (false, eval e X.env) :: starEach [] X.env := by rfl) (hpl : (backTo pos (starEach [] X.env)).any (·.1) = false := by rfl) :
    JS X W (.Raise (some (.Call (.Name x p) [e] [] pos)) none pos2) (dRaise C te) :=
  ps_imp (ps_raise hc tk (pmk_oex T.ox T.ini tI F1 hr hb .nil pass0 hg hm (pa_cons he pa_nil hst) hdb hst hpl)) fun D σ H ⟨N, ρ, M, D0, er, o, q, l⟩ => by
    refine ⟨N, ρ, M, _, _, er, o, q, fun d v M1 H1 f1 o1 r1 q1 => ⟨by simp, fun a ha => ⟨a, C, v, rfl, upd_same, T.ox, T.no, fun dx hdx ne => ⟨rfl, dx, [(kWhat, v)], upd_same, ?_, ?_, ?_⟩⟩⟩, l.raise er⟩
    · rw [upd_ne ne, upd_same]
    · rw [upd_ne ne] at hdx; exact hdx
    · rw [raise_heap ha hdx ne]
      have hd1 : H1 dx = none := by rw [upd_ne ne] at hdx; exact hdx
      exact l.rz C d dx ρ σ M1 _ (f1.trans (Fr.new hd1)) (o1.new hd1) ((er.mono f1).mono (Fr.new hd1)) ⟨v, upd_same, o1.no hd1, r1.mono (Fr.new hd1)⟩ q1
end
end DL

set_option Elab.async false
set_option maxRecDepth 100000
set_option maxHeartbeats 4000000
/-! try .. except X as e: .. except Y as e: .. -/
namespace L2
open PySem PySem.Spec PyProof.Rows
def wManyA (K : PySem.W.Frag) (Wout : WX) (D : Ends) : List (Value × Option Nat × (Addr → Value → Option Addr → TS)) → WX
  | [] => Wout
  | (c, none, ts) :: r => fun cls d σ H => ∃ b, PySem.W.exmOne K cls c = some b ∧ (b = true → ∀ a, H a = none → ts a cls d D σ H) ∧ (b = false → wManyA K Wout D r cls d σ H)
  | (c, some i, ts) :: r => fun cls d σ H => ∃ b, PySem.W.exmOne K cls c = some b ∧ (b = true → ∀ a, H a = none → ts a cls d { nx := fun σ' H' => D.nx (σ'.set i none) H', rt := D.rt, bk := fun σ' H' => D.bk (σ'.set i none) H', ct := fun σ' H' => D.ct (σ'.set i none) H' } (σ.set i (some (.ref a))) H) ∧
      (b = false → wManyA K Wout D r cls d σ H)
inductive HdsOkA (X : Cx) : List ExceptHandler → List (Value × Option Nat × (Addr → Value → Option Addr → TS)) → Prop
  | nil : HdsOkA X [] []
  | cons {x : Str} {c : Value} {ts : Addr → Value → Option Addr → TS} {b₀ : Stmt} {suite : List Stmt} {np pos' : Pos} {hds : List ExceptHandler} {l : List (Value × Option Nat × (Addr → Value → Option Addr → TS))} (hc : Names X x c)
      (hsu : ∀ (a : Addr) (oe : Obj) (cls : Value) (d : Option Addr) (pn : List (Addr × Obj)), Zc cls d oe → (∃ vs, oe.data = .fields vs) → PSs (X.suite a ((a, oe) :: pn)) (b₀ :: suite) (ts a cls d)) (r : HdsOkA X hds l) :
      HdsOkA X (.ExceptHandler (some (.Name x np)) none (b₀ :: suite) pos' :: hds) ((c, none, ts) :: l)
  | consAs {x n : Str} {i : Nat} {c : Value} {ts : Addr → Value → Option Addr → TS} {b₀ : Stmt} {suite : List Stmt} {np pos' : Pos} {hds : List ExceptHandler} {l : List (Value × Option Nat × (Addr → Value → Option Addr → TS))} (hN : X.N.Nodup) (hi : X.N[i]? = some n) (hln : X.env.kindOf n = some .local) (hc : Names X x c)
      (hsu : ∀ (a : Addr) (oe : Obj) (cls : Value) (d : Option Addr) (pn : List (Addr × Obj)), Zc cls d oe → (∃ vs, oe.data = .fields vs) → PSs (X.suite a ((a, oe) :: pn)) (b₀ :: suite) (ts a cls d)) (r : HdsOkA X hds l) :
      HdsOkA X (.ExceptHandler (some (.Name x np)) (some n) (b₀ :: suite) pos' :: hds) ((c, some i, ts) :: l)
section
variable {X : Cx} {body : List Stmt} {h₀ : ExceptHandler} {hds : List ExceptHandler} {l : List (Value × Option Nat × (Addr → Value → Option Addr → TS))} {pos : Pos} {tb : WX → TS} {Wout : WX}
theorem ps_try_manyA (hs : X.stack = X.env :: X.outer) (hf : X.env.frame = some X.env.locals) (tk : Takes X Wout)
    (hb : ∀ (W : WX) (pn : List (Addr × Obj)) (xe : Value → Shared → Prop), Takes (X.tr pn xe) W → PassesOwn (model X.prog X.w) X.A X.env xe → PSs (X.tr pn xe) body (tb W))
    (hh : HdsOkA X (h₀ :: hds) l) : PS X (.Try body (h₀ :: hds) [] [] pos) (fun D σ H => tb (wManyA X.K Wout D l) D σ H) := by
  refine ⟨fun pins s σ H D I h => ?_⟩
  have ok := I.ok
  have hfr : X.A.frames = some (X.env :: X.outer) := by rw [ok.frames, hs]
  refine wpAny_Try_except ?_
  refine wpAny_mono ((hb (wManyA X.K Wout D l) (X.pn ++ pins) (fun e s₁ => wpAny (model X.prog X.w) X.A (noteFrame e X.env) (fun _ s₂ => wpAny (model X.prog X.w) X.A (setFlight e none) (fun _ s₃ =>
    wpAny (model X.prog X.w) X.A (handleBy e X.env (h₀ :: hds)) (SP X pins D) X.xe s₃) X.xe s₂) X.xe s₁) (fun u s' xx => ?_) PassesOwn.looking).run [] s σ H D (I.toTry _) h) (fun f s1 hsp => ?_) (fun e s1 he => he)
  · -- the catch
    obtain ⟨a, B, sI, pins', σ', H', cls, d, rfl, J', nb, up, sky, na, os, ag, w⟩ := xx
    have J : Inv X pins σ' H' sI := J'.ofTry ok
    have sky' : Sky B (X.env :: X.outer) a (Zc cls d) X.env.locals s'.heap := by rw [← hs]; exact sky
    show wpAny (model X.prog X.w) X.A (noteFrame (.ref a) X.env) _ _ _
    refine Sky.land Zc.steady hfr hf sky' fun h3 fl3 up3 => ?_
    have J3 : Inv X pins σ' H' { s' with heap := h3 } := J.landed nb fl3.1 (up.trans up3) os ag
    obtain ⟨oe3, vs3, he3, hz3, hd3⟩ := fl3.there
    have notFr : ∀ {h : Heap} {o : Obj} {vs : Array Value}, h.FunFrames B (X.env :: X.outer) → h.get? a = some o → o.data = .fields vs → a ∉ frs (X.env :: X.outer) := fun {h o vs} ff e dd hm => by
      obtain ⟨_, o', e', hnf⟩ := ff.mem hm
      rw [e] at e'; cases e'
      exact hnf _ dd
    have nfr := notFr fl3.2.2.1 he3 hd3
    have nL : a ≠ X.env.locals := fun z => nfr (List.mem_filterMap.mpr ⟨X.env, List.mem_cons_self, by rw [hf, z]⟩)
    have nF : a ∉ X.fs := fun hm => by
      obtain ⟨e, he, q⟩ := List.mem_filterMap.mp hm
      exact nfr (List.mem_filterMap.mpr ⟨e, List.mem_cons_of_mem _ he, q⟩)
    have S3 := J3.suite he3 hd3 na nL nF
    have LT : PySem.W.Looks (model X.prog X.w) h3 (typeOf (.ref a)) cls := fun A Q E s k q => wpAny_typeOf_ref (k _ _ he3) (by rw [hz3.1]; exact q)
    have test : ∀ {x : Str} {c : Value} {np : Pos}, Names X x c → ∀ {Q : Value → Shared → Prop} {E : Value → Shared → Prop}, Q c { s' with heap := h3 } → wpAny (model X.prog X.w) (X.A.mark (some (.ref a))) (eval (.Name x np) X.env) Q E { s' with heap := h3 } := fun {x c np} hc {Q E} q => by
      obtain ⟨hg, hdbg, hm | ⟨hm, hv, hnn⟩⟩ := hc
      · exact ld_glob (X := X.suite a ((a, oe3) :: (X.pn ++ pins))) S3 hg hm q hdbg
      · exact ld_blt (X := X.suite a ((a, oe3) :: (X.pn ++ pins))) S3 hg hm hv q hnn hdbg
    have go : ∀ {hds' : List ExceptHandler} {l' : List (Value × Option Nat × (Addr → Value → Option Addr → TS))}, HdsOkA X hds' l' → wManyA X.K Wout D l' cls d σ' H' →
        wpAny (model X.prog X.w) X.A (handleBy (.ref a) X.env hds') (SP X pins D) X.xe { s' with heap := h3 } := by
      intro hds' l' hk
      induction hk with
      | nil =>
        intro w
        refine wpAny_handleBy_nil ?_
        obtain ⟨k1, k2, k3, oe, vs, T, oT, ts', he, hz, hd, h1, hr⟩ := id fl3
        unfold PySem.passOn
        refine wpAny_bind (wpAny_field he hd h1 ?_)
        rw [if_neg (show ¬ ((Value.ref T == Value.none) = true) from by simp)]
        have fin : wpAny (model X.prog X.w) X.A (setFlight (.ref a) X.env.frame) (fun _ s4 => wpAny (model X.prog X.w) X.A (throw (.ref a) : Sem Flow) (SP X pins D) X.xe s4) X.xe { s' with heap := h3 } := by
          rw [hf]
          refine HandSPX.setFlight_upZ fl3 fun h4 hh4 up4 => wpAny_throw (tk _ _ ?_)
          exact ⟨a, B, sI, pins, σ', H', cls, d, rfl, J, nb, (up.trans up3).trans up4, .inr (.inr (by rw [hs]; exact hh4)), na, os, ag, w⟩
        first
          | exact wpAny_bind (wpAny_pure (wpAny_bind fin))
          | exact wpAny_bind fin
      | @cons x c ts b₀ suite np pos' hds2 l2 hc hsu r ih =>
        intro w
        obtain ⟨b, hb1, hyes, hno⟩ := w
        refine wpAny_handleBy_cons (codeAny_handlers_test ?_) (by intro q; cases q)
        have LM := PySem.W.exm_one (M := model X.prog X.w) (J3.kIn) LT hb1
        refine test hc (LM.here ?_)
        cases b with
        | true =>
          refine codeAny_handlers_suite ?_
          refine HandSPX.lands_againZ fl3 fun h4 fl4 up4 => ?_
          have J4 : Inv X pins σ' H' { s' with heap := h4 } := J.landed nb fl4.1 ((up.trans up3).trans up4) os ag
          obtain ⟨oe4, vs4, he4, hz4, hd4⟩ := fl4.there
          have S4 := J4.suite he4 hd4 na nL nF
          refine wpAny_mono ((hsu a oe4 cls d (X.pn ++ pins) hz4 ⟨_, hd4⟩).run [] _ _ H' _ S4 (hyes rfl a na)) (fun f s6 hsp => ?_) (fun _ _ z => False.elim z)
          cases f with
          | next => obtain ⟨σ6, H6, S6, q6⟩ := hsp; exact ⟨_, _, S6.unsuite ok, q6⟩
          | brk => obtain ⟨σ6, H6, S6, q6⟩ := hsp; exact ⟨_, _, S6.unsuite ok, q6⟩
          | cont => obtain ⟨σ6, H6, S6, q6⟩ := hsp; exact ⟨_, _, S6.unsuite ok, q6⟩
          | ret u => obtain ⟨v6, σ6, H6, S6, r6, q6⟩ := hsp; exact ⟨_, _, _, S6.unsuite ok, r6, q6⟩
        | false =>
          show wpAny _ X.A (handleBy (.ref a) X.env hds2) _ _ _
          exact ih (hno rfl)
      | @consAs x n i c ts b₀ suite np pos' hds2 l2 hN hi hln hc hsu r ih =>
        intro w
        obtain ⟨b, hb1, hyes, hno⟩ := w
        refine wpAny_handleBy_cons (codeAny_handlers_test ?_) (by intro q; cases q)
        have LM := PySem.W.exm_one (M := model X.prog X.w) (J3.kIn) LT hb1
        refine test hc (LM.here ?_)
        cases b with
        | true =>
          refine codeAny_handlers_suite_as ?_
          refine HandSPX.lands_againZ fl3 fun h4 fl4 up4 => ?_
          have J4 : Inv X pins σ' H' { s' with heap := h4 } := J.landed nb fl4.1 ((up.trans up3).trans up4) os ag
          obtain ⟨oe4, vs4, he4, hz4, hd4⟩ := fl4.there
          have S4 := J4.suite he4 hd4 na nL nF
          refine store_ok (X := X.suite a ((a, oe4) :: (X.pn ++ pins))) (v := .ref a) S4 hN hi (.inl hln) rfl (fun s5 S5 => ?_) (.inr hln)
          refine wpAny_mono ((hsu a oe4 cls d (X.pn ++ pins) hz4 ⟨_, hd4⟩).run [] s5 _ H' _ S5 (hyes rfl a na)) (fun f s6 hsp => ?_) (fun _ _ z => False.elim z)
          have end_ : ∀ {σ6 : St} {H6 : Hp} {Q : Shared → Prop}, Inv (X.suite a ((a, oe4) :: (X.pn ++ pins))) [] σ6 H6 s6 → (∀ s7, Inv X pins (σ6.set i none) H6 s7 → Q s7) →
              wpAny (model X.prog X.w) X.A (do bindName X.env n .none; unbindBehindTheSuite X.env n pos') (fun _ s7 => Q s7) X.xe s6 := fun {σ6 H6 Q} S6 hq => gone_ok (S6.unsuite ok) hN hi hln hq
          cases f with
          | next => obtain ⟨σ6, H6, S6, q6⟩ := hsp; exact end_ S6 fun s7 J7 => ⟨_, _, J7, q6⟩
          | brk => obtain ⟨σ6, H6, S6, q6⟩ := hsp; exact end_ S6 fun s7 J7 => ⟨_, _, J7, q6⟩
          | cont => obtain ⟨σ6, H6, S6, q6⟩ := hsp; exact end_ S6 fun s7 J7 => ⟨_, _, J7, q6⟩
          | ret u => obtain ⟨v6, σ6, H6, S6, r6, q6⟩ := hsp; exact end_ S6 fun s7 J7 => ⟨_, _, _, J7, r6, q6⟩
        | false =>
          show wpAny _ X.A (handleBy (.ref a) X.env hds2) _ _ _
          exact ih (hno rfl)
    exact go hh w
  · cases f with
    | next => obtain ⟨σ', H', J', q⟩ := hsp; exact wpAny_execs_nil ⟨σ', H', J'.ofTry ok, q⟩
    | brk => obtain ⟨σ', H', J', q⟩ := hsp; exact ⟨σ', H', J'.ofTry ok, q⟩
    | cont => obtain ⟨σ', H', J', q⟩ := hsp; exact ⟨σ', H', J'.ofTry ok, q⟩
    | ret u => obtain ⟨v, σ', H', J', r, q⟩ := hsp; exact ⟨v, σ', H', J'.ofTry ok, r, q⟩
end
end L2

namespace DL
open PySem PySem.Spec L2
open PyProof.Rows (envOfC)
/-- the clauses: the class, the slot of its name, the suite (by where the error stands, its dict, its class) -/
abbrev Hd := Addr × Option Nat × (Addr → Addr → Addr → TSD)
def dHand (exm : Addr → Addr → Option Bool) (D0 : EndsD) (C : Addr) (d : D) : List Hd → Rho → MS → Prop
  | [], ρ, M => D0.rz C d ρ M
  | (c, none, ts) :: r, ρ, M => ∃ b, exm C c = some b ∧ (b = true → ∀ a dx, ts a dx C { D0 with rz := fun _ _ _ _ => False } ρ M) ∧ (b = false → dHand exm D0 C d r ρ M)
  | (c, some i, ts) :: r, ρ, M => ∃ b, exm C c = some b ∧ (b = true → ∀ a dx, ts a dx C { nx := fun ρ' M' => D0.nx (ρ'.set i none) M', rt := D0.rt, bk := fun ρ' M' => D0.bk (ρ'.set i none) M', ct := fun ρ' M' => D0.ct (ρ'.set i none) M' } (ρ.set i (some (.exc a dx C d))) M) ∧
      (b = false → dHand exm D0 C d r ρ M)
def dTry (exm : Addr → Addr → Option Bool) (tb : TSD) (hs : List Hd) : TSD := fun D ρ M => tb { D with rz := fun C d ρ' M' => dHand exm D C d hs ρ' M' } ρ M
def lH (K : PySem.W.Frag) (ts : Addr → Addr → Addr → TSD) : Addr → Value → Option Addr → TS := fun a cls d D σ H => ∃ C dx, cls = .ref C ∧ d = some dx ∧ lS K W0 (ts a dx C) D σ H
def lHs (K : PySem.W.Frag) (hs : List Hd) : List (Value × Option Nat × (Addr → Value → Option Addr → TS)) := hs.map fun h => (.ref h.1, h.2.1, lH K h.2.2)
abbrev exmK (K : PySem.W.Frag) : Addr → Addr → Option Bool := fun C c => PySem.W.exmOne K (.ref C) (.ref c)
section
variable {X : Cx} {W : WX}
theorem hand_read {K : PySem.W.Frag} {N : Addr → Prop} {H H' : Hp} {M M' : MS} {D0 : EndsD} {D1 : Ends} {C dx : Addr} {d : D} {ρ' : Rho} {σ' : L2.St} (l : LD ⟨K, N⟩ W H M D0 D1) (f : Fr H M H' M') (o : Own ⟨K, N⟩ H' M') (e : EnvR ⟨K, N⟩ H' M' ρ' σ') (xa : ExcAt ⟨K, N⟩ H' M' dx d) :
    ∀ hs : List Hd, dHand (exmK K) D0 C d hs ρ' M' → wManyA K W D1 (lHs K hs) (.ref C) (some dx) σ' H'
  | [], q => l.rz C d dx ρ' σ' M' H' f o e xa q
  | (c, none, ts) :: r, ⟨b, h1, h2, h3⟩ => by
    have l' := l.mono f
    exact ⟨b, h1, fun hb a ha => ⟨C, dx, rfl, rfl, N, ρ', M', _, e, o, h2 hb a dx, l'.nx, l'.rt, l'.bk, l'.ct, fun _ _ _ _ _ _ _ _ _ _ _ z => z⟩, fun hb => hand_read l f o e xa r (h3 hb)⟩
  | (c, some i, ts) :: r, ⟨b, h1, h2, h3⟩ => by
    have l' := l.mono f
    obtain ⟨v, hx, hm, rv⟩ := xa
    refine ⟨b, h1, fun hb a ha => ⟨C, dx, rfl, rfl, N, _, M', _, e.set (Rep.exc (a := a) (C := C) hx hm rv) i, o, h2 hb a dx, ?_, l'.rt, ?_, ?_, fun _ _ _ _ _ _ _ _ _ _ _ z => z⟩, fun hb => hand_read l f o e ⟨v, hx, hm, rv⟩ r (h3 hb)⟩
    · exact fun ρ2 σ2 M2 H2 f2 o2 e2 q2 => l'.nx _ _ M2 H2 f2 o2 (e2.clear i) q2
    · exact fun ρ2 σ2 M2 H2 f2 o2 e2 q2 => l'.bk _ _ M2 H2 f2 o2 (e2.clear i) q2
    · exact fun ρ2 σ2 M2 H2 f2 o2 e2 q2 => l'.ct _ _ M2 H2 f2 o2 (e2.clear i) q2
/-- the clauses, over data -/
inductive HsOk (X : Cx) : List ExceptHandler → List Hd → Prop
  | nil : HsOk X [] []
  | cons {x : Str} {c : Addr} {ts : Addr → Addr → Addr → TSD} {b₀ : Stmt} {suite : List Stmt} {np pos' : Pos} {hds : List ExceptHandler} {l : List Hd} (hc : Names X x (.ref c))
      (hsu : ∀ (a : Addr) (oe : Obj) (C dx : Addr) (pn : List (Addr × Obj)), Zc (.ref C) (some dx) oe → (∃ vs, oe.data = .fields vs) → JB (X.suite a ((a, oe) :: pn)) W0 (b₀ :: suite) (ts a dx C)) (r : HsOk X hds l) :
      HsOk X (.ExceptHandler (some (.Name x np)) none (b₀ :: suite) pos' :: hds) ((c, none, ts) :: l)
  | consAs {x n : Str} {i : Nat} {c : Addr} {ts : Addr → Addr → Addr → TSD} {b₀ : Stmt} {suite : List Stmt} {np pos' : Pos} {hds : List ExceptHandler} {l : List Hd} (hN : X.N.Nodup) (hi : X.N[i]? = some n) (hln : X.env.kindOf n = some .local) (hc : Names X x (.ref c))
      (hsu : ∀ (a : Addr) (oe : Obj) (C dx : Addr) (pn : List (Addr × Obj)), Zc (.ref C) (some dx) oe → (∃ vs, oe.data = .fields vs) → JB (X.suite a ((a, oe) :: pn)) W0 (b₀ :: suite) (ts a dx C)) (r : HsOk X hds l) :
      HsOk X (.ExceptHandler (some (.Name x np)) (some n) (b₀ :: suite) pos' :: hds) ((c, some i, ts) :: l)
theorem HsOk.ok {hds : List ExceptHandler} {l : List Hd} (h : HsOk X hds l) : HdsOkA X hds (lHs X.K l) := by
  have lift : ∀ {b : List Stmt} {ts : Addr → Addr → Addr → TSD}, (∀ (a : Addr) (oe : Obj) (C dx : Addr) (pn : List (Addr × Obj)), Zc (.ref C) (some dx) oe → (∃ vs, oe.data = .fields vs) → JB (X.suite a ((a, oe) :: pn)) W0 b (ts a dx C)) →
      ∀ (a : Addr) (oe : Obj) (cls : Value) (d : Option Addr) (pn : List (Addr × Obj)), Zc cls d oe → (∃ vs, oe.data = .fields vs) → PSs (X.suite a ((a, oe) :: pn)) b (lH X.K ts a cls d) := fun {b ts} hsu a oe cls d pn hz hf =>
    ⟨fun pins s σ H D I ⟨C, dx, e1, e2, q⟩ => by subst e1 e2; exact (hsu a oe C dx pn hz hf).run pins s σ H D I q⟩
  induction h with
  | nil => exact .nil
  | cons hc hsu r ih => exact .cons hc (lift hsu) ih
  | consAs hN hi hln hc hsu r ih => exact .consAs hN hi hln hc (lift hsu) ih
theorem s_try {body : List Stmt} {h₀ : ExceptHandler} {hds : List ExceptHandler} {l : List Hd} {pos : Pos} {tb : TSD} (hs : X.stack = X.env :: X.outer) (hf : X.env.frame = some X.env.locals) (tk : Takes X W)
    (hb : ∀ (W' : WX) (pn : List (Addr × Obj)) (xe : Value → Shared → Prop), Takes (X.tr pn xe) W' → PassesOwn (model X.prog X.w) X.A X.env xe → JB (X.tr pn xe) W' body tb)
    (hh : HsOk X (h₀ :: hds) l) : JS X W (.Try body (h₀ :: hds) [] [] pos) (dTry (exmK X.K) tb l) :=
  ps_imp (ps_try_manyA (tb := fun W' => lS X.K W' tb) hs hf tk hb hh.ok) fun D σ H ⟨N, ρ, M, D0, er, o, q, ld⟩ => ⟨N, ρ, M, _, er, o, q, ld.nx, ld.rt, ld.bk, ld.ct, fun C d dx ρ' σ' M' H' f o' e' xa hd => hand_read ld f o' e' xa l hd⟩
/-- e.what, e the error that the suite holds -/
def dWhat (Xf : Addr → Prop) (a dx C : Addr) (t : TED) : TED := fun ρ M Q R => Xf C ∧ t ρ M (fun d M1 => ∃ w, d = .exc a dx C w ∧ Q w M1) R
theorem e_what {Xf : Addr → Prop} {a dx C : Addr} {oe : Obj} {pn : List (Addr × Obj)} {e : Expr} {t : TED} {pos : Pos} (hX : ∀ C, Xf C → XfC X.K C ∧ PySem.W.findIn X.K (.ref C) kWhat = some none) (hz : Zc (.ref C) (some dx) oe) (hf : ∃ vs, oe.data = .fields vs)
    (he : JE (X.suite a ((a, oe) :: pn)) W e t) (hb : attributeBase e kWhat X.env (eval e X.env) = eval e X.env := by rfl) : JE (X.suite a ((a, oe) :: pn)) W (.Attribute e kWhat pos) (dWhat Xf a dx C t) := by
  refine ⟨fun pins s σ H Q I ⟨N, ρ, M, Qd, R, er, o, ⟨hc, q⟩, k, x⟩ => ?_⟩
  obtain ⟨h1, h2⟩ := hX C hc
  refine (pe_xf h1 h2 hz hf he hb).run pins s σ H Q I ⟨N, ρ, M, _, R, er, o, q, fun d v M1 H1 f1 o1 r1 ⟨w, ed, q1⟩ => ?_, x⟩
  subst ed
  cases r1 with
  | exc e1 e2 e3 => exact ⟨rfl, rfl, dx, _, _, rfl, e1, by simp [List.lookup], k w _ M1 H1 f1 o1 e3 q1⟩
end
end DL

set_option Elab.async false
set_option maxRecDepth 100000
set_option maxHeartbeats 4000000
/-! The data layer: subscripts, slices, built-ins, methods of lists. -/
namespace DL
open PySem PySem.Spec L2
section
variable {X : Cx} {W : WX}
/-! ### x[i] -/
theorem Reps.at_ {K : KN} {H : Hp} {M : MS} {ds : List D} {vs : List V} {i : Int} {d : D} (r : Reps K H M ds vs) (e : atI ds i = some d) : ∃ v, atI vs i = some v ∧ Rep K H M d v := by
  unfold atI at e ⊢
  rw [← r.length]
  cases q : ixN ds.length i with
  | none => rw [q] at e; cases e
  | some j => rw [q] at e; exact r.get e
def gIx : F2 := fun x y M Q => (∃ ds k d, asQ M x = some ds ∧ y = .int k ∧ atI ds k = some d ∧ Q d M) ∨ ∃ d, DLook M y x (some d) ∧ Q d M
theorem ix_all (hu : X.A.units + 1 < cLine) : IxR X (lR X.K gIx) := by
  intro value slice pins s σ H x y v u Q I rx ry ⟨N, M, d, e, Qd, o, r1, r2, g, k⟩ hs
  rcases g with ⟨ds, i, d', h1, h2, h3, q⟩ | ⟨d', l, q⟩
  · subst h2
    cases r2
    obtain ⟨a, vs, e1, e2, e3⟩ := r1.asQ o h1
    subst e1
    obtain ⟨w, hw, rw'⟩ := e3.at_ h3
    rcases e2 with e2 | e2
    · exact ix_list value slice pins s σ H _ _ v u Q I rx ry ⟨a, vs, i, w, rfl, rfl, e2, hw, k _ _ M H (Fr.refl _ _) o rw' q⟩ hs
    · exact ix_tup value slice pins s σ H _ _ v u Q I rx ry ⟨a, vs, i, w, rfl, rfl, e2, hw, k _ _ M H (Fr.refl _ _) o rw' q⟩ hs
  · obtain ⟨a, ov, e1, g, h1, _⟩ := l.get o r2 r1
    subst e1
    obtain ⟨w, ew, rw'⟩ := h1 d' rfl
    subst ew
    obtain rfl : v = Value.ref a := rx
    exact PyProof.Rows.tail_any (dict_typeIs I g) PySem.F.slot_dict_getitem.lookup (d_getItem hu I g ry fun w' s3 I3 rw3 => ⟨w, H, I3, rw3, k _ _ M H (Fr.refl _ _) o rw' q⟩) hs
theorem e_ix {a b : Expr} {ta tb : TED} {pos : Pos} (hu : X.A.units + 1 < cLine) (ha : JE X W a ta) (hb : JE X W b tb) (hs : PlainIx b) : JE X W (.Subscript a b pos) (dBin gIx ta tb) :=
  pe_imp (pe_ix (ix_all hu) ha hb hs) fun σ H Q ⟨N, ρ, M, Qd, R, er, o, q, k, x⟩ =>
    ⟨N, ρ, M, _, R, er, o, q, fun d v M1 H1 f1 o1 r1 q1 =>
      ⟨N, ρ, M1, _, R, er.mono f1, o1, q1, fun e u M2 H2 f2 o2 r2 q2 => ⟨N, M2, d, e, Qd, o2, r1.mono f2, r2, q2, KE.mono (f1.trans f2) k⟩, x.mono f1⟩, x⟩
/-! ### x[i:j] -/
abbrev TOD := Rho → MS → (Option Int → MS → Prop) → RK → Prop
def lO (F : PySem.W.Frag) (W : WX) (t : TOD) : TO := fun σ H Q => ∃ N ρ M Qd R, EnvR ⟨F, N⟩ H M ρ σ ∧ Own ⟨F, N⟩ H M ∧ t ρ M Qd R ∧ (∀ b M' H', Fr H M H' M' → Own ⟨F, N⟩ H' M' → Qd b M' → Q b H') ∧ LR ⟨F, N⟩ W H M σ R
abbrev JO (X : Cx) (W : WX) (e : Option Expr) (t : TOD) : Prop := PO X e (lO X.K W t)
theorem po_imp {e : Option Expr} {t t' : TO} (h : PO X e t) (i : ∀ σ H Q, t' σ H Q → t σ H Q) : PO X e t' := ⟨fun pins s σ H Q I q => h.run pins s σ H Q I (i σ H Q q)⟩
def dNoPart : TOD := fun _ M Q _ => Q none M
def dPart (t : TED) : TOD := fun ρ M Q R => t ρ M (fun d M1 => ∃ i, d = .int i ∧ Q (some i) M1) R
theorem o_none : JO X W none dNoPart := po_imp po_none fun σ H Q ⟨N, ρ, M, Qd, R, er, o, q, k, x⟩ => k none M H (Fr.refl _ _) o q
theorem o_some {e : Expr} {t : TED} (h : JE X W e t) : JO X W (some e) (dPart t) := po_imp (po_some h) fun σ H Q ⟨N, ρ, M, Qd, R, er, o, q, k, x⟩ =>
  ⟨N, ρ, M, _, R, er, o, q, fun d v M1 H1 f1 o1 r1 ⟨i, e, q1⟩ => by subst e; cases r1; exact ⟨i, rfl, k (some i) M1 H1 f1 o1 q1⟩, x⟩
def cutD (xs : List D) (lo hi : Option Int) : List D := (xs.drop (HT.sIx xs.length 0 lo)).take (HT.sIx xs.length xs.length hi - HT.sIx xs.length 0 lo)
theorem Reps.cut {K : KN} {H : Hp} {M : MS} {ds : List D} {vs : List V} (r : Reps K H M ds vs) (lo hi : Option Int) : Reps K H M (cutD ds lo hi) (cutV vs lo hi) := by
  unfold cutD cutV
  rw [r.length]
  exact (r.drop _).take _
theorem cutD_whole {ds : List D} {lo hi : Option Int} (h : HT.sIx ds.length 0 lo = 0 ∧ HT.sIx ds.length ds.length hi = ds.length) : cutD ds lo hi = ds := by
  unfold cutD; rw [h.1, h.2]; simp
def gSlice (x : D) (lo hi : Option Int) (M : MS) (Q : QD) : Prop := (∃ ds, asT x = some ds ∧ isTupD x = true ∧ Q (.tup (cutD ds lo hi)) M ∧ (∀ es, x = .ktup es → Q x M)) ∨ ∃ ds, asL M x = some ds ∧ Q (.lst (cutD ds lo hi)) M
def lSl (F : PySem.W.Frag) : V → Option Int → Option Int → Hp → VK → Prop := fun x lo hi H Q => ∃ N M d Qd, Own ⟨F, N⟩ H M ∧ Rep ⟨F, N⟩ H M d x ∧ gSlice d lo hi M Qd ∧ KE ⟨F, N⟩ H M Qd Q
theorem sl_all : SlR X (lSl X.K) := by
  intro pins s σ H x v vl vu lo hi sl Q I rx hs pl pu ⟨N, M, d, Qd, o, r, g, k⟩
  rcases g with ⟨ds, h1, h2, q, qk⟩ | ⟨ds, h1, q⟩
  · cases r with
    | tup t rs =>
      simp [asT] at h1; subst h1
      refine sl_tupA pins s σ H _ v vl vu lo hi sl Q I rx hs pl pu ⟨_, _, rfl, TupAt.sq (K := ⟨X.K, N⟩) t, fun hw => ?_, fun hw p hp => KE.new k o hp q (Rep.tupNew o hp (rs.cut lo hi))⟩
      rw [← rs.length] at hw
      rw [cutD_whole hw] at q
      exact k _ _ M H (Fr.refl _ _) o (.tup t rs) q
    | ktup t rs =>
      simp [asT] at h1; subst h1
      refine sl_tupA pins s σ H _ v vl vu lo hi sl Q I rx hs pl pu ⟨_, _, rfl, t.sq, fun hw => ?_, fun hw p hp => KE.new k o hp q (Rep.tupNew o hp (rs.cut lo hi))⟩
      exact k _ _ M H (Fr.refl _ _) o (.ktup t rs) (qk _ rfl)
    | _ => simp [isTupD] at h2
  · obtain ⟨a, vs, e1, e2, e3⟩ := r.asL o h1
    subst e1
    exact sl_list pins s σ H _ v vl vu lo hi sl Q I rx hs pl pu ⟨a, vs, rfl, .inl (.inl e2), fun p hp => KE.new k o hp q (Rep.lstNew o hp (e3.cut lo hi))⟩
def dSlice (t : TED) (lo hi : TOD) : TED := fun ρ M Q R => t ρ M (fun d M1 => lo ρ M1 (fun l M2 => hi ρ M2 (fun h M3 => gSlice d l h M3 Q) R) R) R
theorem e_slice {e : Expr} {lo hi : Option Expr} {t : TED} {tl th : TOD} {p2 pos : Pos} (he : JE X W e t) (hl : JO X W lo tl) (hh : JO X W hi th) : JE X W (.Subscript e (.Slice lo hi none p2) pos) (dSlice t tl th) :=
  pe_imp (pe_slice sl_all he hl hh) fun σ H Q ⟨N, ρ, M, Qd, R, er, o, q, k, x⟩ =>
    ⟨N, ρ, M, _, R, er, o, q, fun d v M1 H1 f1 o1 r1 q1 => ⟨N, ρ, M1, _, R, er.mono f1, o1, q1, fun l M2 H2 f2 o2 q2 =>
      ⟨N, ρ, M2, _, R, (er.mono f1).mono f2, o2, q2, fun h M3 H3 f3 o3 q3 => ⟨N, M3, d, Qd, o3, (r1.mono f2).mono f3, q3, KE.mono ((f1.trans f2).trans f3) k⟩, (x.mono f1).mono f2⟩, x.mono f1⟩, x⟩

/-! ### built-ins by name -/
abbrev GB := List D → MS → QD → Prop
def lC (F : PySem.W.Frag) (g : GB) : List V → Hp → VK → Prop := fun vs H Q => ∃ N M ds Qd, Own ⟨F, N⟩ H M ∧ Reps ⟨F, N⟩ H M ds vs ∧ g ds M Qd ∧ KE ⟨F, N⟩ H M Qd Q
abbrev CallD (X : Cx) (f : Value) (g : GB) : Prop := CallR X f (lC X.K g)
def dB (g : GB) (t : TAD) : TED := fun ρ M Q R => t ρ M (fun ds M1 => g ds M1 Q) R
theorem b_read {F : PySem.W.Frag} {g : GB} {ta : TA} {t : TAD} (h : ∀ σ H Q, lA F W t σ H Q → ta σ H Q) : ∀ σ H Q, lE F W (dB g t) σ H Q → tCB (lC F g) ta σ H Q :=
  fun σ H Q ⟨N, ρ, M, Qd, R, er, o, q, k, x⟩ => h σ H _ ⟨N, ρ, M, _, R, er, o, q, fun ds vs M1 H1 f1 o1 r1 q1 => ⟨N, M1, ds, Qd, o1, r1, q1, KE.mono f1 k⟩, x⟩
variable {x : Str} {p pos : Pos} {e : Expr} {es : List Expr} {t : TAD} {id T : String} {g : GB}
theorem e_b (hc : CallD X (.builtin id) g) (hg : Gl X x) (hm : X.mg x = none) (hv : bootBuiltins x = some (.builtin id)) (ha : JA X W (e :: es) t) (hn : x ≠ "__name__" := by decide) (hdb : (x == ("__debug__" : Str)) = false := by decide)
    (he : starEach (e :: es) X.env = (false, eval e X.env) :: starEach es X.env := by rfl) (hpl : (backTo pos (starEach es X.env)).any (·.1) = false := by rfl) : JE X W (.Call (.Name x p) (e :: es) [] pos) (dB g t) :=
  pe_imp (pe_callB hc hg hm hv ha hn hdb he hpl) (b_read fun _ _ _ h => h)
theorem e_ty (hc : CallD X (.type T) g) (hg : Gl X x) (hm : X.mg x = none) (hv : bootBuiltins x = some (.type T)) (ha : JA X W (e :: es) t) (hn : x ≠ "__name__" := by decide) (hdb : (x == ("__debug__" : Str)) = false := by decide)
    (he : starEach (e :: es) X.env = (false, eval e X.env) :: starEach es X.env := by rfl) (hpl : (backTo pos (starEach es X.env)).any (·.1) = false := by rfl) : JE X W (.Call (.Name x p) (e :: es) [] pos) (dB g t) :=
  pe_imp (pe_callTy hc hg hm hv ha hn hdb he hpl) (b_read fun _ _ _ h => h)
/-- a built-in that a module has imported by its name -/
theorem e_bf (hc : CallD X (.builtin id) g) (hg : Gl X x) (hm : X.mg x = some (.builtin id)) (ha : JA X W (e :: es) t) (hdb : (x == ("__debug__" : Str)) = false := by decide)
    (he : starEach (e :: es) X.env = (false, eval e X.env) :: starEach es X.env := by rfl) (hpl : (backTo pos (starEach es X.env)).any (·.1) = false := by rfl) : JE X W (.Call (.Name x p) (e :: es) [] pos) (dB g t) :=
  pe_imp (pe_callBfun hc hg hm ha hdb he hpl) (b_read fun _ _ _ h => h)
def gInt : GB := fun ds M Q => match ds with
  | [.int i] => Q (.int i) M
  | [.bl b] => Q (.int (if b then 1 else 0)) M
  | _ => False
theorem c_int : CallD X (.type "int") gInt := by
  intro pins s σ H vs us Q I r ⟨N, M, ds, Qd, o, rs, g, k⟩
  match ds, rs, g with
  | [.int i], .cons r1 .nil, g => cases r1; exact call_int1 pins s σ H _ us Q I r (.inl ⟨i, rfl, k _ _ M H (Fr.refl _ _) o (.int _) g⟩)
  | [.bl b], .cons r1 .nil, g => cases r1; exact call_int1 pins s σ H _ us Q I r (.inr ⟨b, rfl, k _ _ M H (Fr.refl _ _) o (.int _) g⟩)
def gMax2 : GB := fun ds M Q => ∃ i j, ds = [.int i, .int j] ∧ Q (.int (if j > i then j else i)) M
def gMin2 : GB := fun ds M Q => ∃ i j, ds = [.int i, .int j] ∧ Q (.int (if j < i then j else i)) M
theorem c_max2 (hc : X.calm = true) : CallD X (.builtin "max") gMax2 := by
  intro pins s σ H vs us Q I r ⟨N, M, ds, Qd, o, rs, ⟨i, j, e, q⟩, k⟩
  subst e
  cases rs with | cons r1 rs =>
  cases rs with | cons r2 rs =>
  cases rs; cases r1; cases r2
  exact call_max2 hc pins s σ H _ us Q I r ⟨i, j, rfl, k _ _ M H (Fr.refl _ _) o (.int _) q⟩
theorem c_min2 (hc : X.calm = true) : CallD X (.builtin "min") gMin2 := by
  intro pins s σ H vs us Q I r ⟨N, M, ds, Qd, o, rs, ⟨i, j, e, q⟩, k⟩
  subst e
  cases rs with | cons r1 rs =>
  cases rs with | cons r2 rs =>
  cases rs; cases r1; cases r2
  exact call_min2 hc pins s σ H _ us Q I r ⟨i, j, rfl, k _ _ M H (Fr.refl _ _) o (.int _) q⟩
def gLen : GB := fun ds M Q => ∃ d, ds = [d] ∧ ((∃ xs, asQ M d = some xs ∧ Q (.int xs.length) M) ∨ (∃ ks xs, asDK M d = some (ks, xs) ∧ Q (.int ks.length) M) ∨ ∃ x, d = .str x ∧ x.length ≤ sizeLine ∧ Q (.int x.length) M)
theorem c_len : CallD X (.builtin "len") gLen := by
  intro pins s σ H vs us Q I r ⟨N, M, ds, Qd, o, rs, ⟨d, e, g⟩, k⟩
  subst e
  cases rs with | cons r1 rs =>
  cases rs
  have here : Fr H M H M := Fr.refl _ _
  rcases g with ⟨xs, h1, q⟩ | ⟨ks, xs, h1, q⟩ | ⟨x, h1, h2, q⟩
  · obtain ⟨a, ws, e1, e2, e3⟩ := r1.asQ o h1
    subst e1
    exact call_len_seq pins s σ H _ us Q I r ⟨a, ws, rfl, e2, by rw [← e3.length]; exact k _ _ M H here o (.int _) q⟩
  · obtain ⟨a, ws, e1, e2, e3, e4⟩ := asDK_rep o r1 h1
    subst e1
    exact call_lenD pins s σ H _ us Q I r ⟨a, _, rfl, e2, by rw [List.length_zip, ← e3, Nat.min_self]; exact k _ _ M H here o (.int _) q⟩
  · subst h1
    cases r1
    exact call_len pins s σ H _ us Q I r ⟨_, _, rfl, ⟨h2, rfl⟩, k _ _ M H here o (.int _) q⟩
def gTuple : GB := fun ds M Q => ∃ d, ds = [d] ∧ ((∃ xs, asT d = some xs ∧ Q d M) ∨ ∃ xs, asL M d = some xs ∧ Q (.tup xs) M)
theorem c_tuple : CallD X (.type "tuple") gTuple := by
  intro pins s σ H vs us Q I r ⟨N, M, ds, Qd, o, rs, ⟨d, e, g⟩, k⟩
  subst e
  cases rs with | cons r1 rs =>
  cases rs
  rcases g with ⟨xs, h1, q⟩ | ⟨xs, h1, q⟩
  · cases r1 with
    | tup t r' => exact call_tuple_of pins s σ H _ us Q I r ⟨_, _, rfl, .inr ⟨TupAt.sq (K := ⟨X.K, N⟩) t, k _ _ M H (Fr.refl _ _) o (.tup t r') q⟩⟩
    | ktup t r' => exact call_tuple_of pins s σ H _ us Q I r ⟨_, _, rfl, .inr ⟨t.sq, k _ _ M H (Fr.refl _ _) o (.ktup t r') q⟩⟩
    | _ => simp [asT] at h1
  · obtain ⟨a, ws, e1, e2, e3⟩ := r1.asL o h1
    subst e1
    exact call_tuple_of pins s σ H _ us Q I r ⟨a, ws, rfl, .inl ⟨.inl (.inl e2), fun l hl => KE.new k o hl q (Rep.tupNew o hl e3)⟩⟩
/-- list(xs): fin tells whether it may be changed -/
def gList (fin : Fin) : GB := fun ds M Q => ∃ d xs, ds = [d] ∧ asQ M d = some xs ∧ fin xs M Q
theorem fin_new {fin : Fin} (hf : FinOk fin) {F : PySem.W.Frag} {N : Addr → Prop} {H : Hp} {M : MS} {a : Addr} {acc : List D} {vs : List V} {Qd : QD} {Q : VK} (o : Own ⟨F, N⟩ H M) (ha : H a = none) (r : Reps ⟨F, N⟩ H M acc vs) (q : fin acc M Qd) (k : KE ⟨F, N⟩ H M Qd Q) : Q (.ref a) (upd H a (.lst vs)) := by
  have hHid : Hid N (fun b => N b ∨ b = a) H := fun b z => z.imp_right fun z => by rw [z]; exact ha
  have na : ¬ N a := fun z => by obtain ⟨_, u, e⟩ := o.hid a z; rw [ha] at e; cases e
  have f : Fr H M (upd H a (.lst vs)) M := Fr.new ha
  refine hf F N (fun b => N b ∨ b = a) H _ M M a acc vs Qd Q (fun b z => .inl z) na (.inr rfl) ha f ⟨fun b mo e => ?_, fun b z => ?_⟩ upd_same ((r.hide hHid).mono f) q k
  · exact (OwnAt.hide hHid (o.at_ b mo e)).mono f fun u e' => by rw [upd_ne (ne_of_none e' ha)]; exact e'
  · rcases z with z | z
    · obtain ⟨m, u, e⟩ := o.hid b z
      exact ⟨m, u, by rw [upd_ne (ne_of_none e ha)]; exact e⟩
    · rw [z]; exact ⟨o.no ha, _, upd_same⟩
theorem c_list {fin : Fin} (hf : FinOk fin) : CallD X (.type "list") (gList fin) := by
  intro pins s σ H vs us Q I r ⟨N, M, ds, Qd, o, rs, ⟨d, xs, e, h1, q⟩, k⟩
  subst e
  cases rs with | cons r1 rs =>
  cases rs
  obtain ⟨a, ws, e1, e2, e3⟩ := r1.asQ o h1
  subst e1
  exact call_list_of pins s σ H _ us Q I r ⟨a, ws, rfl, e2, fun l hl => fin_new hf o hl e3 q k⟩
def gGcd : GB := fun ds M Q => ∃ a b, ds = [.int a, .int b] ∧ Q (.int ((Nat.gcd a.natAbs b.natAbs : Nat) : Int)) M
theorem c_gcd : CallD X (.builtin "math.gcd") gGcd := by
  intro pins s σ H vs us Q I r ⟨N, M, ds, Qd, o, rs, ⟨i, j, e, q⟩, k⟩
  subst e
  cases rs with | cons r1 rs =>
  cases rs with | cons r2 rs =>
  cases rs; cases r1; cases r2
  exact cr_gcd pins s σ H _ us Q I r ⟨i, j, rfl, k _ _ M H (Fr.refl _ _) o (.int _) q⟩
/-! ### isinstance -/
/-- a value's class -/
def clsD (M : MS) : D → Option Value
  | .non => some (.type "NoneType")
  | .bl _ => some (.type "bool")
  | .int _ => some (.type "int")
  | .str _ => some (.type "str")
  | .tup _ => some (.type "tuple")
  | .ktup _ => some (.type "tuple")
  | .lst _ => some (.type "list")
  | .ins C _ _ => some (.ref C)
  | _ => none
def clsOfD : D → Option Value
  | .ty n => some (.type n)
  | .ref a => some (.ref a)
  | _ => none
/-- isinstance(x, c); kit tells, of two classes, whether the one stands under the other; Cs: the own classes of whose instances it may be asked -/
def gIsi (kit : Value → Value → Option Bool) (Cs : Addr → Prop) : GB := fun ds M Q => ∃ x c t u b, ds = [x, c] ∧ clsD M x = some t ∧ clsOfD c = some u ∧ (∀ C, t = .ref C → Cs C) ∧ kit t u = some b ∧ Q (.bl b) M
theorem c_isi {Cs : Addr → Prop} (hC : ∀ C, Cs C → C8.InsC X.K C) : CallD X (.builtin "isinstance") (gIsi (PySem.W.kitOne X.K) Cs) := by
  intro pins s σ H vs us Q I r ⟨N, M, ds, Qd, o, rs, ⟨x, c, t, u, b, e, h1, h2, h3, h4, q⟩, k⟩
  subst e
  cases rs with | @cons _ vx _ _ r1 rs =>
  cases rs with | @cons _ vc _ _ r2 rs =>
  cases rs
  have kc : ClsV vc u := by
    cases r2 <;> simp [clsOfD] at h2 <;> subst h2
    · exact .ty _
    · exact .own _
  refine call_isi pins s σ H _ us Q I r ⟨vx, vc, t, u, b, rfl, kc, ?_, h4, k _ _ M H (Fr.refl _ _) o (.bl _) q⟩
  cases r1 with
  | non => cases h1; exact .base .non
  | bl y => cases h1; exact .base (.bl y)
  | int i => cases h1; exact .base (.int i)
  | str y => cases h1; exact .base (.str y)
  | tup t r' => cases h1; exact .base (.tup t.1)
  | lst t r' =>
    cases h1
    exact .base (.lst t.1)
  | ktup t r' => cases h1; obtain ⟨ob, its, n, e1, e2, _⟩ := t; exact .kTuple e1 e2
  | ins e1 e2 e3 e4 =>
    cases h1
    have c := hC _ (h3 _ rfl)
    exact .base (.ins e1 c.cl c.ha c.hn c.htk c.hm)
  | _ => simp [clsD] at h1
end
end DL

set_option Elab.async false
set_option maxRecDepth 100000
set_option maxHeartbeats 4000000
/-! The data layer: methods of lists and dicts; sorted. -/
namespace DL
open PySem PySem.Spec L2
section
variable {X : Cx} {W : WX}
abbrev GM := D → List D → MS → QD → Prop
def lM (F : PySem.W.Frag) (g : GM) : V → List V → Hp → VK → Prop := fun x vs H Q => ∃ N M d ds Qd, Own ⟨F, N⟩ H M ∧ Rep ⟨F, N⟩ H M d x ∧ Reps ⟨F, N⟩ H M ds vs ∧ g d ds M Qd ∧ KE ⟨F, N⟩ H M Qd Q
abbrev MtD (X : Cx) (id : String) (g : GM) : Prop := MtR X id (lM X.K g)
/-- what kind the receiver is of -/
def isLst (M : MS) (d : D) : Prop := ∃ ds, asL M d = some ds
def isDic (M : MS) (d : D) : Prop := (∃ p, asDK M d = some p) ∨ ∃ p, asDT M d = some p
def TyOk (T : String) (P : MS → D → Prop) : Prop := ∀ (F : PySem.W.Frag) (N : Addr → Prop) (H : Hp) (M : MS) (d : D) (v : V), Own ⟨F, N⟩ H M → Rep ⟨F, N⟩ H M d v → P M d → tyV F T v H
theorem ty_list : TyOk "list" isLst := fun F N H M d v o r ⟨ds, e⟩ => by
  obtain ⟨a, vs, e1, h, _⟩ := r.asL o e
  subst e1
  exact .inl ⟨rfl, vs, .inl (.inl h)⟩
theorem ty_dict : TyOk "dict" isDic := fun F N H M d v o r h => by
  rcases h with ⟨⟨ks, ds⟩, e⟩ | ⟨⟨ks, ds⟩, e⟩
  · obtain ⟨a, vs, e1, h, _⟩ := asDK_rep o r e
    subst e1
    exact .inr (.inr (.inl ⟨rfl, .inl ⟨_, h⟩⟩))
  · obtain ⟨a, vs, e1, h, _⟩ := asDT_rep o r e
    subst e1
    exact .inr (.inr (.inl ⟨rfl, .inr ⟨_, h⟩⟩))
def dM (P : MS → D → Prop) (g : GM) (o : TED) (t : TAD) : TED := fun ρ M Q R => o ρ M (fun d M1 => P M1 d ∧ t ρ M1 (fun ds M2 => g d ds M2 Q) R) R
variable {o e : Expr} {es : List Expr} {to : TED} {t : TAD} {name : Str} {apos cpos : Pos} {T id : String} {g : GM} {P : MS → D → Prop}
theorem e_bm (hT : TyOk T P) (pa : PlainAttrs T) (slot : Slot T name id) (hty : typeOf (.builtin id) = pure (.type "method_descriptor")) (hm : MtD X id g) (ho : JE X W o to) (ha : JA X W (e :: es) t)
    (hbase : attributeBase o name X.env (eval o X.env) = eval o X.env := by rfl)
    (hfew : ((backTo cpos (starEach (e :: es) X.env)).all (fun x => !x.1) && (backToKw cpos (keywordEach [] X.env)).all (fun x => x.1.isSome)
      && decide ((e :: es).length + ([] : List Keyword).length + (if ([] : List Keyword).isEmpty then 0 else 1) < 30)) = true := by rfl)
    (hline : (apos.endLine == cpos.line) = true := by rfl) (hs : starEach (e :: es) X.env = (false, eval e X.env) :: starEach es X.env := by rfl) (hplain : (backTo cpos (starEach es X.env)).any (·.1) = false := by rfl) :
    JE X W (.Call (.Attribute o name apos) (e :: es) [] cpos) (dM P g to t) :=
  pe_imp (pe_bm pa slot hty hm ho ha hbase hfew hline hs hplain) fun σ H Q ⟨N, ρ, M, Qd, R, er, o, q, k, x⟩ =>
    ⟨N, ρ, M, _, R, er, o, q, fun d v M1 H1 f1 o1 r1 ⟨p1, q1⟩ => ⟨hT X.K N H1 M1 d v o1 r1 p1, N, ρ, M1, _, R, er.mono f1, o1, q1, fun ds vs M2 H2 f2 o2 r2 q2 => ⟨N, M2, d, ds, Qd, o2, r1.mono f2, r2, q2, KE.mono (f1.trans f2) k⟩, x.mono f1⟩, x⟩
theorem e_bm0 (hT : TyOk T P) (pa : PlainAttrs T) (slot : Slot T name id) (hty : typeOf (.builtin id) = pure (.type "method_descriptor")) (hm : MtD X id g) (ho : JE X W o to)
    (hbase : attributeBase o name X.env (eval o X.env) = eval o X.env := by rfl) (hline : (apos.endLine == cpos.line) = true := by rfl) : JE X W (.Call (.Attribute o name apos) [] [] cpos) (dM P g to dNil) :=
  pe_imp (pe_bm0 pa slot hty hm ho hbase hline) fun σ H Q ⟨N, ρ, M, Qd, R, er, o, q, k, x⟩ =>
    ⟨N, ρ, M, _, R, er, o, q, fun d v M1 H1 f1 o1 r1 ⟨p1, q1⟩ => ⟨hT X.K N H1 M1 d v o1 r1 p1, N, M1, d, [], Qd, o1, r1, .nil, q1, KE.mono f1 k⟩, x⟩
def gAppend : GM := fun d ds M Q => ∃ a xs y, d = .ref a ∧ ds = [y] ∧ M a = some (.lst xs) ∧ xs.length < sizeLine ∧ Q .non (M.set a (.lst (xs ++ [y])))
theorem own_put {F : PySem.W.Frag} {N : Addr → Prop} {H : Hp} {M : MS} {a : Addr} {xs ys : List D} {vs : List V} (o : Own ⟨F, N⟩ H M) (hm : M a = some (.lst xs)) (r : Reps ⟨F, N⟩ H M ys vs) : Own ⟨F, N⟩ (upd H a (.lst vs)) (M.set a (.lst ys)) :=
  o.put (mo' := .lst ys) hm ⟨vs, upd_same, r.mono (Fr.put hm)⟩
theorem m_append : MtD X "list.append" gAppend := by
  intro pins s σ H x vs v us Q I rx rv ⟨N, M, d, ds, Qd, o, r, rs, ⟨a, xs, y, e1, e2, hm, hl, q⟩, k⟩
  subst e1 e2
  cases r
  cases rs with | @cons _ vy _ _ r1 rs =>
  cases rs
  obtain ⟨ws, h1, h2⟩ := o.at_ a _ hm
  exact mt_append pins s σ H _ _ v us Q I rx rv ⟨a, ws, vy, rfl, rfl, h1, by rw [← h2.length]; exact hl, k _ _ _ _ (Fr.put hm) (own_put o hm (h2.append (.cons r1 .nil))) .non q⟩
def gExtend : GM := fun d ds M Q => ∃ a e xs ys, d = .ref a ∧ ds = [e] ∧ M a = some (.lst xs) ∧ asL M e = some ys ∧ xs.length + ys.length ≤ sizeLine ∧ Q .non (M.set a (.lst (xs ++ ys)))
theorem m_extend : MtD X "list.extend" gExtend := by
  intro pins s σ H x vs v us Q I rx rv ⟨N, M, d, ds, Qd, o, r, rs, ⟨a, e, xs, ys, e1, e2, hm, hy, hl, q⟩, k⟩
  subst e1 e2
  cases r
  cases rs with | cons r1 rs =>
  cases rs
  obtain ⟨ws, h1, h2⟩ := o.at_ a _ hm
  obtain ⟨b, zs, e3, h3, h4⟩ := r1.asL o hy
  subst e3
  exact mt_extend pins s σ H _ _ v us Q I rx rv ⟨a, b, ws, zs, rfl, rfl, h1, h3, by rw [← h2.length, ← h4.length]; exact hl, k _ _ _ _ (Fr.put hm) (own_put o hm (h2.append h4)) .non q⟩
theorem Reps.dropLast {K : KN} {H : Hp} {M : MS} {ds : List D} {vs : List V} (r : Reps K H M ds vs) : Reps K H M ds.dropLast vs.dropLast := by
  rw [List.dropLast_eq_take, List.dropLast_eq_take, r.length]
  exact r.take _
def gPop : GM := fun d ds M Q => ∃ a xs y, d = .ref a ∧ ds = [] ∧ M a = some (.lst xs) ∧ xs[xs.length - 1]? = some y ∧ Q y (M.set a (.lst xs.dropLast))
theorem m_pop : MtD X "list.pop" gPop := by
  intro pins s σ H x vs v us Q I rx rv ⟨N, M, d, ds, Qd, o, r, rs, ⟨a, xs, y, e1, e2, hm, hy, q⟩, k⟩
  subst e1 e2
  cases r
  cases rs
  obtain ⟨ws, h1, h2⟩ := o.at_ a _ hm
  obtain ⟨w, hw, rw'⟩ := h2.get hy
  exact mt_pop pins s σ H _ _ v us Q I rx rv ⟨a, ws, w, rfl, rfl, h1, by rw [← h2.length]; exact hw, k _ _ _ _ (Fr.put hm) (own_put o hm h2.dropLast) (rw'.mono (Fr.put hm)) q⟩

/-! ### sorted: ints; tuples of ints (fewer than 64 of them) -/
theorem Reps.ofInts {K : KN} {H : Hp} {M : MS} : ∀ ns : List Int, Reps K H M (ns.map D.int) (ns.map V.int)
  | [] => .nil
  | n :: ns => .cons (.int n) (Reps.ofInts ns)
def gSortedI (fin : Fin) : GB := fun ds M Q => ∃ d xs ns, ds = [d] ∧ asL M d = some xs ∧ intsD xs = some ns ∧ ∀ ns' : List Int, ns'.Perm ns → ns'.Pairwise (· ≤ ·) → fin (ns'.map D.int) M Q
theorem c_sortedI {fin : Fin} (hf : FinOk fin) : CallD X (.builtin "sorted") (gSortedI fin) := by
  intro pins s σ H vs us Q I r ⟨N, M, ds, Qd, o, rs, ⟨d, xs, ns, e, h1, h2, q⟩, k⟩
  subst e
  cases rs with | cons r1 rs =>
  cases rs
  obtain ⟨a, ws, e1, e2, e3⟩ := r1.asL o h1
  subst e1
  have e4 := e3.intsD h2
  subst e4
  exact cr_sortedI pins s σ H _ us Q I r ⟨a, ns, rfl, .inl (.inl e2), fun ns' p hp hw hn => fin_new hf o hn (Reps.ofInts ns') (q ns' hp hw) k⟩
/-- a list of tuples of ints -/
def tupsI : List D → Option (List (List Int))
  | [] => some []
  | .tup ds :: r => match intsD ds, tupsI r with | some ns, some l => some (ns :: l) | _, _ => none
  | _ :: _ => none
def tupOf (ns : List Int) : D := .tup (ns.map D.int)
theorem intsD_map : ∀ {ds : List D} {ns : List Int}, intsD ds = some ns → ds = ns.map D.int
  | [], _, e => by cases e; rfl
  | d :: ds, ns, e => by
    cases d with
    | int i =>
      simp only [intsD] at e
      cases q : intsD ds with
      | none => rw [q] at e; cases e
      | some ms => rw [q] at e; cases e; rw [intsD_map q]; rfl
    | _ => simp [intsD] at e
theorem tupsI_map : ∀ {ds : List D} {l : List (List Int)}, tupsI ds = some l → ds = l.map tupOf
  | [], _, e => by cases e; rfl
  | d :: ds, l, e => by
    cases d with
    | tup es =>
      simp only [tupsI] at e
      cases q : intsD es with
      | none => rw [q] at e; cases e
      | some ns =>
        cases q2 : tupsI ds with
        | none => rw [q, q2] at e; cases e
        | some l' => rw [q, q2] at e; cases e; rw [tupsI_map q2, intsD_map q]; rfl
    | _ => simp [tupsI] at e
/-- the values in the order of the data: two lists that stand for one another can be put in one order -/
theorem perm_back {K : KN} {H : Hp} {M : MS} : ∀ {vs ys : List V}, ys.Perm vs → ∀ {ds : List D}, Reps K H M ds vs → ∃ es : List D, es.Perm ds ∧ Reps K H M es ys := by
  intro vs ys h
  induction h with
  | nil => intro ds r; cases r; exact ⟨[], .nil, .nil⟩
  | cons x _ ih =>
    intro ds r
    cases r with
    | cons r t =>
      obtain ⟨es, p, q⟩ := ih t
      exact ⟨_ :: es, p.cons _, .cons r q⟩
  | swap x y l =>
    intro ds r
    cases r with
    | cons r t =>
      cases t with
      | cons r2 t => exact ⟨_, List.Perm.swap _ _ _, .cons r2 (.cons r t)⟩
  | trans _ _ ih1 ih2 =>
    intro ds r
    obtain ⟨es, p, q⟩ := ih2 r
    obtain ⟨fs, p2, q2⟩ := ih1 q
    exact ⟨fs, p2.trans p, q2⟩
def gSortedT (dd : Nat) (B : Int) (fin : Fin) : GB := fun ds M Q => ∃ d xs l, ds = [d] ∧ asL M d = some xs ∧ tupsI xs = some l ∧ l.length < 64 ∧ (∀ ns ∈ l, ns.length = dd ∧ TS.Bd B ns) ∧
  ∀ l' : List (List Int), l'.Perm l → l'.Pairwise (fun a b => TS.code B a ≤ TS.code B b) → fin (l'.map tupOf) M Q
theorem tupsI_of : ∀ l : List (List Int), tupsI (l.map tupOf) = some l
  | [] => rfl
  | ns :: l => by
    have hi : ∀ ns : List Int, intsD (ns.map D.int) = some ns := by
      intro ns
      induction ns with
      | nil => rfl
      | cons n ns ih => simp only [List.map_cons, intsD, ih]
    show tupsI (.tup (ns.map D.int) :: l.map tupOf) = _
    simp only [tupsI, hi, tupsI_of l]
theorem perm_map_inv {α β : Type} {f : α → β} {es bs : List β} (h : es.Perm bs) : ∀ {l : List α}, bs = l.map f → ∃ l' : List α, es = l'.map f ∧ l'.Perm l := by
  induction h with
  | nil => intro l e; cases l with
    | nil => exact ⟨[], rfl, .nil⟩
    | cons a l => simp at e
  | cons x _ ih => intro l e; cases l with
    | nil => simp at e
    | cons a l =>
      rw [List.map_cons] at e
      injection e with e1 e2
      obtain ⟨l', h1, h2⟩ := ih e2
      exact ⟨a :: l', by rw [h1, e1]; rfl, h2.cons a⟩
  | swap x y t => intro l e; cases l with
    | nil => simp at e
    | cons a l => cases l with
      | nil => simp at e
      | cons b l =>
        simp only [List.map_cons] at e
        injection e with e1 e
        injection e with e2 e3
        exact ⟨b :: a :: l, by rw [e1, e2, e3]; rfl, List.Perm.swap _ _ _⟩
  | trans _ _ ih1 ih2 =>
    intro l e
    obtain ⟨l1, h1, p1⟩ := ih2 e
    obtain ⟨l2, h2, p2⟩ := ih1 h1
    exact ⟨l2, h2, p2.trans p1⟩
theorem Rep.tupI {F : PySem.W.Frag} {N : Addr → Prop} {H : Hp} {M : MS} {ns : List Int} {v : V} (r : Rep ⟨F, N⟩ H M (tupOf ns) v) : TupI F H v ns := by
  unfold tupOf at r
  cases r with
  | tup t rs =>
    have hi : ∀ ns : List Int, intsD (ns.map D.int) = some ns := by
      intro ns
      induction ns with
      | nil => rfl
      | cons n ns ih => simp only [List.map_cons, intsD, ih]
    have e := rs.intsD (hi ns)
    subst e
    exact ⟨_, rfl, TupAt.sq (K := ⟨F, N⟩) t⟩
theorem tupI_inj {X : Cx} {pins : List (Addr × Obj)} {s : Shared} {σ : L2.St} {H : Hp} (I : Inv X pins σ H s) {v : V} {ns ms : List Int} (h1 : TupI X.K H v ns) (h2 : TupI X.K H v ms) : ns = ms := by
  obtain ⟨a, e1, q1⟩ := h1
  obtain ⟨b, e2, q2⟩ := h2
  rw [e1] at e2; cases e2
  have e := I.tuple_inj q1 q2
  exact List.map_inj_right (fun x y z => by injection z) |>.mp e
theorem c_sortedT {fin : Fin} (hf : FinOk fin) {dd : Nat} {B : Int} (hd : 1 ≤ dd) : CallD X (.builtin "sorted") (gSortedT dd B fin) := by
  intro pins s σ H vs us Q I r ⟨N, M, ds, Qd, o, rs, ⟨d, xs, l, e, h1, h2, h3, h4, q⟩, k⟩
  subst e
  cases rs with | cons r1 rs =>
  cases rs
  obtain ⟨a, ws, e1, e2, e3⟩ := r1.asL o h1
  subst e1
  have e4 := tupsI_map h2
  subst e4
  have hl : ws.length = l.length := by rw [← e3.length, List.length_map]
  refine cr_sortT (d := dd) (B := B) hd pins s σ H _ us Q I r ⟨a, ws, rfl, .inl (.inl e2), by omega, fun w hw => ?_, fun ys p hp hpw hn => ?_⟩
  · obtain ⟨i, hi, ew⟩ := List.getElem_of_mem hw
    obtain ⟨d', hd', rd⟩ := e3.getV (i := i) (v := w) (by rw [List.getElem?_eq_getElem hi, ew])
    rw [List.getElem?_map] at hd'
    cases q2 : l[i]? with
    | none => rw [q2] at hd'; cases hd'
    | some ns =>
      rw [q2] at hd'
      cases hd'
      have hm : ns ∈ l := List.mem_of_getElem? q2
      exact ⟨ns, Rep.tupI rd, (h4 ns hm).1, (h4 ns hm).2⟩
  · obtain ⟨es, p1, r2⟩ := perm_back hp e3
    obtain ⟨l', e5, p2⟩ := perm_map_inv p1 rfl
    subst e5
    refine fin_new hf o hn r2 (q l' p2 ?_) k
    clear q p1 p2 hp
    induction l' generalizing ys with
    | nil => exact .nil
    | cons ns l' ih =>
      cases r2 with | cons ra rb =>
      obtain ⟨c1, c2⟩ := List.pairwise_cons.mp hpw
      refine List.pairwise_cons.mpr ⟨fun ms hms => ?_, ih _ c2 rb⟩
      obtain ⟨i, hi, em⟩ := List.getElem_of_mem hms
      obtain ⟨w, hw, rw'⟩ := rb.get (i := i) (d := tupOf ms) (by rw [List.getElem?_map, List.getElem?_eq_getElem hi, em]; rfl)
      exact c1 w (List.mem_of_getElem? hw) ns ms (Rep.tupI ra) (Rep.tupI rw')
end
end DL

set_option Elab.async false
set_option maxRecDepth 100000
set_option maxHeartbeats 4000000
/-! The data layer: enumerate over lists and tuples; any, all, sum, str; displays of dicts; pairs of stores. -/
namespace PySem
open Sem (wp)
set_option maxHeartbeats 1000000 in
theorem meets_enumerate_new1 {v : Value} {o : Obj} {H : Heap → Prop} (B : Begins v o H) :
    Meets (Builtin.«enumerate.__new__» ⟨[.type "enumerate", v], []⟩) (fun _ R s => H s.heap ∧
      R (.ok (.ret (.ref (s.heap.push o).objs.size))) { s with heap := (s.heap.push o).push { cls := .type "enumerate", data := .fields #[.none, .bool false, .ref s.heap.objs.size, rawInt 0, .none, .none] } }) :=
  .of_wp fun prog w A R s h => by
    obtain ⟨hp, g, d, tk, os⟩ := s; obtain ⟨h1, h⟩ := h
    have hsub := sub_enumerate
    have q1 : ∀ {A' : Around} {E : Value → Shared → Prop} {Q : Value → Shared → Prop}, Q (.ref hp.objs.size) ⟨hp.push o, g, d, tk, os⟩ → wpAny (model prog w) A' (pyIter v) Q E ⟨hp, g, d, tk, os⟩ :=
      fun q => B.iter prog w _ _ ⟨hp, g, d, tk, os⟩ _ h1 q
    wp_walk using q1
    refine wpAny_stack_any fun st => wpAny_pure ?_
    split
    · rename_i c _ _ _ _ _
      cases (c == Value.type "enumerate")
      · wp_walk using q1
        exact ⟨_, rfl, h⟩
      · wp_walk using q1
        exact ⟨_, rfl, h⟩
    · wp_walk using q1
      exact ⟨_, rfl, h⟩
theorem enum_begins1 {prog : Program} {w : World} {A : Around} {E : Value → Shared → Prop} {s : Shared} {v : Value} {o : Obj} {H : Heap → Prop} {Q : Value → Shared → Prop} (B : Begins v o H) (h1 : H s.heap)
    (h : ∀ h', IsEnum h' (s.heap.objs.size + 1) s.heap.objs.size 0 .none → h'.get? s.heap.objs.size = some o → h'.objs.size = s.heap.objs.size + 2 →
      (∀ b o, s.heap.get? b = some o → h'.get? b = some o) → Q (.ref (s.heap.objs.size + 1)) { s with heap := h' }) :
    wpAny (model prog w) A (call (.type "enumerate") [v]) Q E s := by
  refine callType_new F.called_enumerate (by decide) (F.typeCall_enumerate_1 _) (F.newCall_enumerate_1 _) (fun obj => F.args_object_init_2 obj _) F.entry_enumerate_new
    (meets_enumerate_new1 B) ⟨h1, ?_⟩
  have hz : (s.heap.push o).objs.size = s.heap.objs.size + 1 := Heap.size_push ..
  show _ ∧ _
  rw [hz]
  have he : IsEnum ((s.heap.push o).push { cls := .type "enumerate", data := .fields #[.none, .bool false, .ref s.heap.objs.size, rawInt 0, .none, .none] }) (s.heap.objs.size + 1) s.heap.objs.size 0 .none := by
    have := Heap.get?_push_size (s.heap.push o) (o := { cls := .type "enumerate", data := .fields #[.none, .bool false, .ref s.heap.objs.size, rawInt 0, .none, .none] }) rfl
    rw [hz] at this; exact this
  refine ⟨⟨_, he, rfl⟩, h _ he (Heap.get?_push_of_some _ (Heap.get?_push_size _ B.free)) (by rw [Heap.size_push, hz]) fun b o x => Heap.get?_push_of_some _ (Heap.get?_push_of_some _ x)⟩
end PySem
namespace L2
open PySem PySem.Spec PyProof.Rows
/-! ### enumerate of a tuple -/
def IteT (K : PySem.W.Frag) (a : Addr) : It :=
  ⟨fun i H => ∃ (xs : List V) (x : V), SqT K H a xs ∧ xs[i]? = some x, fun i H v H' => ∃ T x, v = .ref T ∧ H T = none ∧ H' = upd H T (.tup [.int (i : Nat), x]) ∧ ∀ xs, SqT K H a xs → xs[i]? = some x, fun i H => ∃ xs : List V, SqT K H a xs ∧ xs.length ≤ i⟩
theorem turn_enumT {P : Program} {w : World} {K : PySem.W.Frag} {elts : List Expr} {kk : Nat} {tpos : Pos} (a e it : Addr) (hai : a ≠ it) (hea : e ≠ a) :
    Turn P w K (.Tuple elts kk tpos) (IteT K a) [e, it] e (fun i h => (∃ old, IsEnum h e it ((i : Nat) : Int) old) ∧ h.IsTupleIter it a i ∧ e ≠ it) where
  mem := by simp
  obj := fun i h st b hb => by
    obtain ⟨⟨old, he⟩, ⟨o, ho, hc, hd⟩, _⟩ := st
    have e' : b = e ∨ b = it := by simpa using hb
    rcases e' with z | z
    · rw [z]; exact ⟨_, he, fun v q => nomatch q⟩
    · rw [z]; exact ⟨o, ho, fun v q => by rw [hd] at q; cases q⟩
  keep := fun i h h' st k => let ⟨⟨old, he⟩, hi, hne⟩ := st; ⟨⟨old, k e (by simp) _ he⟩, hi.at fun o q => k it (by simp) o q, hne⟩
  item := by
    intro X hP hw hK hc i pins s σ H E I hf st hg
    subst hP hw hK
    obtain ⟨⟨old, he⟩, hit, hne⟩ := st
    obtain ⟨xs, x, hq, hx⟩ := hg
    obtain ⟨its, rv, p, hz⟩ := I.tuple hq
    obtain ⟨u, hu, ru⟩ := rv.get hx
    have hel : e < s.heap.objs.size := Heap.lt_size he
    have hil : it < s.heap.objs.size := by obtain ⟨_, q, _⟩ := hit; exact Heap.lt_size q
    have hiu : i < its.toArray.size := by
      have q := (List.getElem?_eq_some_iff.mp hu).1
      simpa using q
    refine wpAny_pyNext_enum_itemD (Draws.tuple (A := X.A.in1) (I.ok.hd hc) it a hai its.toArray) he ⟨hit, p⟩ hiu hne (by simp [hne, hea]) fun x' h' tk hP ho hst' hT hsz hk => ?_
    have ex : x' = u := by
      have z : its.toArray[i]? = some u := by simpa using hu
      rw [z] at hP; exact (Option.some.inj hP).symm
    subst ex
    refine ⟨_, rfl, wpAny_letOwnedTupleGo_enum (s := { s with heap := h', toks := tk + 1 }) ho fun h'' he' sb => ?_⟩
    have hT2 : h''.get? s.heap.objs.size = some { cls := .type "tuple", data := .seq #[.int i tk, x'] } := (sb.2 _ (Nat.ne_of_gt hel)).trans hT
    have new : ObjOk X.prog X.w (upd H s.heap.objs.size (.tup [.int (i : Nat), x])) h'' s.heap.objs.size (.tup [.int (i : Nat), x]) :=
      ⟨by show 2 ≤ sizeLine; decide, [.int i tk, x'], .cons ⟨_, rfl⟩ (.cons ru .nil), ⟨_, hT2, rfl, _, rfl⟩⟩
    have I1 : Inv X pins σ (upd H s.heap.objs.size (.tup [.int (i : Nat), x])) { s with heap := h'', toks := tk + 1 } :=
      I.turnedNew (ch := [e, it]) (fun b ob hb q => (sb.2 b (fun z => hb (by simp [z]))).trans (hk b ob (fun z => hb (by simp [z])) (fun z => hb (by simp [z])) q)) hf (Nat.le_refl _) new
    refine ⟨.ref s.heap.objs.size, _, I1, rfl, ⟨_, x, rfl, I.hok.fresh (Nat.le_refl _), rfl, fun ys hy => by rw [I.tuple_inj hy hq]; exact hx⟩, ⟨⟨x', ?_⟩, hst'.1.at fun o q => (sb.2 it (Ne.symm hne)).trans q, hne⟩, fun b hb => ?_⟩
    · have e1 : ((i + 1 : Nat) : Int) = (i : Int) + 1 := by omega
      rw [e1]; exact he'
    · have hb' : b < s.heap.objs.size := by
        have e' : b = e ∨ b = it := by simpa using hb
        rcases e' with z | z
        · rw [z]; exact hel
        · rw [z]; exact hil
      rw [upd_ne (Nat.ne_of_lt hb')]
      exact (hf b hb).1
  done := by
    intro X hP hw hK hc i pins s σ H E I hf st hg
    subst hP hw hK
    obtain ⟨⟨old, he⟩, hit, hne⟩ := st
    obtain ⟨xs, hq, hx⟩ := hg
    obtain ⟨its, rv, p, hz⟩ := I.tuple hq
    obtain ⟨f0, f1, f2, f3, f4, f5⟩ := hf it (by simp)
    have hl := rv.length
    have hn : its.toArray[i]? = none := by simp; omega
    have D : Draws X.prog X.w X.A.in1 it [it, a] i (fun _ _ => True) (fun j h => j = i ∧ h.IsTupleIter it a i ∧ h.IsTuple a its.toArray) :=
      ⟨fun _ _ st => let ⟨o, ho, _⟩ := st.2.1; ⟨o, ho⟩, fun _ _ _ st hk => ⟨st.1, st.2.1.at fun o e => hk it (by simp) o e, st.2.2.at fun o e => hk a (by simp) o e⟩,
        fun j s Q E hj st _ => absurd st.1 (Nat.ne_of_lt hj), fun s Q E st hE => wpAny_nextOf_tuple_end (I.ok.hd hc) st.2.1 st.2.2 hn hE⟩
    exact wpAny_pyNext_enum_endD D he ⟨rfl, hit, p⟩ fun h' eb => ⟨rfl, I.turned (t' := s.toks) (fun b o hb q => eb b o hb q) f0 f1 f3 f4 f5⟩
  self := fun A i s Q E st h => let ⟨⟨_, he⟩, _⟩ := st; wpAny_pyIter_enum he h

/-- enumerate(list), enumerate(tuple) -/
def iEnumA (K : PySem.W.Frag) (ta : TA) : TI := fun σ H R => ta σ H fun vs H1 => ∃ a, vs = [.ref a] ∧ ((∃ xs, SqL K H1 a xs) ∧ R (Ite K a) H1 ∨ (∃ xs, SqT K H1 a xs) ∧ R (IteT K a) H1)
theorem pi_enumA {X : Cx} {e : Expr} {ta : TA} {p pos tpos : Pos} {elts : List Expr} {kk : Nat} (hg : Gl X "enumerate") (hm : X.mg "enumerate" = none) (ha : PA X [e] ta) (hs : starEach [e] X.env = [(false, eval e X.env)] := by rfl) :
    PI X (.Tuple elts kk tpos) (.Call (.Name "enumerate" p) [e] [] pos) (iEnumA X.K ta) := by
  refine ⟨fun pins s σ H R I h => ?_⟩
  refine Call_ (ld_blt I hg hm boot_enumerate (PyProof.Rows.callWith_type1 (thn (ha.run pos pins s σ H _ I h) fun us s1 ⟨vs, H1, I1, r1, q1⟩ => ?_) hs rfl))
  obtain ⟨a, ex, q⟩ := q1
  subst ex
  cases r1 with | cons r rr =>
  cases rr
  cases r
  have fin : ∀ b, b ∈ [s1.heap.objs.size + 1, s1.heap.objs.size] → FpOk X pins H1 b := fun b hb => by
    have e' : b = s1.heap.objs.size + 1 ∨ b = s1.heap.objs.size := by simpa using hb
    have hle : s1.heap.objs.size ≤ b := by
      rcases e' with z | z
      · rw [z]; exact Nat.le_add_right _ _
      · rw [z]; exact Nat.le_refl _
    exact I1.fpOk hle (I1.hok.fresh hle)
  rcases q with ⟨⟨xs, hq⟩, q⟩ | ⟨⟨xs, hq⟩, q⟩
  · obtain ⟨its, rv, p', hz⟩ := I1.list hq
    refine call_enumerate_list p'.isList fun h' he hit hsz hk => wpAny_pyIter_enum he ?_
    have I2 : Inv X pins σ H1 { s1 with heap := h' } := I1.kept (t' := s1.toks) hk
    exact ⟨s1.heap.objs.size + 1, [s1.heap.objs.size + 1, s1.heap.objs.size], _, _, H1, rfl, I2, turn_enum a (s1.heap.objs.size + 1) s1.heap.objs.size, ⟨⟨.none, he⟩, hit, Nat.succ_ne_self _⟩, fin, q⟩
  · obtain ⟨its, rv, p', hz⟩ := I1.tuple hq
    have al : a < s1.heap.objs.size := by obtain ⟨_, e, _⟩ := p'; exact Heap.lt_size e
    refine enum_begins1 (begins_tuple a its.toArray) p' fun h' he hit hsz hk => wpAny_pyIter_enum he ?_
    have I2 : Inv X pins σ H1 { s1 with heap := h' } := I1.kept (t' := s1.toks) hk
    exact ⟨s1.heap.objs.size + 1, [s1.heap.objs.size + 1, s1.heap.objs.size], _, _, H1, rfl, I2, turn_enumT a (s1.heap.objs.size + 1) s1.heap.objs.size (Nat.ne_of_lt al) (Nat.ne_of_gt (Nat.lt_succ_of_lt al)), ⟨⟨.none, he⟩, ⟨_, hit, rfl, rfl⟩, Nat.succ_ne_self _⟩, fin, q⟩
end L2
namespace DL
open PySem PySem.Spec L2
section
variable {X : Cx} {W : WX}
/-- enumerate -/
def enumD : Nat → List D → List D
  | _, [] => []
  | i, d :: ds => .tup [.int (i : Nat), d] :: enumD (i + 1) ds
theorem enumD_len : ∀ (i : Nat) (ds : List D), (enumD i ds).length = ds.length
  | _, [] => rfl
  | i, d :: ds => congrArg Nat.succ (enumD_len (i + 1) ds)
theorem enumD_get : ∀ (i : Nat) (ds : List D) (j : Nat) (d : D), ds[j]? = some d → (enumD i ds)[j]? = some (.tup [.int ((i + j : Nat) : Int), d])
  | _, [], _, _, h => by simp at h
  | i, d :: ds, 0, _, h => by simp at h; subst h; rfl
  | i, d :: ds, j + 1, d', h => by
    have z := enumD_get (i + 1) ds j d' (by simpa using h)
    have e : i + 1 + j = i + (j + 1) := by omega
    rw [e] at z
    simpa [enumD] using z
def iEnum (t : TAD) : TID := fun ρ M Q R => t ρ M (fun l M1 => ∃ d ds, l = [d] ∧ asQ M1 d = some ds ∧ Q (fun M => asQ M d = some ds) (enumD 0 ds) M1) R
theorem i_enum {e : Expr} {t : TAD} {p pos tpos : Pos} {elts : List Expr} {kk : Nat} (hg : Gl X "enumerate") (hm : X.mg "enumerate" = none) (ha : JA X W [e] t) (hs : starEach [e] X.env = [(false, eval e X.env)] := by rfl) :
    JI X W (.Tuple elts kk tpos) (.Call (.Name "enumerate" p) [e] [] pos) (iEnum t) :=
  pi_imp (pi_enumA hg hm ha hs) fun σ H R ⟨N, ρ, M, Qd, Rk, er, o, q, k, x⟩ => ⟨N, ρ, M, _, Rk, er, o, q, fun l vs M1 H1 f1 o1 r1 ⟨d, ds, el, h1, q1⟩ => by
    subst el
    cases r1 with | cons r1 r2 =>
    cases r2
    obtain ⟨la, va, e1, _, _⟩ := r1.asQ o1 h1
    subst e1
    cases hd : isTupD d with
    | false =>
      obtain ⟨wa, ha1, ra1⟩ := asQ_list hd (Fr.refl _ _) o1 r1 h1
      refine ⟨la, rfl, .inl ⟨⟨wa, ha1⟩, k _ _ _ M1 H1 f1 o1 ⟨fun N' hN i H' M' hi f o' c => ?_, fun N' hN H' M' f o' c => ?_, fun N' hN i H' M' y H2 hi f o' c yl => ?_⟩ q1⟩⟩
      · rw [enumD_len] at hi
        obtain ⟨xa, hxa, rxa⟩ := asQ_list hd f o' (r1.hide hN) c
        exact ⟨xa, xa[i]'(by rw [← rxa.length]; omega), hxa, by simp⟩
      · obtain ⟨xa, hxa, rxa⟩ := asQ_list hd f o' (r1.hide hN) c
        exact ⟨xa, hxa, by rw [enumD_len, ← rxa.length]; omega⟩
      · obtain ⟨xa, hxa, rxa⟩ := asQ_list hd f o' (r1.hide hN) c
        obtain ⟨T, u, e1, hT, e2, g1⟩ := yl
        subst e1 e2
        obtain ⟨d', hd', rd⟩ := rxa.getV (g1 _ hxa)
        obtain ⟨z1, z2, z3⟩ := pair_new o' hT (Rep.int (K := ⟨X.K, N'⟩) (H := H') (M := M') (i : Nat)) rd
        refine ⟨_, enumD_get 0 _ _ _ hd', z1, z2, ?_⟩
        rw [Nat.zero_add]; exact z3
    | true =>
      obtain ⟨wa, ha1, ra1⟩ := asQ_tup hd (Fr.refl _ _) r1 h1
      refine ⟨la, rfl, .inr ⟨⟨wa, ha1⟩, k _ _ _ M1 H1 f1 o1 ⟨fun N' hN i H' M' hi f o' c => ?_, fun N' hN H' M' f o' c => ?_, fun N' hN i H' M' y H2 hi f o' c yl => ?_⟩ q1⟩⟩
      · rw [enumD_len] at hi
        obtain ⟨xa, hxa, rxa⟩ := asQ_tup hd f (r1.hide hN) c
        exact ⟨xa, xa[i]'(by rw [← rxa.length]; omega), hxa, by simp⟩
      · obtain ⟨xa, hxa, rxa⟩ := asQ_tup hd f (r1.hide hN) c
        exact ⟨xa, hxa, by rw [enumD_len, ← rxa.length]; omega⟩
      · obtain ⟨xa, hxa, rxa⟩ := asQ_tup hd f (r1.hide hN) c
        obtain ⟨T, u, e1, hT, e2, g1⟩ := yl
        subst e1 e2
        obtain ⟨d', hd', rd⟩ := rxa.getV (g1 _ hxa)
        obtain ⟨z1, z2, z3⟩ := pair_new o' hT (Rep.int (K := ⟨X.K, N'⟩) (H := H') (M := M') (i : Nat)) rd
        refine ⟨_, enumD_get 0 _ _ _ hd', z1, z2, ?_⟩
        rw [Nat.zero_add]; exact z3, x⟩
/-! ### any, all, sum, str -/
def blsD : List D → Option (List Bool)
  | [] => some []
  | .bl b :: r => (blsD r).map (b :: ·)
  | _ :: _ => none
theorem Reps.blsD {K : KN} {H : Hp} {M : MS} : ∀ {ds : List D} {vs : List V} {bs : List Bool}, Reps K H M ds vs → DL.blsD ds = some bs → vs = bs.map V.bl
  | _, _, _, .nil, e => by cases e; rfl
  | d :: ds, _, bs, .cons r t, e => by
    cases r with
    | bl b =>
      simp only [DL.blsD] at e
      cases q : DL.blsD ds with
      | none => rw [q] at e; cases e
      | some l => rw [q] at e; cases e; rw [Reps.blsD t q]; rfl
    | _ => simp [DL.blsD] at e
def gAll : GB := fun ds M Q => ∃ d xs bs, ds = [d] ∧ asL M d = some xs ∧ blsD xs = some bs ∧ Q (.bl (bs.all id)) M
def gAny : GB := fun ds M Q => ∃ d xs bs, ds = [d] ∧ asL M d = some xs ∧ blsD xs = some bs ∧ Q (.bl (bs.any id)) M
def gSum : GB := fun ds M Q => ∃ d xs ns, ds = [d] ∧ asL M d = some xs ∧ intsD xs = some ns ∧ Q (.int ns.sum) M
theorem c_all (hc : X.calm = true) : CallD X (.builtin "all") gAll := by
  intro pins s σ H vs us Q I r ⟨N, M, ds, Qd, o, rs, ⟨d, xs, bs, e, h1, h2, q⟩, k⟩
  subst e
  cases rs with | cons r1 rs =>
  cases rs
  obtain ⟨a, ws, e1, e2, e3⟩ := r1.asL o h1
  subst e1
  have e4 := e3.blsD h2
  subst e4
  exact cr_all hc pins s σ H _ us Q I r ⟨a, bs, rfl, .inl (.inl e2), k _ _ M H (Fr.refl _ _) o (.bl _) q⟩
theorem c_any (hc : X.calm = true) : CallD X (.builtin "any") gAny := by
  intro pins s σ H vs us Q I r ⟨N, M, ds, Qd, o, rs, ⟨d, xs, bs, e, h1, h2, q⟩, k⟩
  subst e
  cases rs with | cons r1 rs =>
  cases rs
  obtain ⟨a, ws, e1, e2, e3⟩ := r1.asL o h1
  subst e1
  have e4 := e3.blsD h2
  subst e4
  exact cr_any hc pins s σ H _ us Q I r ⟨a, bs, rfl, .inl (.inl e2), k _ _ M H (Fr.refl _ _) o (.bl _) q⟩
theorem c_sum (hc : X.calm = true) : CallD X (.builtin "sum") gSum := by
  intro pins s σ H vs us Q I r ⟨N, M, ds, Qd, o, rs, ⟨d, xs, ns, e, h1, h2, q⟩, k⟩
  subst e
  cases rs with | cons r1 rs =>
  cases rs
  obtain ⟨a, ws, e1, e2, e3⟩ := r1.asL o h1
  subst e1
  have e4 := e3.intsD h2
  subst e4
  exact cr_sum hc pins s σ H _ us Q I r ⟨a, ns, rfl, .inl (.inl e2), k _ _ M H (Fr.refl _ _) o (.int _) q⟩
def gStr : GB := fun ds M Q => match ds with
  | [.int i] => i.natAbs.log2 < 1920 ∧ Q (.str (toString i)) M
  | [.str x] => Q (.str x) M
  | _ => False
theorem c_str : CallD X (.type "str") gStr := by
  intro pins s σ H vs us Q I r ⟨N, M, ds, Qd, o, rs, g, k⟩
  match ds, rs, g with
  | [.int i], .cons r1 .nil, g => cases r1; exact call_str_int pins s σ H _ us Q I r ⟨i, rfl, g.1, k _ _ M H (Fr.refl _ _) o (.str _) g.2⟩
  | [.str x], .cons r1 .nil, g => cases r1; exact SkE.call_str_str pins s σ H _ us Q I r ⟨x, rfl, k _ _ M H (Fr.refl _ _) o (.str _) g⟩
/-! ### {}; a, b = x, y; the name of a built-in type -/
def dDictK0 : TED := fun ρ M Q R => ∀ p, M p = none → Q (.ref p) (M.set p (.dk [] []))
def dDictT0 : TED := fun ρ M Q R => ∀ p, M p = none → Q (.ref p) (M.set p (.dt [] []))
theorem e_dictK0 {pos : Pos} : JE X W (.Dict [] [] pos) dDictK0 := pe_imp pe_dnewK fun σ H Q ⟨N, ρ, M, Qd, R, er, o, q, k, x⟩ p hp =>
  k (.ref p) (.ref p) _ _ (Fr.newM hp) (o.newM hp (mo := .dk [] []) ⟨[], upd_same, rfl, .nil⟩) (.ref p) (q p (o.no hp))
theorem e_dictT0 {pos : Pos} : JE X W (.Dict [] [] pos) dDictT0 := pe_imp pe_dnewT fun σ H Q ⟨N, ρ, M, Qd, R, er, o, q, k, x⟩ p hp =>
  k (.ref p) (.ref p) _ _ (Fr.newM hp) (o.newM hp (mo := .dt [] []) ⟨[], upd_same, rfl, .nil⟩) (.ref p) (q p (o.no hp))
theorem s_par {i j : Nat} {x y : Str} {a b : Expr} {t : TAD} {px py pt pos : Pos} {kt k2 pt2} (hc : X.calm = true) (hN : X.N.Nodup) (hi : X.N[i]? = some x) (hj : X.N[j]? = some y) (hij : i ≠ j)
    (hx : X.env.scope.names.lookup x = some .local) (hy : X.env.scope.names.lookup y = some .local) (ha : JA X W [a, b] t)
    (hw : swappedStores [.Tuple [.Name x px, .Name y py] kt pt] (.Tuple [a, b] k2 pt2) X.env = pure (some [x, y]))
    (hs : swapsWithSole [.Tuple [.Name x px, .Name y py] kt pt] (.Tuple [a, b] k2 pt2) pos.line X.env = pure false := by rfl) :
    JS X W (.Assign [.Tuple [.Name x px, .Name y py] kt pt] (.Tuple [a, b] k2 pt2) pos) (dPar i j t) :=
  ps_imp (ps_par hc hN hi hj hij hx hy ha hw hs) (par_read fun _ _ _ h => h)
theorem e_bltTy {x : Str} {n : String} {pos : Pos} (hg : Gl X x) (hm : X.mg x = none) (hv : bootBuiltins x = some (.type n)) (hn : x ≠ "__name__" := by decide) (hd : (x == ("__debug__" : Str)) = false := by decide) : JE X W (.Name x pos) (dC (.ty n)) :=
  pe_imp (pe_bltn hg hm hv (v := .ty n) rfl hn hd) fun σ H Q ⟨N, ρ, M, Qd, R, er, o, q, k, _⟩ => k _ _ M H (Fr.refl _ _) o (.ty n) q
end
end DL

set_option Elab.async false
set_option maxRecDepth 100000
set_option maxHeartbeats 4000000
/-! heapq: what heappush and heappop do with a list whose items are compared by a known order. -/
namespace PySem
open Sem (wp)
namespace HQ
theorem kind_push : builtinKind "_heapq.heappush" = none := by decide +kernel
theorem kind_pop : builtinKind "_heapq.heappop" = none := by decide +kernel
theorem plain_push : plainId "_heapq.heappush" = true := by decide +kernel
theorem plain_pop : plainId "_heapq.heappop" = true := by decide +kernel
theorem plain_sift : plainId "_heapq.heapify.sift" = true := by decide +kernel
theorem entry_push : entryFor table "_heapq.heappush" = some Builtin.«_heapq.heappush» := entryFor_of_fast (by kernel_rfl)
theorem entry_pop : entryFor table "_heapq.heappop" = some Builtin.«_heapq.heappop» := entryFor_of_fast (by kernel_rfl)
theorem entry_sift : entryFor table "_heapq.heapify.sift" = some Builtin.«_heapq.heapify.sift» := entryFor_of_fast (by kernel_rfl)
theorem args_push (a b : Value) : argsOk "_heapq.heappush" ⟨[a, b], []⟩ := by unfold argsOk; kernel_rfl
theorem args_pop (a : Value) : argsOk "_heapq.heappop" ⟨[a], []⟩ := by unfold argsOk; kernel_rfl

/-! ### the order's part -/
section
variable {α : Type}
def par (i : Nat) : Nat := (i - 1) / 2
/-- all but pos stand behind their parents; what stands below pos stands behind pos's parent -/
def UpOk (le : α → α → Prop) (xs : List α) (pos : Nat) : Prop :=
  (∀ i x y, 0 < i → i ≠ pos → xs[par i]? = some x → xs[i]? = some y → le x y) ∧ ∀ i x y, 0 < i → par i = pos → 0 < pos → xs[par pos]? = some x → xs[i]? = some y → le x y
def DnOk (le : α → α → Prop) (xs : List α) (pos : Nat) : Prop :=
  (∀ i x y, 0 < i → i ≠ pos → par i ≠ pos → xs[par i]? = some x → xs[i]? = some y → le x y) ∧ ∀ i x y, 0 < i → par i = pos → 0 < pos → xs[par pos]? = some x → xs[i]? = some y → le x y
def HeapOk (le : α → α → Prop) (xs : List α) : Prop := ∀ i x y, 0 < i → xs[par i]? = some x → xs[i]? = some y → le x y
def swp (xs : List α) (i j : Nat) (x y : α) : List α := (xs.set i y).set j x
theorem swp_len {xs : List α} {i j : Nat} {x y : α} : (swp xs i j x y).length = xs.length := by simp [swp]
theorem swp_perm {xs : List α} {i j : Nat} {x y : α} (hi : xs[i]? = some x) (hj : xs[j]? = some y) : (swp xs i j x y).Perm xs := by
  obtain ⟨h1, e1⟩ := List.getElem?_eq_some_iff.mp hi
  obtain ⟨h2, e2⟩ := List.getElem?_eq_some_iff.mp hj
  subst e1 e2
  exact List.set_set_perm h1 h2
theorem swp_get {xs : List α} {i j k : Nat} {x y : α} (hi : i < xs.length) (hj : j < xs.length) : (swp xs i j x y)[k]? = if k = j then some x else if k = i then some y else xs[k]? := by
  unfold swp
  rw [List.getElem?_set, List.getElem?_set]
  by_cases h1 : j = k
  · subst h1; simp [hj]
  · by_cases h2 : i = k
    · subst h2; simp [h1, Ne.symm h1, hi]
    · simp [h1, h2, Ne.symm h1, Ne.symm h2]
theorem heap_min {le : α → α → Prop} {xs : List α} (refl : ∀ x, le x x) (trans : ∀ x y z, le x y → le y z → le x z) (h : HeapOk le xs) {x : α} (h0 : xs[0]? = some x) : ∀ (i : Nat) (y : α), xs[i]? = some y → le x y := by
  intro i
  induction i using Nat.strongRecOn with
  | _ i ih =>
    intro y hy
    by_cases hi : i = 0
    · subst hi; rw [h0] at hy; cases hy; exact refl x
    · have hp : par i < i := by unfold par; omega
      obtain ⟨hl, _⟩ := List.getElem?_eq_some_iff.mp hy
      have hz : xs[par i]? = some xs[par i] := List.getElem?_eq_getElem (by omega)
      exact trans _ _ _ (ih _ hp _ hz) (h i _ _ (by omega) hz hy)
theorem up_done0 {le : α → α → Prop} {xs : List α} (h : UpOk le xs 0) : HeapOk le xs := fun i x y hi hx hy => h.1 i x y hi (by omega) hx hy
theorem up_done {le : α → α → Prop} {xs : List α} {pos : Nat} {x p : α} (h : UpOk le xs pos) (hx : xs[pos]? = some x) (hp : xs[par pos]? = some p) (l : le p x) : HeapOk le xs := fun i u v hi hu hv => by
  by_cases e : i = pos
  · subst e
    rw [hp] at hu; rw [hx] at hv; cases hu; cases hv; exact l
  · exact h.1 i u v hi e hu hv
theorem up_step {le : α → α → Prop} {xs : List α} {pos : Nat} {x p : α} (trans : ∀ x y z, le x y → le y z → le x z) (h : UpOk le xs pos) (h0 : 0 < pos) (hx : xs[pos]? = some x) (hp : xs[par pos]? = some p) (l : le x p) :
    UpOk le (swp xs (par pos) pos p x) (par pos) := by
  have hl1 : pos < xs.length := (List.getElem?_eq_some_iff.mp hx).1
  have hlt : par pos < pos := by unfold par; omega
  have hl2 : par pos < xs.length := by omega
  refine ⟨fun i u v hi ne hu hv => ?_, fun i u v hi e h0' hu hv => ?_⟩
  · rw [swp_get hl2 hl1] at hu hv
    by_cases e1 : i = pos
    · subst e1
      rw [if_neg (Nat.ne_of_lt hlt), if_pos rfl] at hu
      rw [if_pos rfl] at hv
      cases hu; cases hv; exact l
    · rw [if_neg e1, if_neg ne] at hv
      by_cases e2 : par i = pos
      · rw [if_pos e2] at hu; cases hu
        exact h.2 i _ _ hi e2 h0 hp hv
      · by_cases e3 : par i = par pos
        · rw [if_neg e2, if_pos e3] at hu; cases hu
          exact trans _ _ _ l (h.1 i _ _ hi e1 (by rw [e3]; exact hp) hv)
        · rw [if_neg e2, if_neg e3] at hu
          exact h.1 i _ _ hi e1 hu hv
  · have hpp : par (par pos) < par pos := by unfold par at h0' ⊢; omega
    rw [swp_get hl2 hl1] at hu hv
    rw [if_neg (by omega), if_neg (by omega)] at hu
    have hpar : le u p := h.1 (par pos) _ _ h0' (by omega) hu hp
    by_cases e1 : i = pos
    · rw [if_pos e1] at hv; cases hv; exact hpar
    · have e2 : i ≠ par pos := fun z => by rw [z] at e; unfold par at e h0'; omega
      rw [if_neg e1, if_neg e2] at hv
      exact trans _ _ _ hpar (h.1 i _ _ hi e1 (by rw [e]; exact hp) hv)
theorem dn_step {le : α → α → Prop} {xs : List α} {pos c : Nat} {x y : α} (h : DnOk le xs pos) (hc : par c = pos) (hc0 : 0 < c) (hx : xs[pos]? = some x) (hy : xs[c]? = some y)
    (least : ∀ i z, 0 < i → par i = pos → xs[i]? = some z → le y z) : DnOk le (swp xs c pos y x) c := by
  have hl1 : c < xs.length := (List.getElem?_eq_some_iff.mp hy).1
  have hlt : pos < c := by unfold par at hc; omega
  have hl2 : pos < xs.length := by omega
  refine ⟨fun i u v hi ne np hu hv => ?_, fun i u v hi e h0' hu hv => ?_⟩
  · rw [swp_get hl1 hl2] at hu hv
    by_cases e1 : i = pos
    · subst e1
      rw [if_pos rfl] at hv; cases hv
      have hpp : par i < i := by unfold par; omega
      rw [if_neg (by omega), if_neg np] at hu
      exact h.2 c _ _ hc0 hc hi hu hy
    · rw [if_neg e1, if_neg ne] at hv
      by_cases e2 : par i = pos
      · rw [if_pos e2] at hu; cases hu
        exact least i _ hi e2 hv
      · rw [if_neg e2, if_neg np] at hu
        exact h.1 i _ _ hi e1 e2 hu hv
  · rw [hc] at hu
    rw [swp_get hl1 hl2] at hu hv
    rw [if_pos rfl] at hu; cases hu
    have hci : c < i := by unfold par at e; omega
    rw [if_neg (by omega), if_neg (by omega)] at hv
    exact h.1 i _ _ hi (by omega) (by rw [e]; omega) (by rw [e]; exact hy) hv
theorem dn_leaf {le : α → α → Prop} {xs : List α} {pos : Nat} (h : DnOk le xs pos) (hl : ¬ pos < xs.length / 2) : UpOk le xs pos := by
  have no : ∀ i v, 0 < i → par i = pos → ¬ xs[i]? = some v := fun i v hi e hv => by
    have := (List.getElem?_eq_some_iff.mp hv).1
    unfold par at e
    omega
  exact ⟨fun i u v hi ne hu hv => h.1 i u v hi ne (fun e => no i v hi e hv) hu hv, fun i u v hi e _ _ hv => (no i v hi e hv).elim⟩
theorem push_up {le : α → α → Prop} {xs : List α} {x : α} (h : HeapOk le xs) : UpOk le (xs ++ [x]) xs.length := by
  refine ⟨fun i u v hi ne hu hv => ?_, fun i u v hi e h0 hu hv => ?_⟩
  · have hl := (List.getElem?_eq_some_iff.mp hv).1
    rw [List.length_append, List.length_singleton] at hl
    have hpar : par i < i := by unfold par; omega
    rw [List.getElem?_append_left (by omega)] at hu hv
    exact h i u v hi hu hv
  · have hl := (List.getElem?_eq_some_iff.mp hv).1
    rw [List.length_append, List.length_singleton] at hl
    unfold par at e
    omega
theorem pop_dn {le : α → α → Prop} {xs : List α} {x : α} (h : HeapOk le xs) : DnOk le (xs.dropLast.set 0 x) 0 := by
  refine ⟨fun i u v hi ne np hu hv => ?_, fun i u v _ _ h0 _ _ => absurd h0 (Nat.lt_irrefl 0)⟩
  rw [List.getElem?_set_ne (by omega)] at hu hv
  rw [List.getElem?_dropLast] at hu hv
  split at hu
  · split at hv
    · exact h i u v hi hu hv
    · cases hv
  · cases hu
end
end HQ
end PySem

set_option Elab.async false
set_option maxRecDepth 100000
set_option maxHeartbeats 4000000
namespace PySem
open Sem (wp)
namespace HQ
open Builtin
section
variable {prog : Program} {w : World} {A : Around} {E : Value → Shared → Prop} {s : Shared} {a : Addr}
/-- the list at a holds its, all else is as in s0 -/
def LAt (s0 : Shared) (a : Addr) (its : List Value) (s : Shared) : Prop :=
  ∃ h n, s = { s0 with heap := h } ∧ h.get? a = some { cls := .type "list", data := .seq its.toArray n } ∧ ∀ b o, b ≠ a → s0.heap.get? b = some o → h.get? b = some o
theorem LAt.set {s0 s : Shared} {its its' : List Value} {f : Array Value → Array Value} {Q : Unit → Shared → Prop} (h : LAt s0 a its s) (hf : f its.toArray = its'.toArray) (hz : its.length ≤ sizeLine) (hz' : its'.length ≤ sizeLine) (k : ∀ s', LAt s0 a its' s' → Q () s') :
    wpAny (model prog w) A (updateSeq a f) Q E s := by
  obtain ⟨h, n, rfl, e, r⟩ := h
  have q := PySem.IsL.update e f
  rw [hf] at q
  exact wpAny_updateSeq e rfl (k _ ⟨_, _, rfl, q, fun b o hb ho => (Heap.get?_update_other h (Obj.mapSeq f) (Ne.symm hb)).trans (r b o hb ho)⟩) (by rw [List.size_toArray]; exact hz) (by rw [hf, List.size_toArray]; omega)
/-- m reads the list at a -/
def Its (a : Addr) (m : Sem (Array Value)) : Prop := ∃ f : Option (Array Value) → Sem (Array Value), m = (seqItems? (.ref a) >>= f) ∧ ∀ xs, f (some xs) = pure xs
theorem items_ok {s0 : Shared} {its : List Value} {m : Sem (Array Value)} {Q : Array Value → Shared → Prop} (h : LAt s0 a its s) (hm : Its a m) (k : Q its.toArray s) : wpAny (model prog w) A m Q E s := by
  obtain ⟨h, n, rfl, e, r⟩ := h
  obtain ⟨f, rfl, hf⟩ := hm
  refine wpAny_bind (wpAny_seqItems e rfl ?_)
  rw [hf]
  exact wpAny_pure k
def atM : Array Value → Nat → Sem Value := fun xs i => Option.casesOn (motive := fun _ => Sem Value) xs[i]? (unsupported "internal:_heapq.index") (fun v => pure v)
def Ats (g : Array Value → Nat → Sem Value) : Prop := g = atM
theorem at_ok {its : List Value} {i : Nat} {v : Value} {m : Sem Value} {g : Array Value → Nat → Sem Value} {Q : Value → Shared → Prop} (hm : m = g its.toArray i) (hg : Ats g) (hv : its[i]? = some v) (k : Q v s) : wpAny (model prog w) A m Q E s := by
  rw [hm, show g = atM from hg]
  unfold atM
  rw [show its.toArray[i]? = some v by simpa using hv]
  exact wpAny_pure k
/-- < between items is lt -/
def Cmp (prog : Program) (w : World) (A : Around) (s0 : Shared) (a : Addr) (lt : Value → Value → Bool) (P : Value → Prop) : Prop :=
  ∀ (s : Shared) (its : List Value) (u v : Value) (Q : Value → Shared → Prop) (E : Value → Shared → Prop), LAt s0 a its s → P u → P v → Q (.bool (lt u v)) s → wpAny (model prog w) A (compareOp .Lt u v) Q E s
theorem less_ok {s0 : Shared} {lt : Value → Value → Bool} {P : Value → Prop} {its : List Value} {u v : Value} {m : Sem Bool} {Q : Bool → Shared → Prop} (C : Cmp prog w A s0 a lt P) (h : LAt s0 a its s) (hu : P u) (hv : P v)
    (hm : ∃ (it : Sem (Array Value)) (f : Bool → Array Value → Sem Bool), m = (holding [u, v] (richCompare .Lt u v >>= truthOfDropped) >>= fun l => it >>= f l) ∧ Its a it ∧ ∀ l xs, xs.size = its.toArray.size → f l xs = pure l) (k : Q (lt u v) s) : wpAny (model prog w) A m Q E s := by
  obtain ⟨it, f, rfl, hi, hf⟩ := hm
  refine wpAny_bind (wpAny_holding (wpAny_bind (C s its u v _ _ h hu hv (wpAny_truthy_bool (wpAny_bind (items_ok h hi ?_))))))
  rw [hf _ _ rfl]
  exact wpAny_pure k
theorem swap_ok {s0 : Shared} {its : List Value} {i j : Nat} {x y : Value} {m : Sem Unit} {Q : Unit → Shared → Prop} (h : LAt s0 a its s) (hx : its[i]? = some x) (hy : its[j]? = some y) (hz : its.length ≤ sizeLine)
    (hm : ∃ (it : Sem (Array Value)) (g : Array Value → Nat → Sem Value), m = (it >>= fun xs => g xs i >>= fun x => g xs j >>= fun y =>
      updateSeq a fun xs => (xs.setIfInBounds i y).setIfInBounds j x) ∧ Its a it ∧ Ats g) (k : ∀ s', LAt s0 a (swp its i j x y) s' → Q () s') : wpAny (model prog w) A m Q E s := by
  obtain ⟨it, g, rfl, hi, hg⟩ := hm
  refine wpAny_bind (items_ok h hi (wpAny_bind (at_ok rfl hg hx (wpAny_bind (at_ok rfl hg hy ?_)))))
  exact h.set (its' := swp its i j x y) (by simp [swp]) hz (by rw [swp_len]; exact hz) k
/-- lt is a strict total order on what is there -/
structure Ord (lt : Value → Value → Bool) (P : Value → Prop) : Prop where
  le_trans : ∀ x y z, lt y x = false → lt z y = false → lt z x = false
  lt_le : ∀ x y, lt x y = true → lt y x = false
  refl : ∀ x, lt x x = false
abbrev Le (lt : Value → Value → Bool) (x y : Value) : Prop := lt y x = false
abbrev siftC (a : Addr) (down : Bool) (pos : Nat) (result : Value) : Code := .builtin "_heapq.heapify.sift" ⟨[.ref a, .bool false, .bool down, rawInt pos, rawInt (0 : Nat), result, rawInt (-1)], []⟩
variable {R : Result → Shared → Prop}
theorem sift_up {s0 : Shared} {lt : Value → Value → Bool} {P : Value → Prop} (C : Cmp prog w A.in1 s0 a lt P) (O : Ord lt P) {result : Value} (pos : Nat) : ∀ {s : Shared} {its : List Value}, LAt s0 a its s → (∀ v ∈ its, P v) → its.length ≤ sizeLine → pos < its.length →
    UpOk (Le lt) its pos → (∀ its' s', its'.Perm its → HeapOk (Le lt) its' → LAt s0 a its' s' → R (.ok (.ret result)) s') → codeAny (model prog w) A (siftC a false pos result) R s := by
  induction pos using Nat.strongRecOn with
  | _ pos ih =>
    intro s its h hP hz hl hU k
    refine codeAny_builtin entry_sift ?_
    rw [Around.under_plainId plain_sift _]
    unfold Builtin.«_heapq.heapify.sift»
    refine wpAny_bind (items_ok h ⟨_, rfl, fun _ => rfl⟩ ?_)
    show wpAny _ _ (if pos > 0 then _ else _) _ _ _
    by_cases h0 : pos > 0
    · rw [if_pos h0]
      have hpl : par pos < its.length := by unfold par; omega
      have hx : its[pos]? = some its[pos] := List.getElem?_eq_getElem hl
      have hp : its[par pos]? = some its[par pos] := List.getElem?_eq_getElem hpl
      rw [show ((pos : Nat) : Int).toNat = pos from rfl]
      refine wpAny_bind (at_ok rfl (by show _ = _; kernel_rfl) hx (wpAny_bind (at_ok (i := (pos - 1) / 2) rfl (by show _ = _; kernel_rfl) hp ?_)))
      show wpAny _ _ (_ >>= fun b : Bool => _) _ _ _
      refine wpAny_bind (less_ok C h (hP _ (List.getElem_mem hl)) (hP _ (List.getElem_mem hpl)) ⟨_, _, rfl, ⟨_, rfl, fun _ => rfl⟩, fun l xs e => by simp [e]⟩ ?_)
      cases hlt : lt its[pos] its[par pos] with
      | true =>
        show wpAny _ _ (_ >>= fun _ : Unit => _) _ _ _
        refine wpAny_bind (swap_ok h hp hx hz ⟨_, _, rfl, ⟨_, rfl, fun _ => rfl⟩, by show _ = _; kernel_rfl⟩ fun s' h' => wpAny_pure ⟨plainId_quiet plain_sift _, ?_⟩)
        have pm := swp_perm hp hx
        refine ih (par pos) (by unfold par; omega) h' (fun v hv => hP v (pm.mem_iff.mp hv)) (by rw [swp_len]; exact hz) (by rw [swp_len]; exact hpl) (up_step O.le_trans hU h0 hx hp (O.lt_le _ _ hlt)) fun its' s'' p2 ok2 h2 => k its' s'' (p2.trans pm) ok2 h2
      | false => exact wpAny_pure (k its s (.refl _) (up_done hU hx hp hlt) h)
    · rw [if_neg h0]
      have e : pos = 0 := by omega
      subst e
      exact wpAny_pure (k its s (.refl _) (up_done0 hU) h)
theorem sift_dn {s0 : Shared} {lt : Value → Value → Bool} {P : Value → Prop} (C : Cmp prog w A.in1 s0 a lt P) (O : Ord lt P) {result : Value} (m : Nat) : ∀ {pos : Nat} {s : Shared} {its : List Value}, its.length - pos ≤ m → LAt s0 a its s → (∀ v ∈ its, P v) → its.length ≤ sizeLine → pos < its.length →
    DnOk (Le lt) its pos → (∀ its' s', its'.Perm its → HeapOk (Le lt) its' → LAt s0 a its' s' → R (.ok (.ret result)) s') → codeAny (model prog w) A (siftC a true pos result) R s := by
  induction m with
  | zero => intro pos s its hm _ _ _ hl; omega
  | succ m ih =>
    intro pos s its hm h hP hz hl hD k
    refine codeAny_builtin entry_sift ?_
    rw [Around.under_plainId plain_sift _]
    unfold Builtin.«_heapq.heapify.sift»
    refine wpAny_bind (items_ok h ⟨_, rfl, fun _ => rfl⟩ ?_)
    show wpAny _ _ (if pos < its.toArray.size / 2 then _ else _) _ _ _
    rw [List.size_toArray]
    by_cases hc : pos < its.length / 2
    · rw [if_pos hc]
      have hx : its[pos]? = some its[pos] := List.getElem?_eq_getElem hl
      have hL : 2 * pos + 1 < its.length := by omega
      have hl1 : its[2 * pos + 1]? = some its[2 * pos + 1] := List.getElem?_eq_getElem hL
      have go : ∀ c, c = 2 * pos + 1 ∨ c = 2 * pos + 2 → (hcl : c < its.length) → (∀ i z, 0 < i → par i = pos → its[i]? = some z → Le lt its[c] z) →
          ∀ s1, LAt s0 a (swp its c pos its[c] its[pos]) s1 → codeAny (model prog w) A (siftC a true c result) R s1 := by
        intro c hc2 hcl least s1 h1
        have hpc : par c = pos := by unfold par; omega
        have hy : its[c]? = some its[c] := List.getElem?_eq_getElem hcl
        have pm := swp_perm hy hx
        exact ih (by rw [swp_len]; omega) h1 (fun v hv => hP v (pm.mem_iff.mp hv)) (by rw [swp_len]; exact hz) (by rw [swp_len]; exact hcl) (dn_step hD hpc (by omega) hx hy least) fun its' s'' p2 ok2 h2 => k its' s'' (p2.trans pm) ok2 h2
      rw [show ((pos : Nat) : Int).toNat = pos from rfl]
      show wpAny _ _ (if 2 * pos + 1 + 1 < its.toArray.size then _ else _) _ _ _
      rw [List.size_toArray]
      by_cases h2 : 2 * pos + 1 + 1 < its.length
      · rw [if_pos h2]
        have hl2 : its[2 * pos + 1 + 1]? = some its[2 * pos + 1 + 1] := List.getElem?_eq_getElem h2
        refine wpAny_bind (at_ok rfl (by show _ = _; kernel_rfl) hl1 (wpAny_bind (at_ok rfl (by show _ = _; kernel_rfl) hl2 ?_)))
        show wpAny _ _ (_ >>= fun b : Bool => _) _ _ _
        refine wpAny_bind (less_ok C h (hP _ (List.getElem_mem hL)) (hP _ (List.getElem_mem h2)) ⟨_, _, rfl, ⟨_, rfl, fun _ => rfl⟩, fun l xs e => by simp [e]⟩ ?_)
        cases hlt : lt its[2 * pos + 1] its[2 * pos + 1 + 1] with
        | true =>
          show wpAny _ _ (_ >>= fun _ : Unit => _) _ _ _
          refine wpAny_bind (swap_ok h hl1 hx hz ⟨_, _, rfl, ⟨_, rfl, fun _ => rfl⟩, by show _ = _; kernel_rfl⟩ fun s' h' => wpAny_pure ⟨plainId_quiet plain_sift _, ?_⟩)
          refine go _ (.inl rfl) hL (fun i z hi hp hz' => ?_) s' h'
          have e : i = 2 * pos + 1 ∨ i = 2 * pos + 1 + 1 := by unfold par at hp; omega
          rcases e with e | e
          · subst e; rw [hl1] at hz'; cases hz'; exact O.refl _
          · subst e; rw [hl2] at hz'; cases hz'; exact O.lt_le _ _ hlt
        | false =>
          show wpAny _ _ (_ >>= fun _ : Unit => _) _ _ _
          refine wpAny_bind (swap_ok h hl2 hx hz ⟨_, _, rfl, ⟨_, rfl, fun _ => rfl⟩, by show _ = _; kernel_rfl⟩ fun s' h' => wpAny_pure ⟨plainId_quiet plain_sift _, ?_⟩)
          refine go _ (.inr rfl) h2 (fun i z hi hp hz' => ?_) s' h'
          have e : i = 2 * pos + 1 ∨ i = 2 * pos + 1 + 1 := by unfold par at hp; omega
          rcases e with e | e
          · subst e; rw [hl1] at hz'; cases hz'; exact hlt
          · subst e; rw [hl2] at hz'; cases hz'; exact O.refl _
      · rw [if_neg h2]
        show wpAny _ _ (_ >>= fun _ : Unit => _) _ _ _
        refine wpAny_bind (swap_ok h hl1 hx hz ⟨_, _, rfl, ⟨_, rfl, fun _ => rfl⟩, by show _ = _; kernel_rfl⟩ fun s' h' => wpAny_pure ⟨plainId_quiet plain_sift _, ?_⟩)
        refine go _ (.inl rfl) hL (fun i z hi hp hz' => ?_) s' h'
        have hi2 := (List.getElem?_eq_some_iff.mp hz').1
        have e : i = 2 * pos + 1 := by unfold par at hp; omega
        subst e; rw [hl1] at hz'; cases hz'; exact O.refl _
    · rw [if_neg hc]
      refine wpAny_pure ⟨plainId_quiet plain_sift _, sift_up C O pos h hP hz hl (dn_leaf hD hc) k⟩
theorem push_ok {lt : Value → Value → Bool} {P : Value → Prop} {its : List Value} {v : Value} {Q : Value → Shared → Prop} (C : Cmp prog w A.in1 s a lt P) (O : Ord lt P) (h : LAt s a its s) (hP : ∀ u ∈ its, P u) (hv : P v) (hz : its.length < sizeLine) (hH : HeapOk (Le lt) its)
    (k : ∀ its' s', its'.Perm (v :: its) → HeapOk (Le lt) its' → LAt s a its' s' → Q .none s') : wpAny (model prog w) A (call (.builtin "_heapq.heappush") [.ref a, v]) Q E s := by
  refine call_function_tree kind_push plain_push entry_push (args_push _ _) ?_
  unfold Builtin.«_heapq.heappush»
  obtain ⟨hp, n, es, eh, er⟩ := id h
  have hT : s.TypeIs (.ref a) "list" := ⟨_, by rw [es]; exact eh, rfl⟩
  refine wpAny_bind ?_
  show wpAny _ _ (noKeywords _ _ >>= fun _ => _) _ _ _
  refine wpAny_bind (m := noKeywords _ _) (wpAny_pure ?_)
  refine wpAny_bind (m := checkCount _ 2 2 _) (wpAny_pure ?_)
  show wpAny _ _ (_ >>= fun _ : Addr => _) _ _ _
  refine wpAny_bind ?_
  show wpAny _ _ (isInstance _ _ >>= fun _ => _) _ _ _
  refine wpAny_bind (wpAny_isInstance (T := "list") (b := true) hT (by first | rfl | decide +kernel | kernel_rfl) ?_)
  refine wpAny_pure (wpAny_pure ?_)
  show wpAny _ _ (_ >>= fun _ : Unit => _) _ _ _
  refine wpAny_bind (h.set (its' := its ++ [v]) (by simp) (by omega) (by simp; omega) fun s1 h1 => ?_)
  refine wpAny_bind (items_ok h1 ⟨_, rfl, fun _ => rfl⟩ ?_)
  refine wpAny_pure ⟨plainId_quiet plain_sift _, ?_⟩
  have e : (its ++ [v]).toArray.size - 1 = its.length := by simp
  rw [e]
  refine sift_up C O its.length h1 (fun u hu => ?_) (by simp; omega) (by simp) (push_up hH) fun its' s' pm hh hl => k its' s' (pm.trans (List.perm_append_singleton v its)) hh hl
  rcases List.mem_append.mp hu with q | q
  · exact hP u q
  · rw [List.mem_singleton.mp q]; exact hv
theorem pop_ok {lt : Value → Value → Bool} {P : Value → Prop} {its : List Value} {Q : Value → Shared → Prop} (C : Cmp prog w A.in1 s a lt P) (O : Ord lt P) (h : LAt s a its s) (hP : ∀ u ∈ its, P u) (hn : its ≠ []) (hz : its.length ≤ sizeLine) (hH : HeapOk (Le lt) its)
    (k : ∀ v its' s', (v :: its').Perm its → HeapOk (Le lt) its' → (∀ u ∈ its, Le lt v u) → LAt s a its' s' → Q v s') : wpAny (model prog w) A (call (.builtin "_heapq.heappop") [.ref a]) Q E s := by
  refine call_function_tree kind_pop plain_pop entry_pop (args_pop _) ?_
  unfold Builtin.«_heapq.heappop»
  obtain ⟨hp, n, es, eh, er⟩ := id h
  have hT : s.TypeIs (.ref a) "list" := ⟨_, by rw [es]; exact eh, rfl⟩
  show wpAny _ _ (_ >>= fun _ : Value × Addr => _) _ _ _
  refine wpAny_bind ?_
  show wpAny _ _ (oneArg _ _ >>= fun _ => _) _ _ _
  refine wpAny_bind (m := oneArg _ _) (wpAny_pure ?_)
  show wpAny _ _ (_ >>= fun _ : Addr => _) _ _ _
  refine wpAny_bind ?_
  show wpAny _ _ (isInstance _ _ >>= fun _ => _) _ _ _
  refine wpAny_bind (wpAny_isInstance (T := "list") (b := true) hT (by first | rfl | decide +kernel | kernel_rfl) ?_)
  refine wpAny_pure (wpAny_pure ?_)
  show wpAny _ _ (_ >>= fun _ : Array Value => _) _ _ _
  refine wpAny_bind (items_ok h ⟨_, rfl, fun _ => rfl⟩ ?_)
  have hb : its.toArray.back? = some (its.getLast hn) := by rw [List.back?_toArray]; exact List.getLast?_eq_some_getLast hn
  rw [hb]
  show wpAny _ _ (_ >>= fun _ : Unit => _) _ _ _
  refine wpAny_bind (h.set (its' := its.dropLast) (by simp) hz (by simp; omega) fun s1 h1 => ?_)
  rw [List.size_toArray]
  have h0 : 0 < its.length := List.length_pos_iff.mpr hn
  have refl : ∀ x, Le lt x x := O.refl
  have trans : ∀ x y z, Le lt x y → Le lt y z → Le lt x z := O.le_trans
  by_cases h1' : its.length = 1
  · rw [if_pos (by simp [h1'])]
    obtain ⟨v, rfl⟩ : ∃ v, its = [v] := List.length_eq_one_iff.mp h1'
    refine wpAny_pure (k v [] s1 (.refl _) (fun i x y hi hx hy => by simp at hy) (fun u hu => ?_) h1)
    rw [List.mem_singleton.mp hu]; exact O.refl v
  · rw [if_neg (by simp [h1'])]
    have hd : its.dropLast.length = its.length - 1 := List.length_dropLast
    have f0 : its[0]? = some its[0] := List.getElem?_eq_getElem h0
    refine wpAny_bind (at_ok rfl (by show _ = _; kernel_rfl) f0 ?_)
    refine wpAny_bind (h1.set (its' := its.dropLast.set 0 (its.getLast hn)) (by simp) (by omega) (by simp; omega) fun s2 h2 => ?_)
    refine wpAny_pure ⟨plainId_quiet plain_sift _, ?_⟩
    have hl2 : 0 < (its.dropLast.set 0 (its.getLast hn)).length := by rw [List.length_set, hd]; omega
    have mem : ∀ v ∈ its.dropLast.set 0 (its.getLast hn), P v := fun v hv => by
      rcases List.mem_or_eq_of_mem_set hv with q | q
      · exact hP v ((List.dropLast_sublist its).mem q)
      · rw [q]; exact hP _ (List.getLast_mem hn)
    have pm : (its[0] :: its.dropLast.set 0 (its.getLast hn)).Perm its := by
      have e1 : its = its.dropLast ++ [its.getLast hn] := (List.dropLast_concat_getLast hn).symm
      have hdn : its.dropLast ≠ [] := fun z => by rw [z] at hd; simp at hd; omega
      obtain ⟨x, r, er⟩ := List.exists_cons_of_ne_nil hdn
      have e2 : its[0] = x := by
        have z : its[0]? = some x := by rw [e1, er]; rfl
        rw [f0] at z; exact Option.some.inj z
      rw [e2, er]
      show (x :: its.getLast hn :: r).Perm its
      have e3 : its = x :: (r ++ [its.getLast hn]) := by
        have z := e1
        rw [er] at z
        exact z
      have e4 : (x :: its.getLast hn :: r).Perm (x :: (r ++ [its.getLast hn])) := (List.perm_append_singleton _ r).symm.cons x
      rw [← e3] at e4
      exact e4
    exact sift_dn C O (its.dropLast.set 0 (its.getLast hn)).length (by omega) h2 mem (by rw [List.length_set, hd]; omega) hl2 (pop_dn hH) fun its' s' p2 ok2 h3 =>
      k its[0] its' s' ((p2.cons _).trans pm) ok2 (fun u hu => by
        obtain ⟨i, hi, e⟩ := List.mem_iff_getElem.mp hu
        exact heap_min refl trans hH f0 i u (by rw [← e]; exact List.getElem?_eq_getElem hi)) h3
end
end HQ
end PySem

set_option Elab.async false
set_option maxRecDepth 100000
set_option maxHeartbeats 4000000
/-! The data layer: heappush, heappop on a list of tuples of ints. -/
namespace DL
open PySem PySem.Spec L2
open PySem.HQ (LAt Ord HeapOk Le)
/-- the order of tuples of ints -/
abbrev LeI (x y : List Int) : Prop := HT.lexLt y x = false
theorem lex_irr : ∀ x : List Int, HT.lexLt x x = false
  | [] => rfl
  | a :: x => by rw [HT.lexLt_cons, if_pos rfl]; exact lex_irr x
theorem lex_asym : ∀ x y : List Int, HT.lexLt x y = true → HT.lexLt y x = false
  | [], [], h => by cases h
  | [], _ :: _, _ => rfl
  | _ :: _, [], h => by cases h
  | a :: x, b :: y, h => by
    rw [HT.lexLt_cons] at h ⊢
    by_cases e : a = b
    · rw [if_pos e] at h; rw [if_pos e.symm]; exact lex_asym x y h
    · rw [if_neg e] at h; rw [if_neg (Ne.symm e)]
      have := of_decide_eq_true h
      exact decide_eq_false (by omega)
theorem lex_trans : ∀ x y z : List Int, HT.lexLt y x = false → HT.lexLt z y = false → HT.lexLt z x = false
  | [], y, z, h1, h2 => by cases z <;> cases y <;> simp_all [HT.lexLt]
  | a :: x, [], z, h1, h2 => by cases h1
  | a :: x, b :: y, [], h1, h2 => by cases h2
  | a :: x, b :: y, c :: z, h1, h2 => by
    rw [HT.lexLt_cons] at h1 h2 ⊢
    by_cases e1 : b = a
    · rw [if_pos e1] at h1
      by_cases e2 : c = b
      · rw [if_pos e2] at h2; rw [if_pos (e2.trans e1)]; exact lex_trans x y z h1 h2
      · rw [if_neg e2] at h2; rw [if_neg (fun q => e2 (q.trans e1.symm))]
        have := of_decide_eq_false h2
        exact decide_eq_false (by omega)
    · rw [if_neg e1] at h1
      have h1' := of_decide_eq_false h1
      by_cases e2 : c = b
      · rw [if_neg (fun q => e1 (e2.symm.trans q))]; exact decide_eq_false (by omega)
      · rw [if_neg e2] at h2
        have h2' := of_decide_eq_false h2
        rw [if_neg (by omega)]; exact decide_eq_false (by omega)
/-- the value stands for a tuple of these ints -/
def TK (H : Hp) (u : Value) (ns : List Int) : Prop := ∃ b, u = .ref b ∧ H b = some (.tup (ns.map V.int))
theorem TK.inj {H : Hp} {u : Value} {ns ms : List Int} (h1 : TK H u ns) (h2 : TK H u ms) : ns = ms := by
  obtain ⟨a, e1, q1⟩ := h1
  obtain ⟨b, e2, q2⟩ := h2
  rw [e1] at e2; cases e2
  rw [q1] at q2
  injection q2 with q2
  injection q2 with q2
  exact List.map_inj_right (fun x y z => by injection z) |>.mp q2
open Classical in
noncomputable def key (H : Hp) (u : Value) : List Int := if h : ∃ ns, TK H u ns then h.choose else []
theorem key_of {H : Hp} {u : Value} {ns : List Int} (h : TK H u ns) : key H u = ns := by
  unfold key
  have he : ∃ ns, TK H u ns := ⟨ns, h⟩
  rw [dif_pos he]
  exact he.choose_spec.inj h
theorem intsD_ints : ∀ ns : List Int, intsD (ns.map D.int) = some ns
  | [] => rfl
  | n :: ns => by simp only [List.map_cons, intsD, intsD_ints ns]
theorem Rep.tk {K : KN} {H : Hp} {M : MS} {ns : List Int} {v : V} {u : Value} (r : Rep K H M (tupOf ns) v) (ru : RelV v u) : TK H u ns := by
  unfold tupOf at r
  cases r with
  | tup t rs =>
    have e := rs.intsD (intsD_ints ns)
    subst e
    cases ru
    exact ⟨_, rfl, t.1⟩
theorem vals_perm {us' us : List Value} (h : us'.Perm us) : ∀ {vs : List V}, Vals vs us → ∃ vs' : List V, vs'.Perm vs ∧ Vals vs' us' := by
  induction h with
  | nil => intro vs r; cases r; exact ⟨[], .nil, .nil⟩
  | cons x _ ih =>
    intro vs r
    cases r with
    | cons r t =>
      obtain ⟨es, p, q⟩ := ih t
      exact ⟨_ :: es, p.cons _, .cons r q⟩
  | swap x y l =>
    intro vs r
    cases r with
    | cons r t =>
      cases t with
      | cons r2 t => exact ⟨_, List.Perm.swap _ _ _, .cons r2 (.cons r t)⟩
  | trans _ _ ih1 ih2 =>
    intro vs r
    obtain ⟨es, p, q⟩ := ih2 r
    obtain ⟨fs, p2, q2⟩ := ih1 q
    exact ⟨fs, p2.trans p, q2⟩
/-- data, values, cells of a list of tuples of ints, side by side -/
theorem keys_of {K : KN} {H : Hp} {M : MS} : ∀ {l : List (List Int)} {vs : List V} {us : List Value}, Reps K H M (l.map tupOf) vs → Vals vs us → us.map (key H) = l ∧ ∀ u ∈ us, ∃ ns, TK H u ns
  | [], _, _, .nil, .nil => ⟨rfl, fun u hu => by cases hu⟩
  | ns :: l, _, _, .cons r t, .cons ru tu => by
    obtain ⟨h1, h2⟩ := keys_of t tu
    have h := r.tk ru
    refine ⟨by rw [List.map_cons, h1, key_of h], fun u hu => ?_⟩
    rcases List.mem_cons.mp hu with e | e
    · rw [e]; exact ⟨ns, h⟩
    · exact h2 u e
theorem heap_keys {H : Hp} {us : List Value} : HeapOk (Le fun u v => HT.lexLt (key H u) (key H v)) us ↔ HeapOk LeI (us.map (key H)) := by
  constructor
  · intro h i x y hi hx hy
    rw [List.getElem?_map] at hx hy
    obtain ⟨u, hu, rfl⟩ := Option.map_eq_some_iff.mp hx
    obtain ⟨v, hv, rfl⟩ := Option.map_eq_some_iff.mp hy
    exact h i u v hi hu hv
  · intro h i u v hi hu hv
    exact h i _ _ hi (by rw [List.getElem?_map, hu]; rfl) (by rw [List.getElem?_map, hv]; rfl)
def ordK (H : Hp) : Ord (fun u v => HT.lexLt (key H u) (key H v)) (fun u => ∃ ns, TK H u ns) where
  le_trans := fun x y z h1 h2 => lex_trans _ _ _ h1 h2
  lt_le := fun x y h => lex_asym _ _ h
  refl := fun x => lex_irr _
section
variable {X : Cx}
theorem cmp_keys {pins : List (Addr × Obj)} {σ : L2.St} {H : Hp} {s : Shared} {a : Addr} {xs : List V} (hu : X.A.units + 1 < cLine) (I : Inv X pins σ H s) (ha : H a = some (.lst xs)) :
    HQ.Cmp X.prog X.w X.A.in1 s a (fun u v => HT.lexLt (key H u) (key H v)) (fun u => ∃ ns, TK H u ns) := by
  intro s' its u v Q E h ⟨ns, hu1⟩ ⟨ms, hv1⟩ q
  replace q : Q (.bool (HT.lexLt (key H u) (key H v))) s' := q
  rw [key_of hu1, key_of hv1] at q
  obtain ⟨b, rfl, e1⟩ := hu1
  obtain ⟨c, rfl, e2⟩ := hv1
  obtain ⟨h', n, rfl, e, r⟩ := h
  have nb : b ≠ a := fun z => by rw [z, ha] at e1; cases e1
  have nc : c ≠ a := fun z => by rw [z, ha] at e2; cases e2
  obtain ⟨its1, r1, p1, _⟩ := I.tuple (.inl (.inl e1))
  obtain ⟨its2, r2, p2, _⟩ := I.tuple (.inl (.inl e2))
  have i1 : PyProof.Rows.IntsAre its1.toArray.toList ns := intsAre_of r1
  have i2 : PyProof.Rows.IntsAre its2.toArray.toList ms := intsAre_of r2
  have p1' : PyProof.Rows.IsTup h' b its1.toArray := by
    obtain ⟨o, ho, rest⟩ := p1
    exact ⟨o, r b o nb ho, rest⟩
  have p2' : PyProof.Rows.IsTup h' c its2.toArray := by
    obtain ⟨o, ho, rest⟩ := p2
    exact ⟨o, r c o nc ho, rest⟩
  exact HT.lt_tupInts (s := { s with heap := h' }) p1' p2' i1 i2 (by show X.A.units + 1 < cLine; exact hu) q
theorem lat_inv {pins : List (Addr × Obj)} {σ : L2.St} {H : Hp} {s s' : Shared} {a : Addr} {xs ys : List V} {its : List Value} (I : Inv X pins σ H s) (ha : H a = some (.lst xs)) (h : LAt s a its s') (r : Vals ys its) (hz : ys.length ≤ sizeLine) :
    Inv X pins σ (upd H a (.lst ys)) s' := by
  obtain ⟨h', n, rfl, e, k⟩ := h
  refine I.write (x := a) (e := a) (t' := s.toks) (by rw [ha]; exact trivial) (.inl rfl) (fun b u hb hu => k b u hb hu) ⟨_, e⟩ ?_
  exact ⟨hz, its, n, r, e⟩
theorem lat_here {pins : List (Addr × Obj)} {σ : L2.St} {H : Hp} {s : Shared} {a : Addr} {xs : List V} (I : Inv X pins σ H s) (ha : H a = some (.lst xs)) : xs.length ≤ sizeLine ∧ ∃ its, Vals xs its ∧ LAt s a its s := by
  obtain ⟨z, its, n, r, hl, e⟩ := I.lstM ha
  exact ⟨z, its, r, s.heap, n, rfl, e, fun b o _ h => h⟩
def gHeappush : GB := fun ds M Q => ∃ a ms xs l, ds = [.ref a, tupOf ms] ∧ M a = some (.lst xs) ∧ tupsI xs = some l ∧ l.length < sizeLine ∧ HeapOk LeI l ∧
  ∀ l' : List (List Int), l'.Perm (ms :: l) → HeapOk LeI l' → Q .non (M.set a (.lst (l'.map tupOf)))
def gHeappop : GB := fun ds M Q => ∃ a xs l, ds = [.ref a] ∧ M a = some (.lst xs) ∧ tupsI xs = some l ∧ l ≠ [] ∧ HeapOk LeI l ∧
  ∀ (ms : List Int) (l' : List (List Int)), (ms :: l').Perm l → HeapOk LeI l' → (∀ n ∈ l, LeI ms n) → Q (tupOf ms) (M.set a (.lst (l'.map tupOf)))
theorem c_heappush (hu : X.A.units + 1 < cLine) : CallD X (.builtin "_heapq.heappush") gHeappush := by
  intro pins s σ H vs us Q I r ⟨N, M, ds, Qd, o, rs, ⟨a, ms, xs, l, e, h1, h2, h3, h4, q⟩, k⟩
  subst e
  cases rs with | cons r1 rs =>
  cases rs with | @cons _ vy _ _ r2 rs =>
  cases rs
  cases r1
  cases r with | cons ra r =>
  cases r with | @cons _ uy _ _ ry r =>
  cases r
  cases ra
  have e4 := tupsI_map h2
  subst e4
  obtain ⟨ws, g1, g2⟩ := o.at_ a _ h1
  obtain ⟨hz, its, rv, hL⟩ := lat_here I g1
  obtain ⟨k1, k2⟩ := keys_of g2 rv
  have hlen : its.length = l.length := by rw [← rv.length, ← g2.length, List.length_map]
  refine HQ.push_ok (cmp_keys hu I g1) (ordK H) hL k2 ⟨ms, r2.tk ry⟩ (by omega) (heap_keys.mpr (by rw [k1]; exact h4)) fun its' s' pm hh hl => ?_
  obtain ⟨vs', pv, rv'⟩ := vals_perm pm (.cons ry rv)
  obtain ⟨es, pe, re⟩ := perm_back pv (.cons r2 g2)
  obtain ⟨l', e5, p2⟩ := perm_map_inv pe (l := ms :: l) rfl
  subst e5
  have hlen' : vs'.length ≤ sizeLine := by rw [pv.length_eq, List.length_cons, ← g2.length, List.length_map]; omega
  refine ⟨.non, _, lat_inv I g1 hl rv' hlen', rfl, k _ _ _ _ (Fr.put h1) (own_put o h1 re) .non (q l' p2 ?_)⟩
  rw [← (keys_of re rv').1]
  exact heap_keys.mp hh
theorem c_heappop (hu : X.A.units + 1 < cLine) : CallD X (.builtin "_heapq.heappop") gHeappop := by
  intro pins s σ H vs us Q I r ⟨N, M, ds, Qd, o, rs, ⟨a, xs, l, e, h1, h2, h3, h4, q⟩, k⟩
  subst e
  cases rs with | cons r1 rs =>
  cases rs
  cases r1
  cases r with | cons ra r =>
  cases r
  cases ra
  have e4 := tupsI_map h2
  subst e4
  obtain ⟨ws, g1, g2⟩ := o.at_ a _ h1
  obtain ⟨hz, its, rv, hL⟩ := lat_here I g1
  obtain ⟨k1, k2⟩ := keys_of g2 rv
  have hlen : its.length = l.length := by rw [← rv.length, ← g2.length, List.length_map]
  have hne : its ≠ [] := fun z => h3 (List.eq_nil_of_length_eq_zero (by rw [← hlen, z]; rfl))
  refine HQ.pop_ok (cmp_keys hu I g1) (ordK H) hL k2 hne (by rw [← rv.length]; exact hz) (heap_keys.mpr (by rw [k1]; exact h4)) fun v its' s' pm hh hmin hl => ?_
  obtain ⟨vs', pv, rv'⟩ := vals_perm pm rv
  obtain ⟨es, pe, re⟩ := perm_back pv g2
  obtain ⟨l', e5, p2⟩ := perm_map_inv pe (l := l) rfl
  subst e5
  cases rv' with | @cons vy _ vs2 _ ry rv2 =>
  cases l' with
  | nil => cases re
  | cons ms l2 =>
    cases re with | cons r0 re =>
    have hlen' : vs2.length ≤ sizeLine := by
      have z := pv.length_eq
      rw [List.length_cons] at z
      omega
    have hk := r0.tk ry
    refine ⟨vy, _, lat_inv I g1 hl rv2 hlen', ry, k _ _ _ _ (Fr.put h1) (own_put o h1 re) (r0.mono (Fr.put h1)) (q ms l2 p2 ?_ fun n hn => ?_)⟩
    · rw [← (keys_of re rv2).1]
      exact heap_keys.mp hh
    · rw [← k1] at hn
      obtain ⟨u, hu', rfl⟩ := List.mem_map.mp hn
      have z := hmin u hu'
      have e0 : key H v = ms := key_of hk
      show HT.lexLt (key H u) ms = false
      rw [← e0]
      exact z
end
end DL

set_option Elab.async false
set_option maxRecDepth 100000
set_option maxHeartbeats 4000000
/-! The data layer: what a law's text gives (its classes, its defs), and the __init__ of Refused. -/
namespace DL
open PySem PySem.Spec L2
open PyProof.Rows (envOfC)
/-- the classes by their numbers -/
structure GEnv where
  K : PySem.W.Frag
  cls : Nat → Addr
  isCls : Addr → Prop
  isExc : Addr → Prop
abbrev GEnv.kit (G : GEnv) : Value → Value → Option Bool := PySem.W.kitOne G.K
abbrev GEnv.exm (G : GEnv) : Addr → Addr → Option Bool := exmK G.K
/-- a def of the text and its place -/
structure DefF (K : PySem.W.Frag) (mg : Str → Option Value) (x : Str) (st : Stmt) (f : Addr) (fd : FuncData) : Prop where
  F : Fun K x x st f fd
  m : mg x = some (.ref f)
theorem _root_.L2.Fun.kw {K : PySem.W.Frag} {x qual : Str} {st : Stmt} {f : Addr} {fd : FuncData} {ps ks : List Str} {n : Nat} {ix : List Nat} (F : Fun K x qual st f fd)
    (h : ∀ (kV doc pm : Value) (an : Option Addr) (cdv ct : Value) (us ws : List Value), us.length = n → ws.length = ks.length → bindArgs (PySem.W.fnOf x qual (defArgs st) (defBody st) (defScope st) .none kV doc pm an cdv ct) ⟨us, ks.zip ws⟩ = pure (ps.zip (perm ix (us ++ ws) .none))) : KwOk fd ps ks n ix := by
  obtain ⟨oc, od, kV, doc, pm, an, cdv, ct, osl, rfl, lk, hcd⟩ := F.ex
  exact h kV doc pm an cdv ct
section
variable {P : Program} {w : World} {K : PySem.W.Frag} {mg : Str → Option Value} {base : Heap}
theorem ok_refI {st : Stmt} {f : Addr} {fd : FuncData} {p1 p2 p3 p4 : Pos} (F : Fun K "__init__" "Refused.__init__" st f fd) (S : FnScope ["self", kWhat] ["self", kWhat] (defScope st))
    (v0 : (defScope st).names.lookup ("self" : Str) = some .local) (v1 : (defScope st).names.lookup kWhat = some .local) (hb : defBody st = [.Assign [.Attribute (.Name "self" p1) kWhat p2] (.Name kWhat p3) p4]) : FnOk P w K mg base CX0 1 f fd ["self", kWhat] (spRI K) := by
  refine F.ok S (fun vs H Q E h => ?_) (fun cdv A outer s H vs Q E hr h => ?_)
  · obtain ⟨a, C, v, rfl, _⟩ := h
    rfl
  · obtain ⟨a, C, v, rfl, h1, h2, h3, h4⟩ := h
    rw [hb]
    refine ⟨_, pss_one (ps_ost (pv 0 (hv := .inl v0)) (pv 1 (hv := .inl v1))), ?_⟩
    refine ⟨v, rfl, .ref a, rfl, a, C, rfl, h2, h3, .inl ⟨h1, fun dx e ne => h4 dx e ne⟩⟩
end
/-- the rooms that the rules ask for -/
theorem room_units {k : Nat} {A : Around} (hr : Room k A) : A.units < cLine ∧ A.units + 1 < cLine ∧ A.units + 64 < cLine ∧ A.units + 65 < cLine := by
  have := hr.un
  exact ⟨by omega, by omega, by omega, by omega⟩
end DL

set_option Elab.async false
set_option maxRecDepth 100000
set_option maxHeartbeats 4000000
/-! a <= b < c < d -/
namespace L2
open PySem PySem.Spec PyProof.Rows
def tChain3 (r r' r'' : R2) (ta tb tc td : TE) : TE := fun σ H Q => ta σ H fun x H1 => tb σ H1 fun y H2 => r x y H2 fun z H3 => ∃ b, z = .bl b ∧
  (if b = true then tc σ H3 fun y2 H4 => r' y y2 H4 fun z2 H5 => ∃ b2, z2 = .bl b2 ∧ (if b2 = true then td σ H5 fun y3 H6 => r'' y2 y3 H6 Q else Q (.bl false) H5) else Q (.bl false) H3)
section
variable {X : Cx} {a b c d : Expr} {ta tb tc td : TE} {pos : Pos}
theorem pe_chain3 {op op' op'' : CmpOp} {r r' r'' : R2} (ho : OpR X (compareOp op) r) (ho' : OpR X (compareOp op') r') (ho'' : OpR X (compareOp op'') r'') (ha : PE X a ta) (hb : PE X b tb) (hc : PE X c tc) (hd : PE X d td)
    (hm : lastMarks [op, op', op''] [b, c, d] = false := by with_unfolding_all rfl) : PE X (.Compare a [op, op', op''] [b, c, d] pos) (tChain3 r r' r'' ta tb tc td) := by
  refine ⟨fun pins s σ H Q I h => ?_⟩
  refine Compare_chain (thn (ha.run pins s σ H _ I h) fun v s1 ⟨x, H1, I1, r1, q1⟩ => chain_link (thn (hb.run pins s1 σ H1 _ I1 q1) fun u s2 ⟨y, H2, I2, r2, q2⟩ =>
    thn (ho pins s2 σ H2 x y v u _ I2 r1 r2 q2) fun d s3 ⟨z, H3, I3, r3, k, e, q3⟩ => ?_)) hm
  subst e
  cases r3
  refine wpAny_truthy_bool ?_
  cases k with
  | false => exact ite_ff ⟨.bl false, H3, I3, rfl, q3⟩
  | true =>
    refine ite_tt (chain_link (thn (hc.run pins s3 σ H3 _ I3 q3) fun w' s4 ⟨z', H4, I4, r4, q4⟩ => thn (ho' pins s4 σ H4 y z' u w' _ I4 r2 r4 q4) fun d2 s5 ⟨z2, H5, I5, r5, k2, e2, q5⟩ => ?_))
    subst e2
    cases r5
    refine wpAny_truthy_bool ?_
    cases k2 with
    | false => exact ite_ff ⟨.bl false, H5, I5, rfl, q5⟩
    | true => exact ite_tt (chain_last (thn (hd.run pins s5 σ H5 _ I5 q5) fun w3 s6 ⟨z3, H6, I6, r6, q6⟩ => ho'' pins s6 σ H6 z' z3 w' w3 Q I6 r4 r6 q6))
end
end L2
namespace DL
open PySem PySem.Spec L2
def dChain3 (g h i : F2) (a b c d : TED) : TED := fun ρ M Q R => a ρ M (fun x M1 => b ρ M1 (fun y M2 => g x y M2 fun z M3 => ∃ k, z = .bl k ∧
  (if k = true then c ρ M3 (fun y2 M4 => h y y2 M4 fun z2 M5 => ∃ k2, z2 = .bl k2 ∧ (if k2 = true then d ρ M5 (fun y3 M6 => i y2 y3 M6 Q) R else Q (.bl false) M5)) R else Q (.bl false) M3)) R) R
section
variable {X : Cx} {W : WX}
theorem e_chain3 {a b c d : Expr} {op op' op'' : CmpOp} {g h i : F2} {ta tb tc td : TED} {pos : Pos} (ho : OpD X (compareOp op) g) (ho' : OpD X (compareOp op') h) (ho'' : OpD X (compareOp op'') i) (ha : JE X W a ta) (hb : JE X W b tb) (hc : JE X W c tc) (hd : JE X W d td)
    (hm : lastMarks [op, op', op''] [b, c, d] = false := by with_unfolding_all rfl) : JE X W (.Compare a [op, op', op''] [b, c, d] pos) (dChain3 g h i ta tb tc td) :=
  pe_imp (pe_chain3 ho ho' ho'' ha hb hc hd hm) fun σ H Q ⟨N, ρ, M, Qd, R, er, o, q, k, x⟩ =>
    ⟨N, ρ, M, _, R, er, o, q, fun d v M1 H1 f1 o1 r1 q1 =>
      ⟨N, ρ, M1, _, R, er.mono f1, o1, q1, fun e u M2 H2 f2 o2 r2 q2 =>
        ⟨N, M2, d, e, _, o2, r1.mono f2, r2, q2, fun z y M3 H3 f3 o3 r3 ⟨kb, ek, q3⟩ => by
          subst ek
          cases r3
          refine ⟨kb, rfl, ?_⟩
          cases kb with
          | false => exact k _ _ M3 H3 ((f1.trans f2).trans f3) o3 (.bl false) q3
          | true =>
            refine ⟨N, ρ, M3, _, R, ((er.mono f1).mono f2).mono f3, o3, q3, fun e2 u2 M4 H4 f4 o4 r4 q4 => ⟨N, M4, e, e2, _, o4, (r2.mono f3).mono f4, r4, q4, fun z2 y2 M5 H5 f5 o5 r5 ⟨kb2, ek2, q5⟩ => ?_⟩, ((x.mono f1).mono f2).mono f3⟩
            subst ek2
            cases r5
            refine ⟨kb2, rfl, ?_⟩
            have ff := (((f1.trans f2).trans f3).trans f4).trans f5
            cases kb2 with
            | false => exact k _ _ M5 H5 ff o5 (.bl false) q5
            | true => exact ⟨N, ρ, M5, _, R, er.mono ff, o5, q5, fun e3 u3 M6 H6 f6 o6 r6 q6 => ⟨N, M6, e2, e3, Qd, o6, (r4.mono f5).mono f6, r6, q6, KE.mono (ff.trans f6) k⟩, x.mono ff⟩⟩, x.mono f1⟩, x⟩
variable {k : Nat} {f : Addr} {fd : FuncData} {ps ks : List Str} {sp : SpD} {x : Str} {p pos : Pos} {e : Expr} {es : List Expr} {t u : TAD} {kws : List Keyword}
theorem e_kw0 {m : Nat} {ix : List Nat} (tk : Takes X W) (F : Okd X.prog X.w X.K X.mg X.base k f fd ps sp) (hr : Room k X.A) (hg : Gl X x) (hm : X.mg x = some (.ref f)) (hk : PySem.W.keepIn X.K (.ref f) = true) (hb : KwOk fd ps ks 0 ix) (hl : ks.length = m)
    (hkw : JK X W kws u) (hall : (backToKw pos (keywordEach kws X.env)).all (·.1.isSome) = true := by rfl) (hks : (backToKw pos (keywordEach kws X.env)).filterMap (·.1) = ks := by rfl)
    (hdb : (x == ("__debug__" : Str)) = false := by decide) (hpl : ((backTo pos (starEach [] X.env)).any (·.1) || (backToKw pos (keywordEach kws X.env)).any (·.1.isNone)) = false := by rfl) :
    JE X W (.Call (.Name x p) [] kws pos) (dCallK sp 0 m ix dNil u) := hl ▸ e_callK0 tk F hr hg hm hk hb hkw hall hks hdb hpl
theorem e_kw {n m : Nat} {ix : List Nat} (tk : Takes X W) (F : Okd X.prog X.w X.K X.mg X.base k f fd ps sp) (hr : Room k X.A) (hg : Gl X x) (hm : X.mg x = some (.ref f)) (hk : PySem.W.keepIn X.K (.ref f) = true) (hb : KwOk fd ps ks n ix) (hl : ks.length = m)
    (ha : JA X W (e :: es) t) (hkw : JK X W kws u) (hall : (backToKw pos (keywordEach kws X.env)).all (·.1.isSome) = true := by rfl) (hks : (backToKw pos (keywordEach kws X.env)).filterMap (·.1) = ks := by rfl)
    (hdb : (x == ("__debug__" : Str)) = false := by decide) (he : starEach (e :: es) X.env = (false, eval e X.env) :: starEach es X.env := by rfl)
    (hpl : ((backTo pos (starEach (e :: es) X.env)).any (·.1) || (backToKw pos (keywordEach kws X.env)).any (·.1.isNone)) = false := by rfl) :
    JE X W (.Call (.Name x p) (e :: es) kws pos) (dCallK sp n m ix t u) := hl ▸ e_callK tk F hr hg hm hk hb ha hkw hall hks hdb he hpl
end
end DL

set_option Elab.async false
set_option maxRecDepth 100000
set_option maxHeartbeats 4000000
/-! zip of three tuples -/
namespace DL
open PySem PySem.Spec L2
/-- three tuples side by side -/
def It3 (K : PySem.W.Frag) (a b c : Addr) : It :=
  ⟨fun i H => ∃ (ps qs rs : List V) (p q r : V), (SqT K H a ps ∧ SqT K H b qs ∧ SqT K H c rs) ∧ ps[i]? = some p ∧ qs[i]? = some q ∧ rs[i]? = some r,
    fun i H v H' => ∃ N p q r, v = .ref N ∧ H N = none ∧ H' = upd H N (.tup [p, q, r]) ∧ (∀ ps, SqT K H a ps → ps[i]? = some p) ∧ (∀ qs, SqT K H b qs → qs[i]? = some q) ∧ ∀ rs, SqT K H c rs → rs[i]? = some r,
    fun i H => ∃ ps qs rs : List V, (SqT K H a ps ∧ SqT K H b qs ∧ SqT K H c rs) ∧ i = min (min ps.length qs.length) rs.length⟩
theorem le_add {m k : Nat} (h : m ≤ k) : @LE.le Nat _ m k := h
theorem lt_add {n m k : Nat} (h : n + 5 < m) (hk : k ≤ n + 5) : @LT.lt Nat _ k m := by omega
theorem nn {x y : Nat} (h : x ≠ y) : @Ne Addr x y := h
theorem nn2 {x y z : Nat} (h : x ≠ y ∧ x ≠ z) : x ∉ ([y, z] : List Addr) := fun m => by
  rcases List.mem_cons.mp m with e | e
  · exact h.1 e
  · exact h.2 (List.mem_singleton.mp e)
theorem turn3 {P : Program} {w : World} {K : PySem.W.Frag} {es : List Expr} {kk : Nat} {tp : Pos} {a b c n : Nat} (ha : a < n) (hb : b < n) (hc : c < n) :
    Turn P w K (.Tuple es kk tp) (It3 K a b c) [n + 5, n + 3, n + 4, n, n + 1, n + 2] (n + 5)
      (fun i h => IsZip h (n + 5) (n + 3) (n + 4) .none ∧ IsTupOf3 h (n + 3) (.ref n) (.ref (n + 1)) (.ref (n + 2)) ∧ (∃ x y z, IsTupOf3 h (n + 4) x y z) ∧ h.IsTupleIter n a i ∧ h.IsTupleIter (n + 1) b i ∧ h.IsTupleIter (n + 2) c i) := by
  have S : ZipSep3 (n + 5) (n + 3) (n + 4) n (n + 1) (n + 2) [n, a] [n + 1, b] [n + 2, c] := by
    constructor <;> first | exact nn (by omega) | exact nn2 (by omega) | exact List.mem_cons_self
  have spl : ∀ d, d ∈ [n + 5, n + 3, n + 4, n, n + 1, n + 2] → d = n + 5 ∨ d = n + 3 ∨ d = n + 4 ∨ d = n ∨ d = n + 1 ∨ d = n + 2 := fun d hd => by simpa using hd
  refine ⟨by simp, fun i h st d hd => ?_, fun i h h' st k => ?_, ?_, ?_, fun A i s Q E st h => wpAny_pyIter_zip st.1 h⟩
  · obtain ⟨g1, g2, ⟨x, y, z, g3⟩, ⟨o1, e1, _, d1⟩, ⟨o2, e2, _, d2⟩, ⟨o3, e3, _, d3⟩⟩ := st
    rcases spl d hd with q | q | q | q | q | q <;> subst q
    · exact ⟨_, g1, fun v q => nomatch q⟩
    · exact ⟨_, g2, fun v q => nomatch q⟩
    · exact ⟨_, g3, fun v q => nomatch q⟩
    · exact ⟨o1, e1, fun v q => by rw [d1] at q; cases q⟩
    · exact ⟨o2, e2, fun v q => by rw [d2] at q; cases q⟩
    · exact ⟨o3, e3, fun v q => by rw [d3] at q; cases q⟩
  · obtain ⟨g1, g2, ⟨x, y, z, g3⟩, g4, g5, g6⟩ := st
    exact ⟨k _ (by simp) _ g1, k _ (by simp) _ g2, ⟨x, y, z, k _ (by simp) _ g3⟩, g4.at fun o q => k _ (by simp) o q, g5.at fun o q => k _ (by simp) o q, g6.at fun o q => k _ (by simp) o q⟩
  · intro X hP hw hK hcm i pins s σ H E I hf st hg
    subst hP hw hK
    obtain ⟨g1, g2, ⟨x0, y0, z0, g3⟩, g4, g5, g6⟩ := st
    obtain ⟨ps, qs, rs, p, q, r, ⟨hp, hq, hr⟩, ip, iq, ir⟩ := hg
    obtain ⟨t1, v1, p1, _⟩ := I.tuple hp
    obtain ⟨t2, v2, p2, _⟩ := I.tuple hq
    obtain ⟨t3, v3, p3, _⟩ := I.tuple hr
    obtain ⟨u1, hu1, ru1⟩ := v1.get ip
    obtain ⟨u2, hu2, ru2⟩ := v2.get iq
    obtain ⟨u3, hu3, ru3⟩ := v3.get ir
    have hd : (X.A.in1).handled = none := I.ok.hd hcm
    have l1 : i < t1.toArray.size := by have := (List.getElem?_eq_some_iff.mp hu1).1; simpa using this
    have l2 : i < t2.toArray.size := by have := (List.getElem?_eq_some_iff.mp hu2).1; simpa using this
    have l3 : i < t3.toArray.size := by have := (List.getElem?_eq_some_iff.mp hu3).1; simpa using this
    have hn : n + 5 < s.heap.objs.size := Heap.lt_size g1
    refine wpAny_pyNext_zipD3_item S (Draws.tuple hd n a (nn (by omega)) t1.toArray) (Draws.tuple hd (n + 1) b (nn (by omega)) t2.toArray) (Draws.tuple hd (n + 2) c (nn (by omega)) t3.toArray) g1 g2 g3 ⟨g4, p1⟩ ⟨g5, p2⟩ ⟨g6, p3⟩ l1 l2 l3
      fun w1 w2 w3 h' tk y1 y2 y3 b1 b2 d1 d2 d3 b5 b6 hk => ?_
    have ew1 : w1 = u1 := by rw [List.getElem?_toArray, hu1] at y1; exact (Option.some.inj y1).symm
    have ew2 : w2 = u2 := by rw [List.getElem?_toArray, hu2] at y2; exact (Option.some.inj y2).symm
    have ew3 : w3 = u3 := by rw [List.getElem?_toArray, hu3] at y3; exact (Option.some.inj y3).symm
    subst ew1 ew2 ew3
    refine ⟨_, rfl, wpAny_letOwnedTupleGo_zip (s := { s with heap := h', toks := tk }) b1 fun h'' z'' sb => ?_⟩
    have hT2 : h''.get? s.heap.objs.size = some { cls := .type "tuple", data := .seq #[w1, w2, w3] } := (sb.2 _ (nn (by omega))).trans b5
    have new : ObjOk X.prog X.w (upd H s.heap.objs.size (.tup [p, q, r])) h'' s.heap.objs.size (.tup [p, q, r]) :=
      ⟨by show 3 ≤ sizeLine; decide, [w1, w2, w3], .cons ru1 (.cons ru2 (.cons ru3 .nil)), ⟨_, hT2, rfl, _, rfl⟩⟩
    have I1 : Inv X pins σ (upd H s.heap.objs.size (.tup [p, q, r])) { s with heap := h'', toks := tk } :=
      I.turnedNew (t' := tk) (ch := [n + 5, n + 3, n + 4, n, n + 1, n + 2]) (fun d o hb e => by
        have e1 : d ≠ n + 5 := fun z => hb (by simp [z])
        have e3 : d ≠ n + 4 := fun z => hb (by simp [z])
        have e4 : d ≠ n := fun z => hb (by simp [z])
        have e5 : d ≠ n + 1 := fun z => hb (by simp [z])
        have e6 : d ≠ n + 2 := fun z => hb (by simp [z])
        exact (sb.2 d e1).trans (hk d o e1 e3 e4 e5 e6 e)) hf (Nat.le_refl _) new
    refine ⟨.ref s.heap.objs.size, _, I1, rfl, ⟨_, p, q, r, rfl, I.hok.fresh (Nat.le_refl _), rfl, fun l hl => by rw [I.tuple_inj hl hp]; exact ip, fun l hl => by rw [I.tuple_inj hl hq]; exact iq, fun l hl => by rw [I.tuple_inj hl hr]; exact ir⟩, ⟨z'', ?_, ⟨w1, w2, w3, ?_⟩, ?_, ?_, ?_⟩, fun d hdm => ?_⟩
    · exact (sb.2 _ (nn (by omega))).trans (hk _ _ (nn (by omega)) (nn (by omega)) (nn (by omega)) (nn (by omega)) (nn (by omega)) g2)
    · exact (sb.2 _ (nn (by omega))).trans b2
    · exact d1.1.at fun o e => (sb.2 _ (nn (by omega))).trans e
    · exact d2.1.at fun o e => (sb.2 _ (nn (by omega))).trans e
    · exact d3.1.at fun o e => (sb.2 _ (nn (by omega))).trans e
    · have hlt : d < s.heap.objs.size := by
        rcases spl d hdm with e | e | e | e | e | e <;> rw [e] <;> exact lt_add hn (by omega)
      rw [upd_ne (Nat.ne_of_lt hlt)]
      exact (hf d hdm).1
  · intro X hP hw hK hcm i pins s σ H E I hf st hg
    subst hP hw hK
    obtain ⟨g1, g2, ⟨x0, y0, z0, g3⟩, g4, g5, g6⟩ := st
    obtain ⟨ps, qs, rs, ⟨hp, hq, hr⟩, hend⟩ := hg
    obtain ⟨t1, v1, p1, _⟩ := I.tuple hp
    obtain ⟨t2, v2, p2, _⟩ := I.tuple hq
    obtain ⟨t3, v3, p3, _⟩ := I.tuple hr
    have hd : (X.A.in1).handled = none := I.ok.hd hcm
    have l1 : ps.length = t1.toArray.size := by rw [v1.length]; simp
    have l2 : qs.length = t2.toArray.size := by rw [v2.length]; simp
    have l3 : rs.length = t3.toArray.size := by rw [v3.length]; simp
    refine wpAny_pyNext_zipD3_end S (Draws.tuple hd n a (nn (by omega)) t1.toArray) (Draws.tuple hd (n + 1) b (nn (by omega)) t2.toArray) (Draws.tuple hd (n + 2) c (nn (by omega)) t3.toArray) g1 g2 g3 ⟨g4, p1⟩ ⟨g5, p2⟩ ⟨g6, p3⟩ (by omega) (by omega) (by omega) (by omega)
      fun h' tk hk => ⟨rfl, I.turnedL (t' := tk) (ch := [n + 5, n + 3, n + 4, n, n + 1, n + 2]) (fun d o hb e => ?_) hf⟩
    exact hk d o (fun z => hb (by simp [z])) (fun z => hb (by simp [z])) (fun z => hb (by simp [z])) (fun z => hb (by simp [z])) (fun z => hb (by simp [z])) e
def iT3 (K : PySem.W.Frag) (ta : TA) : TI := fun σ H R => ta σ H fun vs H1 => ∃ a b c ps qs rs, vs = [.ref a, .ref b, .ref c] ∧ (SqT K H1 a ps ∧ SqT K H1 b qs ∧ SqT K H1 c rs) ∧ R (It3 K a b c) H1
theorem pi_zip3 {X : Cx} {e1 e2 e3 : Expr} {ta : TA} {p pos tp : Pos} {es : List Expr} {kk : Nat} (hg : Gl X "zip") (hm : X.mg "zip" = none) (ha : PA X [e1, e2, e3] ta)
    (hs : starEach [e1, e2, e3] X.env = (false, eval e1 X.env) :: starEach [e2, e3] X.env := by rfl) (hpl : (backTo pos (starEach [e2, e3] X.env)).any (·.1) = false := by rfl) :
    PI X (.Tuple es kk tp) (.Call (.Name "zip" p) [e1, e2, e3] [] pos) (iT3 X.K ta) := by
  refine ⟨fun pins s σ H R I h => ?_⟩
  refine PyProof.Rows.Call_ (ld_blt I hg hm PyProof.Rows.boot_zip (PyProof.Rows.callWith_type1 (thn (ha.run pos pins s σ H _ I h) fun us s1 ⟨vs, H1, I1, r1, q1⟩ => ?_) hs hpl))
  obtain ⟨a, b, c, ps, qs, rs, ev, ⟨hp, hq, hr⟩, q1⟩ := q1
  subst ev
  cases r1 with | cons r r1 =>
  cases r1 with | cons r' r1 =>
  cases r1 with | cons r'' r1 =>
  cases r1; cases r; cases r'; cases r''
  obtain ⟨t1, v1, p1, _⟩ := I1.tuple hp
  obtain ⟨t2, v2, p2, _⟩ := I1.tuple hq
  obtain ⟨t3, v3, p3, _⟩ := I1.tuple hr
  obtain ⟨o1, ho1, _⟩ := id p1
  obtain ⟨o2, ho2, _⟩ := id p2
  obtain ⟨o3, ho3, _⟩ := id p3
  refine zip_begins3 (begins_tuple a t1.toArray) (begins_tuple b t2.toArray) (begins_tuple c t3.toArray) p1 p2 p3 fun h' hz hTI hTO k1 k2 k3 hsz hk => wpAny_pyIter_zip hz ?_
  have I2 : Inv X pins σ H1 { s1 with heap := h' } := I1.kept (t' := s1.toks) hk
  refine ⟨s1.heap.objs.size + 5, _, _, _, H1, rfl, I2, turn3 (n := s1.heap.objs.size) (Heap.lt_size ho1) (Heap.lt_size ho2) (Heap.lt_size ho3), ⟨hz, hTI, ⟨_, _, _, hTO⟩, ⟨_, k1, rfl, rfl⟩, ⟨_, k2, rfl, rfl⟩, ⟨_, k3, rfl, rfl⟩⟩, fun d hd => ?_, q1⟩
  have hle : s1.heap.objs.size ≤ d := by
    have e : d = s1.heap.objs.size + 5 ∨ d = s1.heap.objs.size + 3 ∨ d = s1.heap.objs.size + 4 ∨ d = s1.heap.objs.size ∨ d = s1.heap.objs.size + 1 ∨ d = s1.heap.objs.size + 2 := by simpa using hd
    rcases e with e | e | e | e | e | e <;> rw [e] <;> exact le_add (by omega)
  exact I1.fpOk hle (I1.hok.fresh hle)
/-! over data -/
def zip3D : List D → List D → List D → List D
  | x :: xs, y :: ys, z :: zs => .tup [x, y, z] :: zip3D xs ys zs
  | _, _, _ => []
theorem zip3D_len : ∀ xs ys zs : List D, (zip3D xs ys zs).length = min (min xs.length ys.length) zs.length
  | [], _, _ => by simp [zip3D]
  | _ :: _, [], _ => by simp [zip3D]
  | _ :: _, _ :: _, [] => by simp [zip3D]
  | x :: xs, y :: ys, z :: zs => by simp only [zip3D, List.length_cons, zip3D_len xs ys zs]; omega
theorem zip3D_get : ∀ (xs ys zs : List D) (i : Nat) (x y z : D), xs[i]? = some x → ys[i]? = some y → zs[i]? = some z → (zip3D xs ys zs)[i]? = some (.tup [x, y, z])
  | [], _, _, _, _, _, _, h, _, _ => by simp at h
  | _ :: _, [], _, _, _, _, _, _, h, _ => by simp at h
  | _ :: _, _ :: _, [], _, _, _, _, _, _, h => by simp at h
  | x :: xs, y :: ys, z :: zs, 0, _, _, _, h1, h2, h3 => by simp at h1 h2 h3; subst h1 h2 h3; rfl
  | x :: xs, y :: ys, z :: zs, i + 1, _, _, _, h1, h2, h3 => by
    have := zip3D_get xs ys zs i _ _ _ (by simpa using h1) (by simpa using h2) (by simpa using h3)
    simpa [zip3D] using this
def iZip3 (t : TAD) : TID := fun ρ M Q R => t ρ M (fun l M1 => ∃ d e f ds es fs, l = [d, e, f] ∧ (isTupD d = true ∧ isTupD e = true ∧ isTupD f = true) ∧ (asQ M1 d = some ds ∧ asQ M1 e = some es ∧ asQ M1 f = some fs) ∧
  Q (fun M => asQ M d = some ds ∧ asQ M e = some es ∧ asQ M f = some fs) (zip3D ds es fs) M1) R
variable {X : Cx} {W : WX}
theorem i_zip3 {a b c : Expr} {t : TAD} {p pos tpos : Pos} {elts : List Expr} {kk : Nat} (hg : Gl X "zip") (hm : X.mg "zip" = none) (ha : JA X W [a, b, c] t)
    (hs : starEach [a, b, c] X.env = (false, eval a X.env) :: starEach [b, c] X.env := by rfl) (hpl : (backTo pos (starEach [b, c] X.env)).any (·.1) = false := by rfl) :
    JI X W (.Tuple elts kk tpos) (.Call (.Name "zip" p) [a, b, c] [] pos) (iZip3 t) :=
  pi_imp (pi_zip3 hg hm ha hs hpl) fun σ H R ⟨N, ρ, M, Qd, Rk, er, o, q, k, x⟩ => ⟨N, ρ, M, _, Rk, er, o, q, fun l vs M1 H1 f1 o1 r1 ⟨d, e, f, ds, es, fs, el, ⟨hd, he, hf⟩, ⟨h1, h2, h3⟩, q1⟩ => by
    subst el
    cases r1 with | cons r1 r2 =>
    cases r2 with | cons r2 r3 =>
    cases r3 with | cons r3 r4 =>
    cases r4
    obtain ⟨la, va, e1, _, _⟩ := r1.asQ o1 h1
    obtain ⟨lb, vb, e2, _, _⟩ := r2.asQ o1 h2
    obtain ⟨lc, vc, e3, _, _⟩ := r3.asQ o1 h3
    subst e1 e2 e3
    obtain ⟨wa, ha1, ra1⟩ := asQ_tup hd (Fr.refl _ _) r1 h1
    obtain ⟨wb, hb1, rb1⟩ := asQ_tup he (Fr.refl _ _) r2 h2
    obtain ⟨wc, hc1, rc1⟩ := asQ_tup hf (Fr.refl _ _) r3 h3
    refine ⟨la, lb, lc, wa, wb, wc, rfl, ⟨ha1, hb1, hc1⟩, k _ _ _ M1 H1 f1 o1 ⟨fun N' hN i H' M' hi f o' c => ?_, fun N' hN H' M' f o' c => ?_, fun N' hN i H' M' y H2 hi f o' c yl => ?_⟩ q1⟩
    · rw [zip3D_len] at hi
      obtain ⟨xa, hxa, rxa⟩ := asQ_tup hd f (r1.hide hN) c.1
      obtain ⟨xb, hxb, rxb⟩ := asQ_tup he f (r2.hide hN) c.2.1
      obtain ⟨xc, hxc, rxc⟩ := asQ_tup hf f (r3.hide hN) c.2.2
      exact ⟨xa, xb, xc, xa[i]'(by rw [← rxa.length]; omega), xb[i]'(by rw [← rxb.length]; omega), xc[i]'(by rw [← rxc.length]; omega), ⟨hxa, hxb, hxc⟩, by simp, by simp, by simp⟩
    · obtain ⟨xa, hxa, rxa⟩ := asQ_tup hd f (r1.hide hN) c.1
      obtain ⟨xb, hxb, rxb⟩ := asQ_tup he f (r2.hide hN) c.2.1
      obtain ⟨xc, hxc, rxc⟩ := asQ_tup hf f (r3.hide hN) c.2.2
      exact ⟨xa, xb, xc, ⟨hxa, hxb, hxc⟩, by rw [zip3D_len, ← rxa.length, ← rxb.length, ← rxc.length]⟩
    · obtain ⟨xa, hxa, rxa⟩ := asQ_tup hd f (r1.hide hN) c.1
      obtain ⟨xb, hxb, rxb⟩ := asQ_tup he f (r2.hide hN) c.2.1
      obtain ⟨xc, hxc, rxc⟩ := asQ_tup hf f (r3.hide hN) c.2.2
      obtain ⟨T, u, v, z, e1, hT, e2, g1, g2, g3⟩ := yl
      subst e1 e2
      obtain ⟨d', hd', rd⟩ := rxa.getV (g1 _ hxa)
      obtain ⟨e', he', re⟩ := rxb.getV (g2 _ hxb)
      obtain ⟨f', hf', rf⟩ := rxc.getV (g3 _ hxc)
      exact ⟨_, zip3D_get _ _ _ _ _ _ _ hd' he' hf', Fr.new hT, o'.new hT, Rep.tupNew o' hT (.cons rd (.cons re (.cons rf .nil)))⟩, x⟩
end DL

set_option Elab.async false
set_option maxRecDepth 100000
set_option maxHeartbeats 4000000
/-! a[i], b[j] = x, y of a pair; l.index of nested data -/
namespace DL
open PySem PySem.Spec L2
variable {X : Cx} {W : WX}
def gIndex : GM := fun d ds M Q => ∃ y ps p j z, ds = [y] ∧ toPM M d = some (.list ps) ∧ toPM M y = some p ∧ SeqAt.shaped (.list ps) = true ∧ SeqAt.shaped p = true ∧ ps[j]? = some z ∧ PyData.eqv z p = true ∧
  (∀ m z', m < j → ps[m]? = some z' → PyData.eqv z' p = false) ∧ Q (.int (j : Nat)) M
theorem m_index (hu : X.A.units + 65 < cLine) : MtD X "list.index" gIndex := by
  intro pins s σ H x vs v us Q I rx rv ⟨N, M, d, ds, Qd, o, r, rs, ⟨y, ps, p, j, z, e1, h1, h2, h3, h4, h5, h6, h7, q⟩, k⟩
  subst e1
  cases rs with | cons r1 rs =>
  cases rs
  have d1 := r.dpM o h1
  have d2 := r1.dpM o h2
  obtain ⟨a, rfl⟩ : ∃ a, x = V.ref a := by cases d1; exact ⟨_, rfl⟩
  exact mt_indexD hu pins s σ H _ _ v us Q I rx rv ⟨a, _, p, ps, j, z, rfl, rfl, d1, d2, h3, h4, h5, h6, h7, k _ _ M H (Fr.refl _ _) o (.int _) q⟩
def dStore2 (t o1 i1 o2 i2 : TED) : TSD := fun D ρ M => t ρ M (fun d M1 => ∃ x y, d = .tup [x, y] ∧ o1 ρ M1 (fun a M2 => i1 ρ M2 (fun i M3 => gStore a i x M3 fun M4 =>
  o2 ρ M4 (fun b M5 => i2 ρ M5 (fun j M6 => gStore b j y M6 fun M7 => D.nx ρ M7) (dRz D ρ)) (dRz D ρ)) (dRz D ρ)) (dRz D ρ)) (dRz D ρ)
/-- a[i], b[j] = a pair -/
theorem s_store2 {oa ia ob ib e : Expr} {t ta ti tb tj : TED} {pos p1 p2 p3 : Pos} {kk : Nat} (hc : X.calm = true) (hu : X.A.units + 1 < cLine) (he : JE X W e t) (ha : JE X W oa ta) (hi : JE X W ia ti) (hb : JE X W ob tb) (hj : JE X W ib tj)
    (h1 : ∀ v, assign (.Subscript oa ia p1) X.env v = (do
      let x ← holding [v] (eval oa X.env)
      let y ← holding [v, x] (eval ia X.env)
      standAt p1
      holding [v, x, y] (setItem x y v)
      release [v, x, y] []) := by intro _; rfl)
    (h2 : ∀ v, assign (.Subscript ob ib p2) X.env v = (do
      let x ← holding [v] (eval ob X.env)
      let y ← holding [v, x] (eval ib X.env)
      standAt p2
      holding [v, x, y] (setItem x y v)
      release [v, x, y] []) := by intro _; rfl)
    (g1 : (assignEach [.Subscript oa ia p1, .Subscript ob ib p2] X.env).map (·.2) = assign (.Subscript oa ia p1) X.env :: (assignEach [.Subscript ob ib p2] X.env).map (·.2) := by rfl)
    (g2 : (assignEach [.Subscript ob ib p2] X.env).map (·.2) = assign (.Subscript ob ib p2) X.env :: (assignEach [] X.env).map (·.2) := by rfl)
    (g3 : (assignEach [.Subscript oa ia p1, .Subscript ob ib p2] X.env).length = 2 := by rfl) (g4 : (assignEach [.Subscript oa ia p1, .Subscript ob ib p2] X.env).findIdx? (·.1) = none := by rfl)
    (hs : swapsWithSole [.Tuple [.Subscript oa ia p1, .Subscript ob ib p2] kk p3] e pos.line X.env = pure false := by rfl) (hw : swappedStores [.Tuple [.Subscript oa ia p1, .Subscript ob ib p2] kk p3] e X.env = pure none := by rfl)
    (h3 : (assignEach [.Tuple [.Subscript oa ia p1, .Subscript ob ib p2] kk p3] X.env).map (·.2) = [assign (.Tuple [.Subscript oa ia p1, .Subscript ob ib p2] kk p3) X.env] := by rfl) :
    JS X W (.Assign [.Tuple [.Subscript oa ia p1, .Subscript ob ib p2] kk p3] e pos) (dStore2 t ta ti tb tj) :=
  ps_imp (ps_asg he (pg_tup hc (pgs_cons (pg_sub ha hi (set_store hu) h1) (pgs_cons (pg_sub hb hj (set_store hu) h2) pgs_nil g2) g1) g3 g4) hs hw h3) fun D σ H ⟨N, ρ, M, D0, er, o, q, l⟩ => ⟨N, ρ, M, _, _, er, o, q, fun d v M1 H1 f1 o1 r1 ⟨x, y, ed, q1⟩ => by
    subst ed
    cases r1 with | tup tt rs =>
    cases rs with | cons rx rs =>
    cases rs with | cons ry rs =>
    cases rs
    have e1 := er.mono f1
    have x1 := (l.raise er).mono f1
    refine ⟨_, _, rfl, TupAt.sq (K := ⟨X.K, N⟩) tt, rfl, _, _, rfl, ⟨N, ρ, M1, _, _, e1, o1, q1, fun a va M2 H2 f2 o2 r2 q2 => ?_, x1⟩⟩
    refine ⟨N, ρ, M2, _, _, e1.mono f2, o2, q2, fun i vi M3 H3 f3 o3 r3 q3 => ?_, x1.mono f2⟩
    have f23 := f2.trans f3
    refine ⟨N, M3, a, i, x, _, o3, r2.mono f3, r3, rx.mono f23, q3, fun M4 H4 f4 o4 q4 => ?_⟩
    have f24 := f23.trans f4
    refine ⟨_, _, rfl, ⟨N, ρ, M4, _, _, e1.mono f24, o4, q4, fun b vb M5 H5 f5 o5 r5 q5 => ?_, x1.mono f24⟩⟩
    have f25 := f24.trans f5
    refine ⟨N, ρ, M5, _, _, e1.mono f25, o5, q5, fun j vj M6 H6 f6 o6 r6 q6 => ?_, x1.mono f25⟩
    have f26 := f25.trans f6
    refine ⟨N, M6, b, j, y, _, o6, r5.mono f6, r6, ry.mono f26, q6, fun M7 H7 f7 o7 q7 => ?_⟩
    exact ⟨rfl, l.nx ρ σ M7 H7 (f1.trans (f26.trans f7)) o7 (e1.mono (f26.trans f7)) q7⟩, l.raise er⟩
end DL

set_option Elab.async false
set_option maxRecDepth 100000
set_option maxHeartbeats 4000000
/-! a, b, c = x, y, z: three plain names -/
namespace DL
open PySem PySem.Spec L2
variable {X : Cx} {W : WX}
def dPar3 (i j l : Nat) (t : TAD) : TSD := fun D ρ M => t ρ M (fun ds M1 => ∃ d e f, ds = [d, e, f] ∧ D.nx (((ρ.set i (some d)).set j (some e)).set l (some f)) M1) (dRz D ρ)
theorem s_par3 {i j l : Nat} {x y z : Str} {a b c : Expr} {t : TAD} {px py pz pt pos : Pos} {kt k2 pt2} (hc : X.calm = true) (hN : X.N.Nodup) (hi : X.N[i]? = some x) (hj : X.N[j]? = some y) (hl : X.N[l]? = some z) (hij : i ≠ j) (hil : i ≠ l) (hjl : j ≠ l)
    (hx : X.env.scope.names.lookup x = some .local) (hy : X.env.scope.names.lookup y = some .local) (hz : X.env.scope.names.lookup z = some .local) (ha : JA X W [a, b, c] t)
    (hw : swappedStores [.Tuple [.Name x px, .Name y py, .Name z pz] kt pt] (.Tuple [a, b, c] k2 pt2) X.env = pure (some [x, y, z]))
    (hs : swapsWithSole [.Tuple [.Name x px, .Name y py, .Name z pz] kt pt] (.Tuple [a, b, c] k2 pt2) pos.line X.env = pure false := by rfl) :
    JS X W (.Assign [.Tuple [.Name x px, .Name y py, .Name z pz] kt pt] (.Tuple [a, b, c] k2 pt2) pos) (dPar3 i j l t) :=
  ps_imp (ps_par3 hc hN hi hj hl hij hil hjl hx hy hz ha hw hs) fun D σ H ⟨N, ρ, M, D0, er, o, q, l'⟩ => ⟨N, ρ, M, _, _, er, o, q, fun ds vs M1 H1 f1 o1 r1 ⟨d, e, f, ed, q1⟩ => by
    subst ed
    cases r1 with | cons r1 r2 =>
    cases r2 with | cons r2 r3 =>
    cases r3 with | cons r3 r4 =>
    cases r4
    exact ⟨_, _, _, rfl, l'.nx _ _ M1 H1 f1 o1 ((((er.mono f1).set r1 i).set r2 j).set r3 l) q1⟩, l'.raise er⟩
end DL

set_option Elab.async false
set_option maxRecDepth 100000
set_option maxHeartbeats 4000000
/-! l.pop(i) -/
namespace DL
open PySem PySem.Spec L2
variable {X : Cx}
theorem Reps.eraseIdx {K : KN} {H : Hp} {M : MS} : ∀ {ds : List D} {vs : List V} (_ : Reps K H M ds vs) (k : Nat), Reps K H M (ds.eraseIdx k) (vs.eraseIdx k)
  | _, _, .nil, _ => .nil
  | _, _, .cons _ rs, 0 => rs
  | _, _, .cons r rs, k + 1 => .cons r (rs.eraseIdx k)
def gPopAt : GM := fun d ds M Q => ∃ a xs y i, d = .ref a ∧ ds = [.int i] ∧ M a = some (.lst xs) ∧ 0 ≤ i ∧ i < 1073741824 ∧ xs[i.toNat]? = some y ∧ Q y (M.set a (.lst (xs.eraseIdx i.toNat)))
theorem m_popAt : MtD X "list.pop" gPopAt := by
  intro pins s σ H x vs v us Q I rx rv ⟨N, M, d, ds, Qd, o, r, rs, ⟨a, xs, y, i, e1, e2, hm, h0, hi, hy, q⟩, k⟩
  subst e1 e2
  cases r
  cases rs with | cons r1 rs =>
  cases rs
  cases r1
  obtain ⟨ws, h1, h2⟩ := o.at_ a _ hm
  obtain ⟨w, hw, rw'⟩ := h2.get hy
  have hk : i.toNat < ws.length := (List.getElem?_eq_some_iff.mp hw).1
  have hs : seqIndex? i ws.length = some i.toNat := by
    have hn : ¬ i < 0 := by omega
    have hj : (0 ≤ i) = True := eq_true h0
    have hj2 : (i < (ws.length : Int)) = True := eq_true (by omega)
    simp only [seqIndex?, if_neg hn, hj, hj2, decide_true, Bool.and_self, if_true]
  exact mt_popAt pins s σ H _ _ v us Q I rx rv ⟨a, ws, i, i.toNat, w, rfl, rfl, h1, by omega, by omega, hs, hw, k _ _ _ _ (Fr.put hm) (own_put o hm (h2.eraseIdx _)) (rw'.mono (Fr.put hm)) q⟩
/-- min of a list of ints -/
def gMinL : GB := fun ds M Q => ∃ d xs ns, ds = [d] ∧ asL M d = some xs ∧ intsD xs = some ns ∧ 0 < ns.length ∧ ∀ m, m ∈ ns → (∀ y ∈ ns, m ≤ y) → Q (.int m) M
theorem c_minL (hc : X.calm = true) : CallD X (.builtin "min") gMinL := by
  intro pins s σ H vs us Q I r ⟨N, M, ds, Qd, o, rs, ⟨d, xs, ns, e, h1, h2, h3, q⟩, k⟩
  subst e
  cases rs with | cons r1 rs =>
  cases rs
  obtain ⟨a, ws, e1, e2, e3⟩ := r1.asL o h1
  subst e1
  have e4 := e3.intsD h2
  subst e4
  exact cr_min hc pins s σ H _ us Q I r ⟨a, ns, rfl, .inl (.inl e2), h3, fun m hm hl => k _ _ M H (Fr.refl _ _) o (.int _) (q m hm hl)⟩
end DL

set_option Elab.async false
set_option maxRecDepth 100000
set_option maxHeartbeats 4000000
/-! tuple(range(..)), list(range(..)) -/
namespace DL
open PySem PySem.Spec L2
variable {X : Cx} {W : WX}
theorem Reps.rangeL {K : KN} {H : Hp} {M : MS} {c : Int} : ∀ l : List Nat, Reps K H M (l.map fun i : Nat => D.int (c + (i : Nat))) (l.map fun i : Nat => V.int (c + (i : Nat)))
  | [] => .nil
  | _ :: l => .cons (.int _) (Reps.rangeL l)
def dTupRg1 (t : TED) : TED := fun ρ M Q R => t ρ M (fun d M1 => ∃ n, d = .int n ∧ RgOk 0 n ∧ Q (.tup (rangeD 0 n.toNat)) M1) R
def dLstRg1 (fin : Fin) (t : TED) : TED := fun ρ M Q R => t ρ M (fun d M1 => ∃ n, d = .int n ∧ RgOk 0 n ∧ fin (rangeD 0 n.toNat) M1 Q) R
def dTupRg2 (t u : TED) : TED := fun ρ M Q R => t ρ M (fun d M1 => u ρ M1 (fun e M2 => ∃ i j, d = .int i ∧ e = .int j ∧ RgOk i j ∧ Q (.tup (rangeD i (j - i).toNat)) M2) R) R
def dLstRg2 (fin : Fin) (t u : TED) : TED := fun ρ M Q R => t ρ M (fun d M1 => u ρ M1 (fun e M2 => ∃ i j, d = .int i ∧ e = .int j ∧ RgOk i j ∧ fin (rangeD i (j - i).toNat) M2 Q) R) R
variable {a b : Expr} {t u : TED} {p p2 pos pos2 : Pos}
theorem e_tupRg1 (hc : X.calm = true) (hg : Gl X "tuple") (hm : X.mg "tuple" = none) (hg2 : Gl X "range") (hm2 : X.mg "range" = none) (ha : JE X W a t)
    (na : starEach [a] X.env = (false, eval a X.env) :: starEach [] X.env := by rfl) (na2 : starEach [.Call (.Name "range" p2) [a] [] pos2] X.env = (false, eval (.Call (.Name "range" p2) [a] [] pos2) X.env) :: starEach [] X.env := by rfl) :
    JE X W (.Call (.Name "tuple" p) [.Call (.Name "range" p2) [a] [] pos2] [] pos) (dTupRg1 t) :=
  pe_imp (pe_tupRg hc hg hm (prg_1 hg2 hm2 ha na) na2) fun σ H Q ⟨N, ρ, M, Qd, R, er, o, q, k, x⟩ => ⟨N, ρ, M, _, R, er, o, q, fun d v M1 H1 f1 o1 r1 ⟨n, e, ok, q1⟩ => by
    subst e; cases r1
    refine ⟨n, rfl, ok, fun l hl => KE.new (KE.mono f1 k) o1 hl q1 (Rep.tupNew o1 hl ?_)⟩
    unfold rgV rangeD
    rw [Int.sub_zero]
    exact Reps.rangeL _, x⟩
theorem e_lstRg1 {fin : Fin} (hf : FinOk fin) (hc : X.calm = true) (hg : Gl X "list") (hm : X.mg "list" = none) (hg2 : Gl X "range") (hm2 : X.mg "range" = none) (ha : JE X W a t)
    (na : starEach [a] X.env = (false, eval a X.env) :: starEach [] X.env := by rfl) (na2 : starEach [.Call (.Name "range" p2) [a] [] pos2] X.env = (false, eval (.Call (.Name "range" p2) [a] [] pos2) X.env) :: starEach [] X.env := by rfl) :
    JE X W (.Call (.Name "list" p) [.Call (.Name "range" p2) [a] [] pos2] [] pos) (dLstRg1 fin t) :=
  pe_imp (pe_listRg hc hg hm (prg_1 hg2 hm2 ha na) na2) fun σ H Q ⟨N, ρ, M, Qd, R, er, o, q, k, x⟩ => ⟨N, ρ, M, _, R, er, o, q, fun d v M1 H1 f1 o1 r1 ⟨n, e, ok, q1⟩ => by
    subst e; cases r1
    refine ⟨n, rfl, ok, fun l hl => fin_new hf o1 hl ?_ q1 (KE.mono f1 k)⟩
    unfold rgV rangeD
    rw [Int.sub_zero]
    exact Reps.rangeL _, x⟩
theorem e_tupRg2 (hc : X.calm = true) (hg : Gl X "tuple") (hm : X.mg "tuple" = none) (hg2 : Gl X "range") (hm2 : X.mg "range" = none) (ha : JE X W a t) (hb : JE X W b u)
    (na : starEach [a, b] X.env = (false, eval a X.env) :: starEach [b] X.env := by rfl) (nb : starEach [b] X.env = (false, eval b X.env) :: starEach [] X.env := by rfl) (hp : (backTo pos2 (starEach [b] X.env)).any (·.1) = false := by rfl)
    (na2 : starEach [.Call (.Name "range" p2) [a, b] [] pos2] X.env = (false, eval (.Call (.Name "range" p2) [a, b] [] pos2) X.env) :: starEach [] X.env := by rfl) :
    JE X W (.Call (.Name "tuple" p) [.Call (.Name "range" p2) [a, b] [] pos2] [] pos) (dTupRg2 t u) :=
  pe_imp (pe_tupRg hc hg hm (prg_2 hg2 hm2 ha hb na nb hp) na2) fun σ H Q ⟨N, ρ, M, Qd, R, er, o, q, k, x⟩ => ⟨N, ρ, M, _, R, er, o, q, fun d v M1 H1 f1 o1 r1 q1 => ⟨N, ρ, M1, _, R, er.mono f1, o1, q1, fun e w M2 H2 f2 o2 r2 ⟨i, j, e1, e2, ok, q2⟩ => by
    subst e1 e2; cases r1; cases r2
    exact ⟨i, j, rfl, rfl, ok, fun l hl => KE.new (KE.mono (f1.trans f2) k) o2 hl q2 (Rep.tupNew o2 hl (Reps.rangeL _))⟩, x.mono f1⟩, x⟩
theorem e_lstRg2 {fin : Fin} (hf : FinOk fin) (hc : X.calm = true) (hg : Gl X "list") (hm : X.mg "list" = none) (hg2 : Gl X "range") (hm2 : X.mg "range" = none) (ha : JE X W a t) (hb : JE X W b u)
    (na : starEach [a, b] X.env = (false, eval a X.env) :: starEach [b] X.env := by rfl) (nb : starEach [b] X.env = (false, eval b X.env) :: starEach [] X.env := by rfl) (hp : (backTo pos2 (starEach [b] X.env)).any (·.1) = false := by rfl)
    (na2 : starEach [.Call (.Name "range" p2) [a, b] [] pos2] X.env = (false, eval (.Call (.Name "range" p2) [a, b] [] pos2) X.env) :: starEach [] X.env := by rfl) :
    JE X W (.Call (.Name "list" p) [.Call (.Name "range" p2) [a, b] [] pos2] [] pos) (dLstRg2 fin t u) :=
  pe_imp (pe_listRg hc hg hm (prg_2 hg2 hm2 ha hb na nb hp) na2) fun σ H Q ⟨N, ρ, M, Qd, R, er, o, q, k, x⟩ => ⟨N, ρ, M, _, R, er, o, q, fun d v M1 H1 f1 o1 r1 q1 => ⟨N, ρ, M1, _, R, er.mono f1, o1, q1, fun e w M2 H2 f2 o2 r2 ⟨i, j, e1, e2, ok, q2⟩ => by
    subst e1 e2; cases r1; cases r2
    exact ⟨i, j, rfl, rfl, ok, fun l hl => fin_new hf o2 hl (Reps.rangeL _) q2 (KE.mono (f1.trans f2) k)⟩, x.mono f1⟩, x⟩
end DL

set_option Elab.async false
set_option maxRecDepth 100000
set_option maxHeartbeats 4000000
/-! sum of a list or a tuple of ints; max of a list -/
namespace DL
open PySem PySem.Spec PySem.Calls PyProof.Rows PyProof.V L2
variable {X : Cx} {W : WX}
theorem cr_sumT (hc : X.calm = true) : CallR X (.builtin "sum") (fun vs H Q => ∃ (a : Addr) (ns : List Int), vs = [V.ref a] ∧ SqT X.K H a (ns.map V.int) ∧ Q (.int ns.sum) H) := by
  intro pins s σ H vs us Q I r h
  obtain ⟨a, ns, rfl, hs, q⟩ := h
  obtain ⟨its, rv, hl, _⟩ := I.tuple hs
  rw [Vals.ref1 r]
  have hi := rv.ints
  obtain ⟨xs, hx⟩ := hi.allInts.items
  have hn : numsOf its.toArray.toList = ns := by rw [show its.toArray.toList = its from rfl, hi.numsOf]
  have hl' : s.heap.IsTuple a its.toArray := hl
  rw [hx] at hl' hn
  rw [nums_intItems] at hn
  refine PySem.W.ktm_sumG (I.ok.hd hc) hl' fun h' tk t' hk => ?_
  rw [preSum_eq, List.take_of_length_le (by simp), hn]
  exact ⟨.int _, H, I.kept hk, ⟨_, rfl⟩, q⟩
def gSumQ : GB := fun ds M Q => ∃ d xs ns, ds = [d] ∧ asQ M d = some xs ∧ intsD xs = some ns ∧ Q (.int ns.sum) M
theorem c_sumQ (hc : X.calm = true) : CallD X (.builtin "sum") gSumQ := by
  intro pins s σ H vs us Q I r ⟨N, M, ds, Qd, o, rs, ⟨d, xs, ns, e, h1, h2, q⟩, k⟩
  subst e
  cases rs with | cons r1 rs =>
  cases rs
  obtain ⟨a, ws, e1, e2, e3⟩ := r1.asQ o h1
  subst e1
  have e4 := e3.intsD h2
  subst e4
  rcases e2 with e2 | e2
  · exact cr_sum hc pins s σ H _ us Q I r ⟨a, ns, rfl, e2, k _ _ M H (Fr.refl _ _) o (.int _) q⟩
  · exact cr_sumT hc pins s σ H _ us Q I r ⟨a, ns, rfl, e2, k _ _ M H (Fr.refl _ _) o (.int _) q⟩
/-- max of a list of ints -/
def gMaxL : GB := fun ds M Q => ∃ d xs ns, ds = [d] ∧ asL M d = some xs ∧ intsD xs = some ns ∧ 0 < ns.length ∧ ∀ m, m ∈ ns → (∀ y ∈ ns, y ≤ m) → Q (.int m) M
theorem c_maxL (hc : X.calm = true) : CallD X (.builtin "max") gMaxL := by
  intro pins s σ H vs us Q I r ⟨N, M, ds, Qd, o, rs, ⟨d, xs, ns, e, h1, h2, h3, q⟩, k⟩
  subst e
  cases rs with | cons r1 rs =>
  cases rs
  obtain ⟨a, ws, e1, e2, e3⟩ := r1.asL o h1
  subst e1
  have e4 := e3.intsD h2
  subst e4
  exact cr_max hc pins s σ H _ us Q I r ⟨a, ns, rfl, .inl (.inl e2), h3, fun m m1 m2 => k _ _ M H (Fr.refl _ _) o (.int _) (q m m1 m2)⟩
end DL

set_option Elab.async false
set_option maxRecDepth 100000
set_option maxHeartbeats 4000000
/-! a constant of the text that is a tuple of ints and texts -/
namespace DL
open PySem PySem.Spec L2
variable {X : Cx} {W : WX}
def ConstT (K : PySem.W.Frag) (ds : List D) (a : Addr) : Prop := ∃ (vs : List V), (∃ (o : Obj) (its : Array Value) (n : Nat), K.lookup a = some o ∧ o.cls = .type "tuple" ∧ o.data = .seq its n ∧ its.size ≤ sizeLine ∧ Vals vs its.toList) ∧ ∀ (N : Addr → Prop) (H : Hp) (M : MS), Reps ⟨K, N⟩ H M ds vs
theorem e_globK {x : Str} {ds : List D} {pos : Pos} (hg : Gl X x) (hm : ∃ a, X.mg x = some (.ref a) ∧ ConstT X.K ds a) (hd : (x == ("__debug__" : Str)) = false := by decide) : JE X W (.Name x pos) (dC (.ktup ds)) := by
  obtain ⟨a, h1, vs, h2, h3⟩ := hm
  refine pe_imp (pe_glob (v := .ref a) hg h1 rfl hd) fun σ H Q ⟨N, ρ, M, Qd, R, er, o, q, k, _⟩ => ?_
  exact k _ _ M H (Fr.refl _ _) o (.ktup h2 (h3 N H M)) q
end DL

set_option Elab.async false
set_option maxRecDepth 100000
set_option maxHeartbeats 4000000
/-! min of a list of alike data; calls that leave a keyword-only `False` out -/
namespace DL
open PySem PySem.Spec PySem.Calls PyProof.Rows PyProof.V L2
open PySem.W (dataLt minD AlikeAll alike)
theorem minD_mem (x : PyData) : ∀ xs : List PyData, minD x xs ∈ x :: xs := by
  intro xs
  unfold minD
  induction xs generalizing x with
  | nil => exact List.mem_cons_self
  | cons y ys ih =>
    rw [List.foldl_cons]
    have h := ih (if dataLt y x = true then y else x)
    rcases List.mem_cons.mp h with h | h
    · rw [h]
      split
      · exact List.mem_cons_of_mem _ List.mem_cons_self
      · exact List.mem_cons_self
    · exact List.mem_cons_of_mem _ (List.mem_cons_of_mem _ h)
theorem minD_le (x : PyData) : ∀ xs : List PyData, ∀ y ∈ x :: xs, dataLt y (minD x xs) = false := by
  intro xs
  unfold minD
  induction xs generalizing x with
  | nil =>
    intro y hy
    rcases List.mem_cons.mp hy with rfl | hy
    · exact PyProof.Rows.lex_irrefl _
    · cases hy
  | cons z zs ih =>
    intro y hy
    rw [List.foldl_cons]
    have h0 := ih (if dataLt z x = true then z else x)
    have nt : ∀ a b c : PyData, dataLt a b = false → dataLt b c = false → dataLt a c = false := by
      intro a b c h1 h2
      cases h3 : dataLt a c with
      | false => rfl
      | true =>
        rcases PyProof.Rows.lex_negTrans _ (PySem.W.keyToks b) _ h3 with h | h
        · exact absurd (h.symm.trans h1) (by simp)
        · exact absurd (h.symm.trans h2) (by simp)
    rcases List.mem_cons.mp hy with rfl | hy
    · refine nt _ (if dataLt z y = true then z else y) _ ?_ (h0 _ List.mem_cons_self)
      split
      · rename_i h
        cases h3 : dataLt y z with
        | false => rfl
        | true =>
          have e := PyProof.Rows.lex_trans _ _ _ h3 h
          exact absurd (e.symm.trans (PyProof.Rows.lex_irrefl _)) (by simp)
      · exact PyProof.Rows.lex_irrefl _
    · rcases List.mem_cons.mp hy with rfl | hy
      · refine nt _ (if dataLt y x = true then y else x) _ ?_ (h0 _ List.mem_cons_self)
        split
        · exact PyProof.Rows.lex_irrefl _
        · rename_i h
          cases h3 : dataLt y x with
          | false => rfl
          | true => exact absurd h3 h
      · exact h0 y (List.mem_cons_of_mem _ hy)
theorem toPs_get : ∀ {ds : List D} {ps : List PyData} {i : Nat} {x : D}, toPs ds = some ps → ds[i]? = some x → ∃ p, ps[i]? = some p ∧ toP x = some p
  | [], _, _, _, _, h => by simp at h
  | d :: ds, ps, i, x, e, h => by
    simp only [toPs] at e
    cases q : toP d with
    | none => rw [q] at e; cases e
    | some p =>
      cases q2 : toPs ds with
      | none => rw [q, q2] at e; cases e
      | some ps' =>
        rw [q, q2] at e; cases e
        cases i with
        | zero => cases h; exact ⟨p, rfl, q⟩
        | succ i => exact toPs_get (ds := ds) (ps := ps') (i := i) q2 h
section
variable {X : Cx} {W : WX}
/-- the least item, told by its data -/
def gMinD : GB := fun ds M Q => ∃ d xs ps, ds = [d] ∧ asL M d = some xs ∧ toPs xs = some ps ∧ AlikeAll ps ∧ PyData.depthAll ps ≤ 40 ∧ 0 < ps.length ∧
  ∀ x p, x ∈ xs → toP x = some p → p ∈ ps → (∀ y ∈ ps, dataLt y p = false) → Q x M
theorem c_minD (hc : X.calm = true) (hu : X.A.units + 64 < cLine) : CallD X (.builtin "min") gMinD := by
  intro pins s σ H vs us Q I r ⟨N, M, ds, Qd, o, rs, ⟨d, xs, ps, e, h1, h2, h3, h4, h5, q⟩, k⟩
  subst e
  cases rs with | cons r1 rs =>
  cases rs
  obtain ⟨a, ws, e1, e2, e3⟩ := r1.asL o h1
  subst e1
  obtain ⟨its, rv, hl, _⟩ := I.list (.inl (.inl e2))
  rw [Vals.ref1 r]
  obtain ⟨as, hra⟩ := Dp.readsAll I ps ws its (e3.dp h2) rv
  cases ps with
  | nil => exact absurd h5 (Nat.lt_irrefl 0)
  | cons p0 pr =>
    refine PySem.W.min_list_data (I.ok.hd hc) hl.isList (vs := its.toArray) hra h3 (by omega) fun i v h' tk bs hi rb hk => ?_
    have hi' : its[i]? = some v := by simpa using hi
    obtain ⟨il, _⟩ := List.getElem?_eq_some_iff.mp hi'
    have lw : its.length = ws.length := rv.length.symm
    have lx : xs.length = ws.length := e3.length
    obtain ⟨x, hx⟩ : ∃ x, xs[i]? = some x := ⟨xs[i], List.getElem?_eq_getElem (by omega)⟩
    obtain ⟨wv, hw, rw1⟩ := e3.get hx
    obtain ⟨v2, hv2, rr⟩ := rv.get hw
    have ev : v2 = v := by rw [hi'] at hv2; exact (Option.some.inj hv2).symm
    subst ev
    obtain ⟨p, hp, tp⟩ := toPs_get h2 hx
    obtain ⟨bs2, r2, _, m2, _⟩ := PySem.W.readsAll_atA (vs := its.toArray) hra i v2 hi
    have ep : (p0 :: pr).getD i .none = p := by rw [List.getD_eq_getElem?_getD, hp]; rfl
    rw [ep] at r2 m2
    have mm := minD_mem p0 pr
    have e : p = minD p0 pr := PySem.W.alike_unique _ _ _ _ _ (h3.1 _ m2 _ mm) (PySem.W.reads_keeps hk r2) rb
    subst e
    exact ⟨_, H, I.kept hk, rr, k _ _ M H (Fr.refl _ _) o rw1 (q x _ (List.mem_of_getElem? hx) tp mm fun y hy => minD_le p0 pr y hy)⟩
end
/-- sorted of a list of alike data, of any length -/
def gSortedD (fin : Fin) : GB := fun ds M Q => ∃ d xs ps, ds = [d] ∧ asL M d = some xs ∧ toPs xs = some ps ∧ PySem.W.AllAlike ps ∧ PySem.W.Sortable ps ∧ PyData.depthAll ps ≤ 40 ∧ xs.length ≤ sizeLine ∧
  ∀ ys : List D, ys.Perm xs → ys.Pairwise (fun a b => ∀ p q, toP a = some p → toP b = some q → dataLt q p = false) → fin ys M Q
def encD (b : D × V) : PyData := (toP b.1).getD .none
theorem zip_maps {α β : Type} : ∀ {l : List α} {m : List β}, l.length = m.length → (l.zip m).map (·.1) = l ∧ (l.zip m).map (·.2) = m
  | [], [], _ => ⟨rfl, rfl⟩
  | [], _ :: _, h => by simp at h
  | _ :: _, [], h => by simp at h
  | a :: l, b :: m, h => by
    have := zip_maps (l := l) (m := m) (by simpa using h)
    exact ⟨by simp [this.1], by simp [this.2]⟩
theorem reps_zip {K : KN} {H : Hp} {M : MS} : ∀ {ds : List D} {vs : List V}, Reps K H M ds vs → ∀ b ∈ ds.zip vs, Rep K H M b.1 b.2
  | _, _, .nil, b, hb => by simp at hb
  | _, _, .cons r rs, b, hb => by
    rcases List.mem_cons.mp (show b ∈ _ :: _ from hb) with rfl | hb
    · exact r
    · exact reps_zip rs b hb
theorem reps_of {K : KN} {H : Hp} {M : MS} : ∀ {bs : List (D × V)}, (∀ b ∈ bs, Rep K H M b.1 b.2) → Reps K H M (bs.map (·.1)) (bs.map (·.2))
  | [], _ => .nil
  | b :: bs, h => .cons (h b List.mem_cons_self) (reps_of fun c hc => h c (List.mem_cons_of_mem _ hc))
theorem each_zip : ∀ {ds : List D} {vs : List V} {us : List Value}, ds.length = vs.length → Vals vs us → PySem.W.EachIs (fun u (b : D × V) => RelV b.2 u) us (ds.zip vs)
  | [], [], _, _, .nil => .nil
  | _ :: _, [], _, h, _ => by simp at h
  | [], _ :: _, _, h, _ => by simp at h
  | d :: ds, v :: vs, _, h, .cons r rs => .cons r (each_zip (by simpa using h) rs)
theorem vals_each : ∀ {bs : List (D × V)} {us : List Value}, PySem.W.EachIs (fun u (b : D × V) => RelV b.2 u) us bs → Vals (bs.map (·.2)) us
  | _, _, .nil => .nil
  | _, _, .cons r rs => .cons r (vals_each rs)
theorem depth_mem : ∀ {ps : List PyData} {p : PyData}, p ∈ ps → p.depth ≤ PyData.depthAll ps
  | q :: ps, p, h => by
    simp only [PyData.depthAll]
    rcases List.mem_cons.mp h with rfl | h
    · omega
    · have := depth_mem h; omega
theorem toPs_map : ∀ {ds : List D} {ps : List PyData}, toPs ds = some ps → ds.map (fun d => (toP d).getD .none) = ps
  | [], ps, h => by simp [toPs] at h; simp [← h]
  | d :: ds, ps, h => by
    simp only [toPs] at h
    cases q : toP d with
    | none => rw [q] at h; cases h
    | some p =>
      cases q2 : toPs ds with
      | none => rw [q, q2] at h; cases h
      | some ps' =>
        rw [q, q2] at h; cases h
        simp [q, toPs_map q2]
theorem dlt_neg {a b c : PyData} (h1 : dataLt b a = false) (h2 : dataLt c b = false) : dataLt c a = false := by
  cases h3 : dataLt c a with
  | false => rfl
  | true =>
    rcases PyProof.Rows.lex_negTrans _ (PySem.W.keyToks b) _ h3 with h | h
    · exact absurd (h.symm.trans h2) (by simp)
    · exact absurd (h.symm.trans h1) (by simp)
theorem dlt_asym {a b : PyData} (h : dataLt a b = true) : dataLt b a = false := by
  cases h3 : dataLt b a with
  | false => rfl
  | true =>
    have e := PyProof.Rows.lex_trans _ _ _ h3 h
    exact absurd (e.symm.trans (PyProof.Rows.lex_irrefl _)) (by simp)
theorem c_sortedD {X : Cx} {fin : Fin} (hf : FinOk fin) (hu : X.A.units + 64 < cLine) : CallD X (.builtin "sorted") (gSortedD fin) := by
  intro pins s σ H vs us Q I r ⟨N, M, ds, Qd, o, rs, ⟨d, xs, ps, e, h1, h2, h3, h4, h5, h6, q⟩, k⟩
  subst e
  cases rs with | cons r1 rs =>
  cases rs
  obtain ⟨a, ws, e1, e2, e3⟩ := r1.asL o h1
  subst e1
  obtain ⟨its, rv, hl, _⟩ := I.list (.inl (.inl e2))
  rw [Vals.ref1 r]
  have hlen : xs.length = ws.length := e3.length
  obtain ⟨z1, z2⟩ := zip_maps hlen
  have rz := reps_zip e3
  have ep : (xs.zip ws).map encD = ps := by
    have : (xs.zip ws).map encD = ((xs.zip ws).map (·.1)).map fun d => (toP d).getD .none := by rw [List.map_map]; rfl
    rw [this, z1]; exact toPs_map h2
  obtain ⟨as, hra⟩ := Dp.readsAll I ps ws its (e3.dp h2) rv
  have hL : (xs.zip ws).length ≤ sizeLine := by rw [← List.length_map (f := (·.1)), z1]; exact h6
  refine PySem.W.sorted_data (R := fun u (b : D × V) => RelV b.2 u) (bs := xs.zip ws) (enc := encD) hl.isList (each_zip hlen rv) (PySem.W.readsAll_each encD (by rw [ep]; exact hra)) (by rw [ep]; exact h3) (by rw [ep]; exact h4) hL (fun b hb => ?_) fun out ho heach => ?_
  · have : encD b ∈ ps := by rw [← ep]; exact List.mem_map.mpr ⟨b, hb, rfl⟩
    have := depth_mem this
    omega
  · obtain ⟨ea, he'⟩ := PyProof.Rows.sortedAll_at s.heap its out.toArray
    have hpm := List.mergeSort_perm (xs.zip ws) (PySem.W.dataLe false encD)
    generalize hbs : (xs.zip ws).mergeSort (PySem.W.dataLe false encD) = bs' at heach hpm
    have hpw : bs'.Pairwise fun a b => PySem.W.dataLe false encD a b = true := by
      rw [← hbs]
      refine List.pairwise_mergeSort (fun a b c hab hbc => ?_) (fun a b => ?_) _
      · rw [PySem.W.dataLe_eq] at *
        simp only [cond_false, Bool.not_eq_true'] at *
        exact dlt_neg hab hbc
      · rw [PySem.W.dataLe_eq]
        simp only [cond_false]
        cases h : dataLt (encD b) (encD a) with
        | false => rfl
        | true => rw [dlt_asym h]; rfl
    have rb : ∀ b ∈ bs', Rep ⟨X.K, N⟩ H M b.1 b.2 := fun b hb => rz b (hpm.mem_iff.mp hb)
    have hn : H (s.heap.objs.size + 1) = none := I.hok.fresh (Nat.le_succ _)
    have hle : (bs'.map (·.2)).length ≤ sizeLine := by rw [List.length_map, hpm.length_eq]; exact hL
    refine ⟨.ref _, upd H (s.heap.objs.size + 1) (.lst (bs'.map (·.2))), I.laid (t' := s.toks) (fun _ _ => PyProof.Rows.sortedAll_old) (Nat.le_succ _) ⟨hle, out.toArray.toList, ea, vals_each heach, he'⟩, rfl, fin_new hf o hn (reps_of rb) (q (bs'.map (·.1)) ?_ ?_) k⟩
    · have := hpm.map (·.1); rwa [z1] at this
    · rw [List.pairwise_map]
      refine hpw.imp fun {a b} hab p q hp hq => ?_
      rw [PySem.W.dataLe_eq] at hab
      simp only [cond_false, Bool.not_eq_true'] at hab
      unfold encD at hab
      rw [hp, hq] at hab
      exact hab
section
variable {X : Cx} {W : WX} {k : Nat} {f : Addr} {fd : FuncData} {ps : List Str} {sp : SpD} {x : Str} {p pos : Pos} {e : Expr} {es : List Expr} {t : TAD}
def dCallF (sp : SpD) (t : TAD) : TED := fun ρ M Q R => t ρ M (fun ds M1 => sp (ds ++ [.bl false]) M1 Q R) R
theorem e_callF (tk : Takes X W) (F : Okd X.prog X.w X.K X.mg X.base k f fd ps sp) (hr : Room k X.A) (hg : Gl X x) (hm : X.mg x = some (.ref f)) (hk : PySem.W.keepIn X.K (.ref f) = true) (hb : ∃ ds, Vals [V.bl false] ds ∧ Binds X.K fd ps ds) (ha : JA X W (e :: es) t)
    (hdb : (x == ("__debug__" : Str)) = false := by decide) (he : starEach (e :: es) X.env = (false, eval e X.env) :: starEach es X.env := by rfl) (hpl : (backTo pos (starEach es X.env)).any (·.1) = false := by rfl) : JE X W (.Call (.Name x p) (e :: es) [] pos) (dCallF sp t) := by
  obtain ⟨ds0, hd, hb⟩ := hb
  exact pe_imp (pe_callSD F hr hg hm hk hb hd (fun σ => passAt tk σ) ha hdb he hpl) fun σ H Q ⟨N, ρ, M, Qd, R, er, o, q, k, x⟩ =>
    ⟨N, ρ, M, _, R, er, o, q, fun ds vs M1 H1 f1 o1 r1 q1 => ⟨N, ds ++ [.bl false], M1, Qd, R, o1, r1.append (.cons (.bl false) .nil), q1, KE.mono f1 k, fun C d dx M' H' f o' xa r => x C d dx M' H' (f1.trans f) o' xa r⟩, x⟩
end
/-- a def of the text whose one keyword-only name stands at False -/
theorem fun_kwF {K : PySem.W.Frag} {x qual : Str} {st : Stmt} {f D : Addr} {oc dc pm cd ct : Value} {od an : Option Addr} {sl : Array (Option Value)} {kw : Str} {ps : List Str} {n : Nat}
    (l : K.lookup f = some ⟨oc, od, .func (PySem.W.fnOf x qual (defArgs st) (defBody st) (defScope st) .none (.ref D) dc pm an cd ct), sl⟩) (c : PySem.W.codeIn K cd qual = true) (kp : PySem.W.keepIn K (.ref f) = true)
    (hq : PySem.W.nsIn K D kw = some (some (.bool false))) (hn : n + 1 = ps.length)
    (h : ∀ (D : Addr) (doc pm : Value) (an : Option Addr) (cdv ct : Value) (us ks : List Value), us.length = n → ks.length = 1 →
      KwChain D ([kw].zip ks) (bindArgs (PySem.W.fnOf x qual (defArgs st) (defBody st) (defScope st) .none (.ref D) doc pm an cdv ct) ⟨us, []⟩) (ps.zip (us ++ ks))) :
    ∃ ds, Vals [V.bl false] ds ∧ Binds K (PySem.W.fnOf x qual (defArgs st) (defBody st) (defScope st) .none (.ref D) dc pm an cd ct) ps ds :=
  FunD.binds0 (kws := [(kw, .bl false)]) (F := ⟨⟨oc, od, .none, .ref D, dc, pm, an, cd, ct, sl, rfl, l, c, .inl ⟨rfl, rfl⟩, .inr ⟨D, rfl, fun q hm => by
    rcases List.mem_singleton.mp hm with rfl
    exact ⟨_, hq, rfl⟩⟩⟩, kp⟩) n (by simp) hn h
end DL

set_option Elab.async false
set_option maxRecDepth 100000
set_option maxHeartbeats 4000000
/-! l.count of data; isinstance of the error that a suite holds -/
namespace DL
open PySem PySem.Spec PySem.Calls PyProof.Rows PyProof.V L2
def gCount : GM := fun d ds M Q => ∃ y ps p, ds = [y] ∧ toPM M d = some (.list ps) ∧ toPM M y = some p ∧ SeqAt.shaped (.list ps) = true ∧ SeqAt.shaped p = true ∧ Q (.int ((ps.countP fun z => PyData.eqv z p : Nat) : Int)) M
theorem m_count {X : Cx} (hu : X.A.units + 65 < cLine) : MtD X "list.count" gCount := by
  intro pins s σ H x vs v us Q I rx rv ⟨N, M, d, ds, Qd, o, r, rs, ⟨y, ps, p, e1, h1, h2, sl, sd, q⟩, k⟩
  subst e1
  cases rs with | @cons _ vy _ _ r1 rs =>
  cases rs
  have d1 := r.dpM o h1
  have d2 := r1.dpM o h2
  cases rv with | @cons _ uy _ _ ry rt =>
  cases rt
  obtain ⟨bs, rb⟩ := Dp.reads I p vy uy d2 ry
  have hxs : PyData.canLayAll0 ps = true := SeqAt.canLay_of_shaped sl
  have hroom : X.A.units + 1 + min (PyData.depthAll ps) p.depth < cLine := room_in_shaped sd hu
  cases d1 with
  | @lst a xs _ hs ha =>
    cases rx
    obtain ⟨its, rvl, ⟨⟨cls, dd, data, sls⟩, n, ho, hc, hdn, hdt⟩, hlen⟩ := I.list hs
    simp only at hc hdt
    subst hc hdt
    obtain ⟨as, h4⟩ := Dp.readsAll I ps _ its ha rvl
    have hmap : its.map (SeqAt.readOf s.heap) = ps := SeqAt.readsAll_map ps its as hxs h4
    refine call_meets PySem.F.slot_list_count ⟨_, ho, rfl⟩ PySem.F.entry_list_count (PySem.F.args_list_count_2 _ _)
      (SeqAt.list_countAt a its.toArray n dd sls uy (fun u => PyData.eqv (SeqAt.readOf s.heap u) p)) ⟨ho, SeqAt.items_eqAt (vs := its.toArray) (show ReadsAll s.heap its.toArray.toList ps as from h4) rb hxs (SeqAt.canLay_of_shaped sd) hroom, ?_⟩
    refine ⟨.int _, H, I.tok _, ⟨_, rfl⟩, ?_⟩
    have e : (its.toArray.toList.countP fun u => PyData.eqv (SeqAt.readOf s.heap u) p) = ps.countP fun z => PyData.eqv z p := by
      rw [← hmap, List.countP_map]; rfl
    rw [e]
    exact k _ _ M H (Fr.refl _ _) o (.int _) q
/-! ### isinstance(e, C) -/
section
variable {prog : Program} {w : World} {A : Around} {E : Value → Shared → Prop} {s : Shared} {K : PySem.W.Frag} {x D : Addr} {ox : Obj} {od : Option Obj}
open PySem.W in
theorem findObj_dataO {C : Addr} {name : Str} {a g : Value} (hc : (clsIn K C).isSome = true) (ha : findIn K (.ref C) name = some (some a)) (hg : specialIn K a "__get__" = some (some g)) (ht : takesIn K a = some true) : findObj K C od name = some (.bind g a) := by
  obtain ⟨cd, hc⟩ := Option.isSome_iff_exists.mp hc
  unfold findObj
  rw [hc, Option.bind_some, ha, Option.bind_some]
  simp [hg, ht]
open PySem.W in
/-- the class that an error tells of itself, also one that has a dict -/
theorem err_class {Q : Option Value → Shared → Prop} (C : L2.ExcC K D) (X : K.In s.heap) (I : InstAt s.heap x ox D od) (h : Q (some (.ref D)) { s with toks := s.toks + 1 }) : wpAny (model prog w) A (getAttr? (.ref x) "__class__") Q E s := by
  have found : findObj K D od "__class__" = some (.bind (.builtin "getset_descriptor.__get__") (.builtin "object.__class__")) := findObj_dataO (by obtain ⟨cd, e, _⟩ := any_some C.hd; rw [e]; rfl) C.ha C.hn C.ht
  cases s with | mk hp gs dr tk os =>
  have aType := I.type (M := model prog w)
  have aGet := looks_findIn (M := model prog w) X C.hg
  have aTry := looks_findIn (M := model prog w) X C.hk
  have aFind := looks_find (M := model prog w) X I found
  have isErr : Looks (model prog w) hp (isInstance (.ref x) (.type "BaseException")) true := aType.andThen (looks_subIn X C.hs)
  have no1 : (false && onTheHeap (Value.builtin "BaseException.__getattribute__")) = false := rfl
  have no2 : (onTheHeap (Value.ref D) && Value.builtin "BaseException.__getattribute__" == Value.builtin "object.__getattribute__") = false := by
    rw [show (Value.builtin "BaseException.__getattribute__" == Value.builtin "object.__getattribute__") = false by decide +kernel]; rfl
  simp only [getAttr?, getAttrBy?, getAttrBy]
  refine wpAny_bind (wpAny_mkText (wpAny_bind (wpAny_attempt (wpAny_holding (wpAny_bind (aType.at (wpAny_bind (aGet.at ?_))))))))
  show wpAny _ _ (if (onTheHeap (Value.ref D) && Value.builtin "BaseException.__getattribute__" == Value.builtin "object.__getattribute__") = true then _ else _) _ _ _
  rw [no2, if_neg Bool.false_ne_true]
  simp only [getAttrByItsOwn, hookBefore]
  refine wpAny_bind ?_
  rw [if_pos (show onTheHeap (Value.ref D) = true from rfl)]
  refine aTry.at (wpAny_bind (wpAny_attempt (wpAny_holding ?_)))
  simp only [callGetattribute]
  rw [no1, if_neg Bool.false_ne_true]
  simp only [boundAndCalled]
  rw [PySem.F.excAttr_ValueError.ga.bind (.ref x)]
  refine wpAny_bind (wpAny_pure ?_)
  show wpAny _ _ (call (.builtin "BaseException.__getattribute__") [.ref x, .str "__class__" tk]) _ _ _
  refine wpAny_call (codeAny_call_builtin PySem.F.excAttr_ValueError.ga.plain PySem.F.entry_bexc_ga (@check_slot (model prog w) _ _ ⟨hp, gs, dr, tk + 1, os⟩ "BaseException.__getattribute__" "BaseException" "__getattribute__" (.ref x) [.str "__class__" tk] [] _ (by decide +kernel) (by decide +kernel) isErr (PySem.F.args_bexc_ga (.ref x) (.str "__class__" tk)) ?_))
  simp only [Builtin.«object.__getattribute__»]
  refine wpAny_bind (wpAny_of_eq (a := ((Value.ref x : Value), [Value.str "__class__" tk])) (by first | rfl | (simp only [slotArgs]; rfl)) ?_)
  refine wpAny_bind (wpAny_pure (wpAny_bind (aType.at (wpAny_bind (aFind.at ?_)))))
  show wpAny _ _ (holding [Value.builtin "object.__class__"] (call (.builtin "getset_descriptor.__get__") [.builtin "object.__class__", .ref x, .ref D]) >>= ret) _ _ _
  refine wpAny_bind (wpAny_holding (wpAny_call (class_get (s := ⟨hp, gs, dr, tk + 1, os⟩) (ox := ox) (od := od) X I C.hm ?_)))
  refine wpAny_pure ?_
  show wpAny _ _ (handedOut (.ref D)) _ _ _
  rw [handedOut_of (v := .ref D) rfl]
  first
    | exact wpAny_pure (wpAny_pure h)
    | exact wpAny_pure h
    | exact wpAny_pure (wpAny_bind (wpAny_pure (wpAny_pure h)))
open PySem.W in
theorem kit_err (C : L2.ExcC K D) : KitX K (.ref x) (.ref D) (fun h => InstAt h x ox D od) where
  ty := fun _ _ _ I => I.type
  it := fun _ _ X _ => by
    obtain ⟨cd, e, _⟩ := any_some C.hd
    simp only [clsIn] at e
    split at e
    · rename_i c' d' cd' sl' ho
      intro A' Q' E' s' k q
      simp only [isType, loadHead]
      exact wpAny_bind (wpAny_loadPart (k _ _ (X _ _ ho)) (wpAny_pure q))
    · cases e
  ne := fun h tp dd its n sl X htp => by
    obtain ⟨cd, e, _⟩ := any_some C.hd
    cases hh : ((Value.ref D) == Value.ref tp) with
    | false => rfl
    | true =>
      have ee : D = tp := Value.ref.inj (beq_iff_eq.mp hh)
      subst ee
      simp only [clsIn] at e
      split at e
      · rename_i c' d' cd' sl' ho
        exact nomatch (X _ _ ho).symm.trans htp
      · cases e
  ca := fun X I k => err_class C X I k
end
/-- isinstance(e, c), e the error that the suite holds -/
def gIsE (kit : Value → Value → Option Bool) (Xf : Addr → Prop) (a dx C : Addr) : GB := fun ds M Q => ∃ w c u b, ds = [.exc a dx C w, c] ∧ Xf C ∧ clsOfD c = some u ∧ kit (.ref C) u = some b ∧ Q (.bl b) M
theorem c_isE {X : Cx} {Xf : Addr → Prop} {a dx C : Addr} {oe : Obj} {pn : List (Addr × Obj)} (hX : ∀ C, Xf C → L2.ExcC X.K C) (hz : Zc (.ref C) (some dx) oe) (hf : ∃ vs, oe.data = .fields vs) :
    CallD (X.suite a ((a, oe) :: pn)) (.builtin "isinstance") (gIsE (PySem.W.kitOne X.K) Xf a dx C) := by
  intro pins s σ H vs us Q I r ⟨N, M, ds, Qd, o, rs, ⟨w, c, u, b, e, h1, h2, h3, q⟩, k⟩
  subst e
  have ec := hX C h1
  cases rs with | @cons _ vx _ _ r1 rs =>
  cases rs with | @cons _ vc _ _ r2 rs =>
  cases rs
  have kc : ClsV vc u := by
    cases r2 <;> simp [clsOfD] at h2 <;> subst h2
    · exact .ty _
    · exact .own _
  cases r1 with
  | exc e1 e2 e3 =>
    cases r with | cons rx rr =>
    cases rr with | cons rt rr =>
    cases rr
    cases rx
    have eu := kc.eq rt
    subst eu
    obtain ⟨hget, _⟩ := I.pin (a, oe) (List.mem_append_left _ List.mem_cons_self)
    obtain ⟨vs, hv⟩ := hf
    obtain ⟨mA, hns, hr⟩ : ObjOk X.prog X.w H s.heap dx _ := I.hok dx _ e1
    obtain ⟨od, ho, hl⟩ := lookIn_ns hns
    have J : PySem.W.InstAt s.heap a oe C (some od) := ⟨hget, hz.1, by simp only [PySem.W.notCls, hv], by rw [hz.2]; exact ho⟩
    exact PySem.W.kia_one (kit_err ec) I.kIn J h3 (fun z => nomatch z) fun tk => ⟨.bl b, H, I.kept (t' := tk) fun _ _ z => z, rfl, k _ _ M H (Fr.refl _ _) o (.bl _) q⟩
end DL

set_option Elab.async false
set_option maxRecDepth 100000
set_option maxHeartbeats 4000000
/-! f(k = v, ..) that leaves the last, keyword-only, name at False -/
namespace DL
open PySem PySem.Spec PySem.Calls L2
section
variable {X : Cx} {W : WX} {k : Nat} {f : Addr} {fd : FuncData} {ps ks : List Str} {sp : SpD} {x : Str} {p pos : Pos} {e : Expr} {es : List Expr} {t u : TAD} {kws : List Keyword}
/-- how a call with n positional values and the keywords ks binds, the last name left at False -/
def KwOkF (K : PySem.W.Frag) (fd : FuncData) (ps ks : List Str) (n : Nat) (ix : List Nat) : Prop := ∃ mv : List Value, Vals [V.bl false] mv ∧ ∀ (s : Shared) (us ws : List Value), K.In s.heap → us.length = n → ws.length = ks.length → BindsTo s fd ⟨us, ks.zip ws⟩ (ps.zip (perm ix (us ++ ws) .none ++ mv))
theorem run_kwF {E : L2.St → XK} {CX : CXT} {sp : Sp} {n : Nat} {ix : List Nat} {pins : List (Addr × Obj)} {σ : L2.St} {H : Hp} {s : Shared} {Q : VK} {us ws : List Value} {vs zs : List V}
    (F : FnOk X.prog X.w X.K X.mg X.base CX k f fd ps sp) (hr : Room k X.A) (hb : KwOkF X.K fd ps ks n ix) (hx : PassesAt CX X σ (E σ)) (hn : vs.length = n) (hz : zs.length = ks.length)
    (I : Inv X pins σ H s) (r : Vals vs us) (rz : Vals zs ws) (h : sp (perm ix (vs ++ zs) .non ++ [V.bl false]) H Q (E σ)) : wpAny (model X.prog X.w) X.A (call (.ref f) us (ks.zip ws)) (EP X pins σ Q) X.xe s := by
  obtain ⟨mv, hm, hb⟩ := hb
  have r2 := (Vals.perm (r.append rz) ix).append hm
  refine wpAny_call (codeAny_mono (F.run X.A X.stack s H ⟨us, ks.zip ws⟩ _ _ Q (E σ) hr I.env0 (hb s us ws I.kIn (by rw [← r.length]; exact hn) (by rw [← rz.length]; exact hz)) r2 h) fun r s' hq => ?_)
  cases r with
  | error e => exact hx pins H s e s' I hq
  | ok fl =>
    cases fl with
    | ret u => exact I.after hq
    | next => exact False.elim hq
    | brk => exact False.elim hq
    | cont => exact False.elim hq
def dCallKF (sp : SpD) (m : Nat) (ix : List Nat) (u : TAD) : TED := fun ρ M Q R => u ρ M (fun es M2 => es.length = m ∧ sp (perm ix es .non ++ [.bl false]) M2 Q R) R
theorem e_kwF0 {m : Nat} {ix : List Nat} (tk : Takes X W) (F : Okd X.prog X.w X.K X.mg X.base k f fd ps sp) (hr : Room k X.A) (hg : Gl X x) (hm : X.mg x = some (.ref f)) (hk : PySem.W.keepIn X.K (.ref f) = true) (hb : KwOkF X.K fd ps ks 0 ix) (hl : ks.length = m)
    (hkw : JK X W kws u) (hall : (backToKw pos (keywordEach kws X.env)).all (·.1.isSome) = true := by rfl) (hks : (backToKw pos (keywordEach kws X.env)).filterMap (·.1) = ks := by rfl)
    (hdb : (x == ("__debug__" : Str)) = false := by decide) (hpl : ((backTo pos (starEach [] X.env)).any (·.1) || (backToKw pos (keywordEach kws X.env)).any (·.1.isNone)) = false := by rfl) :
    JE X W (.Call (.Name x p) [] kws pos) (dCallKF sp m ix u) := by
  subst hl
  refine ⟨fun pins s σ H Q I ⟨N, ρ, M, Qd, R, er, o, q, k0, xr⟩ => ?_⟩
  refine wpAny_Call_Name_kw (ld_glob I hg hm ?_ hdb)
  refine PySem.W.callWith_KW0 (h₀ := X.base) I.ok.mod.kin hk hall (thn (hkw.run pos pins s σ H (fun zs H2 => zs.length = ks.length ∧ lSp X.K sp (perm ix ([] ++ zs) .non ++ [V.bl false]) H2 Q (WE W σ)) I ⟨N, ρ, M, _, R, er, o, q, fun es zs M2 H2 f2 o2 r2 ⟨l2, q2⟩ => ⟨by rw [← r2.length]; exact l2, N, _, M2, Qd, R, o2, (r2.perm ix).append (.cons (.bl false) .nil), q2, KE.mono f2 k0, fun C d dx M' H' f o' xa r => xr C d dx M' H' (f2.trans f) o' xa r⟩, xr⟩) fun ws s2 ⟨zs, H2, I2, rz, l2, q2⟩ => ⟨I2.kIn, ?_⟩) hpl
  rw [hks]
  exact run_kwF (us := []) (vs := []) F hr hb (passAt tk σ) rfl l2 I2 .nil rz q2
end
/-- the fact of a def whose one keyword-only name stands at False, called by keywords -/
theorem fun_kwKF {K : PySem.W.Frag} {x qual : Str} {st : Stmt} {f D : Addr} {oc dc pm cd ct : Value} {od an : Option Addr} {sl : Array (Option Value)} {kw : Str} {ps ks : List Str} {n : Nat} {ix : List Nat}
    (l : K.lookup f = some ⟨oc, od, .func (PySem.W.fnOf x qual (defArgs st) (defBody st) (defScope st) .none (.ref D) dc pm an cd ct), sl⟩) (c : PySem.W.codeIn K cd qual = true) (kp : PySem.W.keepIn K (.ref f) = true)
    (hq : PySem.W.nsIn K D kw = some (some (.bool false)))
    (h : ∀ (D : Addr) (doc pm : Value) (an : Option Addr) (cdv ct : Value) (us mv ws : List Value), us.length = n → mv.length = 1 → ws.length = ks.length →
      KwChain D ([kw].zip mv) (bindArgs (PySem.W.fnOf x qual (defArgs st) (defBody st) (defScope st) .none (.ref D) doc pm an cdv ct) ⟨us, ks.zip ws⟩) (ps.zip (perm ix (us ++ ws) .none ++ mv))) :
    KwOkF K (PySem.W.fnOf x qual (defArgs st) (defBody st) (defScope st) .none (.ref D) dc pm an cd ct) ps ks n ix := by
  refine ⟨[.bool false], .cons rfl .nil, fun s us ws X l1 l2 => BindsTo.of_looks fun M => KwChain.looks X (l := [kw].zip [.bool false]) (fun q hm => ?_) (h D dc pm an cd ct us [.bool false] ws l1 rfl l2)⟩
  rcases List.mem_singleton.mp hm with rfl
  exact hq
end DL

set_option Elab.async false
set_option maxRecDepth 100000
set_option maxHeartbeats 4000000
/-! a tuple times a number; sorted of a tuple; a dict of a list of pairs -/
namespace DL
open PySem PySem.Spec PySem.Calls PyProof.Rows PyProof.V L2
/-! ### a tuple times a number -/
theorem tupSame (l : Addr) (its : Array Value) (m : Nat) (dd : Option Addr) (sl : Array (Option Value)) (u : Tok) (ne : its.isEmpty = false) :
    Meets (Builtin.«tuple.__mul__» ⟨[.ref l, .int 1 u], []⟩) (fun _ R s => s.heap.get? l = some ⟨.type "tuple", dd, .seq its m, sl⟩ ∧ R (.ok (.ret (Value.ref l))) s) :=
  .of_wp fun prog w A R s h => by
    obtain ⟨hp, g, d, tk, os⟩ := s
    obtain ⟨hl, h⟩ := h
    have f1 := AutoSeq1.idx_int
    wp_walk using wpAny_loadPart' hl
    exact ⟨_, rfl, h⟩
section
variable {X : Cx}
theorem op_repOne {pins : List (Addr × Obj)} {s : Shared} {σ : L2.St} {H : Hp} {Q : VK} {l : Addr} {xs : List V} {t : Tok} (I : Inv X pins σ H s) (hT : SqT X.K H l xs) (ne : xs ≠ []) (q : Q (.ref l) H) :
    wpAny (model X.prog X.w) X.A (binaryOp .Mult (.ref l) (.int 1 t)) (EP X pins σ Q) X.xe s := by
  obtain ⟨its, r, ⟨⟨cls, dd, data, sl⟩, ho, hc, m, hd⟩, _⟩ := I.tuple hT
  simp only at hc hd
  subst hc hd
  have hi : its.toArray.isEmpty = false := by
    cases its with
    | nil => exact absurd (List.eq_nil_of_length_eq_zero r.length) ne
    | cons a b => rfl
  exact wpAny_binaryOp_repeat_ref (T := "tuple") (U := "int") (by decide) ⟨_, ho, rfl⟩ (fun s' => typeIs_int s' 1 t) noFill_tuple_mul F.fills_int_mul F.slot_int_rmul repeat_tuple F.slot_int_index.lookup
    (call_meets F.slot_int_rmul (typeIs_int s 1 t) F.entry_int_rmul (F.args_int_rmul_2 _ _) (int_rmul_tuple 1 t l its.toArray m dd sl)
      ⟨ho, rfl, ⟨_, ho, rfl⟩, call_meets F.slot_tuple_mul ⟨_, ho, rfl⟩ F.entry_tuple_mul (F.args_tuple_mul_2 _ _) (tupSame l its.toArray m dd sl t hi) ⟨ho, .ref l, H, I, rfl, q⟩⟩)
theorem Reps.times {K : KN} {H : Hp} {M : MS} {ds : List D} {vs : List V} (r : Reps K H M ds vs) : ∀ n : Nat, Reps K H M (List.replicate n ds).flatten (List.replicate n vs).flatten
  | 0 => .nil
  | n + 1 => by
    rw [List.replicate_succ, List.replicate_succ, List.flatten_cons, List.flatten_cons]
    exact r.append (Reps.times r n)
/-- a tuple times a number from 1 -/
def gMulT : F2 := fun x y M Q => match x, y with
  | .tup a, .int k => a ≠ [] ∧ 1 ≤ k ∧ k ≤ 1000 ∧ a.length ≤ 1000 ∧ Q (.tup (List.replicate k.toNat a).flatten) M
  | _, _ => False
theorem op_mulTD : OpD X (binaryOp .Mult) gMulT := by
  intro pins s σ H x y v u Q I rx ry ⟨N, M, d, e, Qd, o, r1, r2, g, k⟩
  cases d with
  | tup a =>
    cases e with
    | int j =>
      obtain ⟨g0, g1, g2, g3, g4⟩ := g
      cases r1 with | tup t1 q1 =>
      cases r2
      by_cases c : j = 1
      · subst c
        cases rx
        obtain ⟨t, rfl⟩ := ry
        rw [show (List.replicate (1 : Int).toNat a).flatten = a from by simp] at g4
        refine op_repOne I (TupAt.sq (K := ⟨X.K, N⟩) t1) (fun e => ?_) (k _ _ M H (Fr.refl _ _) o (.tup t1 q1) g4)
        subst e; cases q1; exact g0 rfl
      · refine op_repT pins s σ H _ _ v u Q I rx ry ⟨_, _, _, rfl, rfl, TupAt.sq (K := ⟨X.K, N⟩) t1, fun e => ?_, by omega, g2, by rw [← q1.length]; exact g3, fun p hp => KE.new k o hp g4 (Rep.tupNew o hp (q1.times j.toNat))⟩
        subst e; cases q1; exact g0 rfl
    | _ => exact g.elim
  | _ => exact g.elim
end
/-! ### sorted of a tuple -/
section
variable {prog : Program} {w : World} {A : Around} {E : Value → Shared → Prop} {s : Shared}
theorem collectTup {l : Addr} {xs : List Value} {Q : List Value → Shared → Prop} (hl : IsTup s.heap l xs.toArray) (hz : xs.length ≤ sizeLine)
    (h : Q xs { s with heap := (s.heap.push (seqObj "list" #[] 0)).update s.heap.objs.size (Obj.mapSeq (· ++ xs.toArray)) }) : wpAny (model prog w) A (collect (.ref l)) Q E s := by
  obtain ⟨ob, e1, e2, n, e3⟩ := hl
  unfold collect
  refine wpAny_bind (wpAny_runValue (codeAny_builtin entry_proto_collect' ?_))
  show wpAny _ _ (do again (.builtin "list.__iadd__" ⟨[← newList [], .ref l], []⟩)) _ _ s
  refine wpAny_bind (wpAny_newList (wpAny_pure ⟨Code.quiet_builtin _ (by decide +kernel), codeAny_builtin entry_list_iadd' ?_⟩))
  have w1 : (s.heap.push (seqObj "list" #[] 0)).get? l = some ob := Heap.get?_push_of_some _ e1
  have w2 : (s.heap.push (seqObj "list" #[] 0)).get? s.heap.objs.size = some (seqObj "list" #[] 0) := Heap.get?_push_size _ rfl
  have tt : (Builtin.List.listSameRef (Value.ref s.heap.objs.size) (Value.ref l) || (Value.type "tuple" == Value.type "list") || (Value.type "tuple" == Value.type "tuple")) = true := by
    rw [show (Value.type "tuple" == Value.type "tuple") = true from rfl, Bool.or_true]
  have lz : ¬ ((!(#[] : Array Value).isEmpty && Builtin.List.listTooLong ((#[] : Array Value).size + xs.toArray.size)) = true) := by simp
  have k1 := get?_update_seq w2 (· ++ xs.toArray)
  change wpAny (model prog w) _ (Builtin.List.listExtendWith (Value.ref s.heap.objs.size) (Value.ref l) (Value.ref s.heap.objs.size)) _ _ _
  unfold Builtin.List.listExtendWith
  refine wpAny_bind (wpAny_typeOf (T := "tuple") ⟨ob, w1, e2⟩ ?_)
  rw [if_pos tt]
  refine wpAny_bind (listItems_at w1 e3 (wpAny_bind (listItems_at w2 rfl ?_)))
  rw [if_neg lz]
  refine wpAny_bind (listUpdate_at w2 rfl (wpAny_pure ?_) (Nat.zero_le _) (by rw [Array.size_append]; show 0 + xs.toArray.size ≤ sizeLine + 1; rw [List.size_toArray]; omega))
  refine wpAny_bind (wpAny_load k1 ?_)
  have e4 : ((#[] : Array Value) ++ xs.toArray).toList = xs := by simp
  refine wpAny_pure ?_
  rw [e4]
  exact h
theorem sortTup {l : Addr} {vs : List Value} {Q : Value → Shared → Prop} (hl : IsTup s.heap l vs.toArray) (hL : vs.length ≤ sizeLine)
    (body : ∀ E' : Value → Shared → Prop, wpAny (model prog w) A.in1.in1 (Builtin.«list.sort» ⟨[.ref (s.heap.objs.size + 1)], []⟩) (fun f s' => f = .done (.ret .none) ∧ Q (.ref (s.heap.objs.size + 1)) s') E' { s with heap := PySem.W.copyHeap s.heap vs }) :
    wpAny (model prog w) A (call (.builtin "sorted") [.ref l]) Q E s := by
  refine call_function_entry_kw kind_sorted plain_sorted entry_sorted (args_sorted1 (.ref l)) ?_
  unfold Builtin.«sorted»
  have z1 : ((s.heap.push (seqObj "list" #[] 0)).update s.heap.objs.size (Obj.mapSeq (· ++ vs.toArray))).objs.size = s.heap.objs.size + 1 := (Heap.size_update ..).trans (size_push' ..)
  refine wpAny_bind (m := checkCount "sorted" 1 1 _) (wpAny_pure (wpAny_bind (collectTup hl hL (wpAny_bind (wpAny_newList ?_ hL)))))
  change wpAny _ _ _ _ _ (Shared.mk (PySem.W.copyHeap s.heap vs) _ _ _ _)
  rw [z1]
  refine wpAny_bind (wpAny_holding (wpAny_call_entry_kw slot_list_sort ⟨_, PySem.W.copyHeap_at s.heap vs, rfl⟩ entry_list_sort ?go (args_list_sort _)))
  exact wpAny_mono (body _) (fun f s' ⟨e, q⟩ => by subst e; exact ⟨_, rfl, wpAny_pure ⟨_, rfl, q⟩⟩) fun _ _ e => e
theorem sorted_dataT {β : Type} {R : Value → β → Prop} {enc : β → PyData} {bs : List β} {l : Addr} {vs : List Value} {Q : Value → Shared → Prop} (hl : IsTup s.heap l vs.toArray) (e : PySem.W.EachIs R vs bs) (er : PySem.W.EachIs (fun v b => ∃ as, Reads s.heap v (enc b) as) vs bs)
    (hal : PySem.W.AllAlike (bs.map enc)) (hk : PySem.W.Sortable (bs.map enc)) (hL : bs.length ≤ sizeLine) (hu : ∀ b, b ∈ bs → A.units + 2 + (enc b).depth < cLine)
    (h : ∀ out, out.length = bs.length → PySem.W.EachIs R out (bs.mergeSort (PySem.W.dataLe false enc)) → Q (.ref (s.heap.objs.size + 1)) { s with heap := sortedAll s.heap vs (List.toArray out) }) :
    wpAny (model prog w) A (call (.builtin "sorted") [.ref l]) Q E s := by
  have e2 := er.mono fun v b (⟨as, r⟩ : ∃ as, Reads s.heap v (enc b) as) => (⟨as, PyProof.Rows.Reads.keeps (fun b o => PySem.W.sorting_copy_old) r⟩ : ∃ as, Reads (PySem.W.sortingHeap (PySem.W.copyHeap s.heap vs) (s.heap.objs.size + 1) vs) v (enc b) as)
  have hv : vs.length ≤ sizeLine := by rw [e.length]; exact hL
  exact sortTup hl hv fun E' => PySem.W.list_sort_vals (s := { s with heap := PySem.W.copyHeap s.heap vs }) (PySem.W.copyHeap_at s.heap vs)
    (PySem.W.SortsAt.data (s := Shared.mk (PySem.W.sortingHeap (PySem.W.copyHeap s.heap vs) (s.heap.objs.size + 1) vs) s.gens s.drawn s.toks s.os) (PySem.W.each_map (R := fun v d => ∃ as, Reads (PySem.W.sortingHeap (PySem.W.copyHeap s.heap vs) (s.heap.objs.size + 1) vs) v d as) enc e2) hal hk (PySem.W.bound_map hu)) hv
    ⟨rfl, h _ ((PySem.W.sortVals_length false rfl).trans e.length) (PySem.W.sortVals_data false e e2 hal)⟩
end
/-- sorted of a tuple of alike data -/
def gSortedTD (fin : Fin) : GB := fun ds M Q => ∃ xs ps, ds = [.tup xs] ∧ toPs xs = some ps ∧ PySem.W.AllAlike ps ∧ PySem.W.Sortable ps ∧ PyData.depthAll ps ≤ 40 ∧ xs.length ≤ sizeLine ∧
  ∀ ys : List D, ys.Perm xs → ys.Pairwise (fun a b => ∀ p q, toP a = some p → toP b = some q → PySem.W.dataLt q p = false) → fin ys M Q
theorem c_sortedTD {X : Cx} {fin : Fin} (hf : FinOk fin) (hu : X.A.units + 64 < cLine) : CallD X (.builtin "sorted") (gSortedTD fin) := by
  intro pins s σ H vs us Q I r ⟨N, M, ds, Qd, o, rs, ⟨xs, ps, e, h2, h3, h4, h5, h6, q⟩, k⟩
  subst e
  cases rs with | cons r1 rs =>
  cases rs
  cases r1 with | @tup _ a ws e2 e3 =>
  obtain ⟨its, rv, hl, _⟩ := I.tuple (TupAt.sq (K := ⟨X.K, N⟩) e2)
  rw [Vals.ref1 r]
  have hlen : xs.length = ws.length := e3.length
  obtain ⟨z1, z2⟩ := zip_maps hlen
  have rz := reps_zip e3
  have ep : (xs.zip ws).map encD = ps := by
    have : (xs.zip ws).map encD = ((xs.zip ws).map (·.1)).map fun d => (toP d).getD .none := by rw [List.map_map]; rfl
    rw [this, z1]; exact toPs_map h2
  obtain ⟨as, hra⟩ := Dp.readsAll I ps ws its (e3.dp h2) rv
  have hL : (xs.zip ws).length ≤ sizeLine := by rw [← List.length_map (f := (·.1)), z1]; exact h6
  refine sorted_dataT (R := fun u (b : D × V) => RelV b.2 u) (bs := xs.zip ws) (enc := encD) hl (each_zip hlen rv) (PySem.W.readsAll_each encD (by rw [ep]; exact hra)) (by rw [ep]; exact h3) (by rw [ep]; exact h4) hL (fun b hb => ?_) fun out ho heach => ?_
  · have : encD b ∈ ps := by rw [← ep]; exact List.mem_map.mpr ⟨b, hb, rfl⟩
    have := depth_mem this
    omega
  · obtain ⟨ea, he'⟩ := PyProof.Rows.sortedAll_at s.heap its out.toArray
    have hpm := List.mergeSort_perm (xs.zip ws) (PySem.W.dataLe false encD)
    generalize hbs : (xs.zip ws).mergeSort (PySem.W.dataLe false encD) = bs' at heach hpm
    have hpw : bs'.Pairwise fun a b => PySem.W.dataLe false encD a b = true := by
      rw [← hbs]
      refine List.pairwise_mergeSort (fun a b c hab hbc => ?_) (fun a b => ?_) _
      · rw [PySem.W.dataLe_eq] at *
        simp only [cond_false, Bool.not_eq_true'] at *
        exact dlt_neg hab hbc
      · rw [PySem.W.dataLe_eq]
        simp only [cond_false]
        cases h : PySem.W.dataLt (encD b) (encD a) with
        | false => rfl
        | true => rw [dlt_asym h]; rfl
    have rb : ∀ b ∈ bs', Rep ⟨X.K, N⟩ H M b.1 b.2 := fun b hb => rz b (hpm.mem_iff.mp hb)
    have hn : H (s.heap.objs.size + 1) = none := I.hok.fresh (Nat.le_succ _)
    have hle : (bs'.map (·.2)).length ≤ sizeLine := by rw [List.length_map, hpm.length_eq]; exact hL
    refine ⟨.ref _, upd H (s.heap.objs.size + 1) (.lst (bs'.map (·.2))), I.laid (t' := s.toks) (fun _ _ => PyProof.Rows.sortedAll_old) (Nat.le_succ _) ⟨hle, out.toArray.toList, ea, vals_each heach, he'⟩, rfl, fin_new hf o hn (reps_of rb) (q (bs'.map (·.1)) ?_ ?_) k⟩
    · have := hpm.map (·.1); rwa [z1] at this
    · rw [List.pairwise_map]
      refine hpw.imp fun {a b} hab p q hp hq => ?_
      rw [PySem.W.dataLe_eq] at hab
      simp only [cond_false, Bool.not_eq_true'] at hab
      unfold encD at hab
      rw [hp, hq] at hab
      exact hab
/-! ### a dict of a list of pairs -/
def kD : Key → D
  | .inl i => .int i
  | .inr x => .str x
theorem putK_fresh {k : Key} {v : V} {acc : List (Key × V)} (h : ∀ a ∈ acc, a.1 ≠ k) : L2.putK acc k v = acc ++ [(k, v)] := by
  unfold L2.putK
  rw [if_neg]
  intro c
  obtain ⟨a, ha, e⟩ := List.any_eq_true.mp c
  exact h a ha (of_decide_eq_true e)
theorem mergeK_fresh : ∀ {kvs acc : List (Key × V)}, (acc ++ kvs).Pairwise (fun a b => a.1 ≠ b.1) → L2.mergeK acc kvs = acc ++ kvs
  | [], acc, _ => by rw [List.append_nil]; rfl
  | kv :: kvs, acc, h => by
    have e : L2.putK acc kv.1 kv.2 = acc ++ [kv] := putK_fresh fun a ha => (List.pairwise_append.mp h).2.2 a ha kv List.mem_cons_self
    have h' : ((acc ++ [kv]) ++ kvs).Pairwise (fun a b => a.1 ≠ b.1) := by rw [List.append_assoc]; exact h
    show L2.mergeK (L2.putK acc kv.1 kv.2) kvs = acc ++ kv :: kvs
    rw [e, mergeK_fresh h', List.append_assoc]; rfl
theorem pairs_reps {K : KN} {H : Hp} {M : MS} : ∀ {kds : List (Key × D)} {ws : List V}, Reps K H M (kds.map fun kd => .tup [kD kd.1, kd.2]) ws →
    ∃ (ps : List Addr) (kvs : List (Key × V)), ws = ps.map V.ref ∧ Paired (fun p kv => SqT K.K H p [kV kv.1, kv.2]) ps kvs ∧ kvs.map (·.1) = kds.map (·.1) ∧ Reps K H M (kds.map (·.2)) (kvs.map (·.2))
  | [], _, .nil => ⟨[], [], rfl, .nil, rfl, .nil⟩
  | kd :: kds, _, .cons r t => by
    obtain ⟨ps, kvs, e1, e2, e3, e4⟩ := pairs_reps t
    cases r with | @tup _ a vs t1 q1 =>
    cases q1 with | cons r1 q2 =>
    cases q2 with | cons r2 q3 =>
    cases q3
    rename_i v1 v2
    have ek : v1 = kV kd.1 := by
      cases hk : kd.1 with
      | inl i => rw [hk] at r1; cases r1; rfl
      | inr x => rw [hk] at r1; cases r1; rfl
    subst ek
    refine ⟨a :: ps, (kd.1, v2) :: kvs, by rw [e1]; rfl, .cons (TupAt.sq (K := K) t1) e2, by simp [e3], .cons r2 e4⟩
/-- a dict of a list of pairs whose keys are unlike -/
def gDictP : GB := fun ds M Q => ∃ d xs, ∃ kds : List (Key × D), ds = [d] ∧ asL M d = some xs ∧ xs = kds.map (fun kd => .tup [kD kd.1, kd.2]) ∧ (kds.map (·.1)).Nodup ∧ Q (.dk (kds.map (·.1)) (kds.map (·.2))) M
theorem c_dictP {X : Cx} (hc : X.calm = true) : CallD X (.type "dict") gDictP := by
  intro pins s σ H vs us Q I r ⟨N, M, ds, Qd, o, rs, ⟨d, xs, kds, e, h1, h2, h3, q⟩, k⟩
  subst e
  cases rs with | cons r1 rs =>
  cases rs
  obtain ⟨a, ws, e1, e2, e3⟩ := r1.asL o h1
  subst e1 h2
  obtain ⟨ps, kvs, w1, w2, w3, w4⟩ := pairs_reps e3
  subst w1
  have pw : kvs.Pairwise (fun a b => a.1 ≠ b.1) := by
    have : (kvs.map (·.1)).Nodup := by rw [w3]; exact h3
    exact List.pairwise_map.mp this
  have em : L2.mergeK [] kvs = kvs := by rw [mergeK_fresh (by simpa using pw)]; rfl
  refine L2.call_dictP hc pins s σ H _ us Q I r ⟨a, ps, kvs, rfl, .inl (.inl e2), w2, fun p hp => ?_⟩
  rw [em]
  have hz : (kds.map (·.1)).zip (kvs.map (·.2)) = kvs := by
    rw [← w3]
    clear em pw w2 w4 w3 e3 r
    induction kvs with
    | nil => rfl
    | cons a l ih => rw [List.map_cons, List.map_cons, List.zip_cons_cons, ih]
  have hn : M p = none := o.no hp
  exact KE.new k o hp q (.dk (vs := kvs.map (·.2)) (by rw [hz]; exact upd_same) hn (by rw [← w3, List.length_map, List.length_map]) (w4.mono (Fr.new hp)))
end DL

set_option Elab.async false
set_option maxRecDepth 100000
set_option maxHeartbeats 4000000
namespace LW
open PySem PySem.Spec L2 DL
open PyProof.Rows (envOfC)
/-! _law_take -/
def T__law_take (G : GEnv) : TSD :=
  (dSeq (dIf (dTest (dBin gGt (dBin gIx (dVar 0) (dC (.int 0))) (dC (.int 0)))) (dSeq (dAsg (dBin gMod (dB gInt (dCons (dBin gIx (dVar 0) (dC (.int 0))) dNil)) (dVar 1)) (.name 2))
    (dSeq (dStore (dBin gFdiv (dBin gIx (dVar 0) (dC (.int 0))) (dVar 1)) (dVar 0) (dC (.int 0)))
    (dRet (dVar 2)))) dNext)
    (dSeq (dStore (dBin gMod (dB gInt (dCons (dBin gAdd (dBin gMul (dBin gIx (dVar 0) (dC (.int 1))) (dC (.int 39373))) (dC (.int 7))) dNil)) (dC (.int 2147483647))) (dVar 0) (dC (.int 1)))
    (dRet (dBin gMod (dB gInt (dCons (dBin gFdiv (dBin gMod (dB gInt (dCons (dBin gMul (dBin gIx (dVar 0) (dC (.int 1))) (dBin gIx (dVar 0) (dC (.int 1)))) dNil)) (dC (.int 2147483629))) (dC (.int 32))) dNil)) (dVar 1)))))
def sp__law_take (G : GEnv) : SpD := fun ds M Q R => ds.length = 2 ∧ T__law_take G (retD Q R) (startD 3 ds) M
/-! _law_one -/
def T__law_one (G : GEnv) : TSD :=
  (dRet (dBin gIx (dVar 1) (dCall (sp__law_take G) (dCons (dVar 0) (dCons (dB gLen (dCons (dVar 1) dNil)) dNil)))))
def sp__law_one (G : GEnv) : SpD := fun ds M Q R => ds.length = 2 ∧ T__law_one G (retD Q R) (startD 2 ds) M
/-! _law_tree_roads -/
def T__law_tree_roads (G : GEnv) : TSD :=
  (dSeq (dAsg (dLstM dNil) (.name 3))
    (dSeq (dFor (iRange2 (dCons (dC (.int 1)) (dCons (dVar 1) dNil))) (.name 4) (dDrop (dM isLst gAppend (dVar 3) (dCons (dTup (dCons (dCall (sp__law_take G) (dCons (dVar 0) (dCons (dVar 4) dNil))) (dCons (dVar 4) (dCons (dCall (sp__law_one G) (dCons (dVar 0) (dCons (dVar 2) dNil))) dNil)))) dNil))))
    (dRet (dB gTuple (dCons (dB (gSortedT 3 4294967296 finF) (dCons (dVar 3) dNil)) dNil)))))
def sp__law_tree_roads (G : GEnv) : SpD := fun ds M Q R => ds.length = 3 ∧ T__law_tree_roads G (retD Q R) (startD 5 ds) M
/-! _law_web -/
def T__law_web (G : GEnv) : TSD :=
  (dSeq (dAsg (dCall (sp__law_one G) (dCons (dVar 0) (dCons (dVar 1) dNil))) (.name 3))
    (dSeq (dAsg (dB (gList finM) (dCons (dCall (sp__law_tree_roads G) (dCons (dVar 0) (dCons (dVar 3) (dCons (dVar 2) dNil)))) dNil)) (.name 4))
    (dSeq (dIf (dAndT (dTest (dBin gGt (dVar 3) (dC (.int 2)))) (dTest (dBin gEq (dCall (sp__law_take G) (dCons (dVar 0) (dCons (dC (.int 3)) dNil))) (dC (.int 0))))) (dSeq (dAsg (dTup (dCons (dLstM dNil) (dCons (dComp finF (iSeq (dVar 4)) [7] (.name 7) dYes (dSlice (dVar 7) dNoPart (dPart (dC (.int 2))))) dNil))) (.tup [(.name 5), (.name 6)]))
    (dSeq (dFor (iRange1 (dCons (dVar 3) dNil)) (.name 8) (dDrop (dM isLst gExtend (dVar 5) (dCons (dComp finF (iRange1 (dCons (dVar 8) dNil)) [9] (.name 9) (dTest (dBin (gIn true) (dTup (dCons (dVar 9) (dCons (dVar 8) dNil))) (dVar 6))) (dTup (dCons (dVar 9) (dCons (dVar 8) dNil)))) dNil))))
    (dDrop (dM isLst gAppend (dVar 4) (dCons (dBin gAdd (dCall (sp__law_one G) (dCons (dVar 0) (dCons (dVar 5) dNil))) (dTup (dCons (dCall (sp__law_one G) (dCons (dVar 0) (dCons (dVar 2) dNil))) dNil))) dNil))))) dNext)
    (dRet (dTup (dCons (dVar 3) (dCons (dB gTuple (dCons (dB (gSortedT 3 4294967296 finF) (dCons (dVar 4) dNil)) dNil)) dNil)))))))
def sp__law_web (G : GEnv) : SpD := fun ds M Q R => ds.length = 3 ∧ T__law_web G (retD Q R) (startD 10 ds) M
/-! _law_land -/
def T__law_land (G : GEnv) : TSD :=
  (dSeq (dAsg (dCall (sp__law_one G) (dCons (dVar 0) (dCons (dVar 1) dNil))) (.name 3))
    (dSeq (dAsg (dCall (sp__law_tree_roads G) (dCons (dVar 0) (dCons (dVar 3) (dCons (dVar 2) dNil)))) (.name 4))
    (dRet (dTup (dCons (dVar 4) (dCons (dB gTuple (dCons (dComp finF (iRange1 (dCons (dVar 3) dNil)) [5] (.name 5) dYes (dCall (sp__law_web G) (dCons (dVar 0) (dCons (dLst (dCons (dC (.int 2)) (dCons (dC (.int 1)) (dCons (dC (.int 2)) (dCons (dC (.int 3)) dNil))))) (dCons (dVar 2) dNil))))) dNil)) dNil))))))
def sp__law_land (G : GEnv) : SpD := fun ds M Q R => ds.length = 3 ∧ T__law_land G (retD Q R) (startD 6 ds) M
/-! _law_states_many -/
def T__law_states_many (G : GEnv) : TSD :=
  (dSeq (dAsg (dB gLen (dCons (dBin gIx (dVar 0) (dC (.int 1))) dNil)) (.name 1))
    (dSeq (dFor (iSeq (dBin gIx (dVar 0) (dC (.int 1)))) (.tup [(.name 2), (.name 3)]) (dAsg (dBin gMul (dVar 1) (dVar 2)) (.name 1)))
    (dRet (dVar 1))))
def sp__law_states_many (G : GEnv) : SpD := fun ds M Q R => ds.length = 1 ∧ T__law_states_many G (retD Q R) (startD 4 ds) M
/-! _law_small -/
def T__law_small (G : GEnv) : TSD :=
  (dSeq (dFor (iRange1 (dCons (dC (.int 8)) dNil)) (.name 2) (dSeq (dAsg (dCall (sp__law_land G) (dCons (dVar 0) (dCons (dLst (dCons (dC (.int 2)) (dCons (dC (.int 3)) (dCons (dC (.int 4)) (dCons (dC (.int 1)) (dCons (dC (.int 3)) (dCons (dC (.int 2)) (dCons (dC (.int 3)) dNil)))))))) (dCons (dLst (dCons (dC (.int 1)) (dCons (dC (.int 1)) (dCons (dC (.int 2)) (dCons (dC (.int 3)) (dCons (dCall (sp__law_one G) (dCons (dVar 0) (dCons (dLst (dCons (dC (.int 1)) (dCons (dC (.int 7)) (dCons (dC (.int 100)) dNil)))) dNil))) dNil)))))) dNil)))) (.name 3))
    (dIf (dTest (dBin gLe (dCall (sp__law_states_many G) (dCons (dVar 3) dNil)) (dVar 1))) (dRet (dVar 3)) dNext)))
    (dRet (dTup (dCons (dTup (dCons (dTup (dCons (dC (.int 0)) (dCons (dC (.int 1)) (dCons (dC (.int 2)) dNil)))) (dCons (dTup (dCons (dC (.int 1)) (dCons (dC (.int 2)) (dCons (dC (.int 1)) dNil)))) dNil))) (dCons (dTup (dCons (dTup (dCons (dC (.int 2)) (dCons (dTup (dCons (dTup (dCons (dC (.int 0)) (dCons (dC (.int 1)) (dCons (dC (.int 1)) dNil)))) dNil)) dNil))) (dCons (dTup (dCons (dC (.int 1)) (dCons (dTup dNil) dNil))) (dCons (dTup (dCons (dC (.int 2)) (dCons (dTup (dCons (dTup (dCons (dC (.int 0)) (dCons (dC (.int 1)) (dCons (dC (.int 3)) dNil)))) dNil)) dNil))) dNil)))) dNil)))))
def sp__law_small (G : GEnv) : SpD := fun ds M Q R => ds.length = 2 ∧ T__law_small G (retD Q R) (startD 4 ds) M
/-! _law_row -/
def T__law_row (G : GEnv) : TSD :=
  (dRet (dB gTuple (dCons (dComp finF (iSeq (dVar 1)) [2, 3] (.tup [(.name 2), (.name 3)]) dYes (dCall (sp__law_take G) (dCons (dVar 0) (dCons (dVar 2) dNil)))) dNil)))
def sp__law_row (G : GEnv) : SpD := fun ds M Q R => ds.length = 2 ∧ T__law_row G (retD Q R) (startD 4 ds) M
/-! _law_state -/
def T__law_state (G : GEnv) : TSD :=
  (dRet (dTup (dCons (dCall (sp__law_take G) (dCons (dVar 0) (dCons (dB gLen (dCons (dVar 1) dNil)) dNil))) (dCons (dCall (sp__law_row G) (dCons (dVar 0) (dCons (dVar 1) dNil))) dNil))))
def sp__law_state (G : GEnv) : SpD := fun ds M Q R => ds.length = 2 ∧ T__law_state G (retD Q R) (startD 2 ds) M
/-! is_number -/
def T_is_number (G : GEnv) : TSD :=
  (dRet (dAndE (dB (gIsi G.kit G.isCls) (dCons (dVar 0) (dCons (dC (.ty "int")) dNil))) (dNotE (dB (gIsi G.kit G.isCls) (dCons (dVar 0) (dCons (dC (.ty "bool")) dNil))))))
def sp_is_number (G : GEnv) : SpD := fun ds M Q R => ds.length = 1 ∧ T_is_number G (retD Q R) (startD 1 ds) M
/-! _is_road -/
def T__is_road (G : GEnv) : TSD :=
  (dSeq (dIf (dOrT (dNotT (dTru (dB (gIsi G.kit G.isCls) (dCons (dVar 1) (dCons (dC (.ty "tuple")) dNil))))) (dTest (dBin gNe (dB gLen (dCons (dVar 1) dNil)) (dC (.int 3))))) (dRet (dC (.bl false))) dNext)
    (dSeq (dIf (dNotT (dTru (dB gAll (dCons (dComp finF (iSeq (dVar 1)) [2] (.name 2) dYes (dCall (sp_is_number G) (dCons (dVar 2) dNil))) dNil)))) (dRet (dC (.bl false))) dNext)
    (dRet (dChain3 gLe gLt gLt (dC (.int 0)) (dBin gIx (dVar 1) (dC (.int 0))) (dBin gIx (dVar 1) (dC (.int 1))) (dVar 0)))))
def sp__is_road (G : GEnv) : SpD := fun ds M Q R => ds.length = 2 ∧ T__is_road G (retD Q R) (startD 3 ds) M
/-! is_length -/
def T_is_length (G : GEnv) : TSD :=
  (dRet (dChain gLe gLe (dC (.int 1)) (dVar 0) (dC (.int 100))))
def sp_is_length (G : GEnv) : SpD := fun ds M Q R => ds.length = 1 ∧ T_is_length G (retD Q R) (startD 1 ds) M
/-! check_roads -/
def T_check_roads (G : GEnv) : TSD :=
  (dSeq (dFor (iEnum (dCons (dVar 1) dNil)) (.tup [(.name 2), (.name 3)]) (dSeq (dIf (dNotT (dTru (dCall (sp__is_road G) (dCons (dVar 0) (dCons (dVar 3) dNil))))) (dRaise (G.cls 2) (dVar 2)) dNext)
    (dIf (dAndT (dTest (dBin gGt (dVar 2) (dC (.int 0)))) (dTest (dBin gLe (dSlice (dVar 3) dNoPart (dPart (dC (.int 2)))) (dSlice (dBin gIx (dVar 1) (dBin gSub (dVar 2) (dC (.int 1)))) dNoPart (dPart (dC (.int 2))))))) (dRaise (G.cls 2) (dVar 2)) dNext)))
    (dFor (iEnum (dCons (dVar 1) dNil)) (.tup [(.name 2), (.name 3)]) (dIf (dNotT (dTru (dCall (sp_is_length G) (dCons (dBin gIx (dVar 3) (dC (.int 2))) dNil)))) (dRaise (G.cls 4) (dVar 2)) dNext)))
def sp_check_roads (G : GEnv) : SpD := fun ds M Q R => ds.length = 2 ∧ T_check_roads G (retD Q R) (startD 4 ds) M
/-! tied -/
def T_tied (G : GEnv) : TSD :=
  (dSeq (dAsg (dComp finF (iSeq (dVar 0)) [3, 4, 5] (.tup [(.name 3), (.name 4), (.name 5)]) (dTest (dBin gEq (dVar 4) (dVar 1))) (dTup (dCons (dVar 3) (dCons (dVar 5) dNil)))) (.name 2))
    (dSeq (dAsg (dComp finF (iSeq (dVar 0)) [3, 4, 5] (.tup [(.name 3), (.name 4), (.name 5)]) (dTest (dBin gEq (dVar 3) (dVar 1))) (dTup (dCons (dVar 4) (dCons (dVar 5) dNil)))) (.name 6))
    (dRet (dB gTuple (dCons (dBin gAdd (dVar 2) (dVar 6)) dNil)))))
def sp_tied (G : GEnv) : SpD := fun ds M Q R => ds.length = 2 ∧ T_tied G (retD Q R) (startD 7 ds) M
/-! lengths_from -/
def T_lengths_from (G : GEnv) : TSD :=
  (dSeq (dAsg (dDictK0) (.name 2))
    (dSeq (dAsg (dLstM (dCons (dTup (dCons (dC (.int 0)) (dCons (dVar 1) dNil))) dNil)) (.name 3))
    (dSeq (dWhile (dTest (dBin gGt (dB gLen (dCons (dVar 3) dNil)) (dC (.int 0)))) (dSeq (dAsg (dB gHeappop (dCons (dVar 3) dNil)) (.tup [(.name 4), (.name 5)]))
    (dIf (dTest (dBin (gIn true) (dVar 5) (dVar 2))) (dSeq (dStore (dVar 4) (dVar 2) (dVar 5))
    (dFor (iSeq (dCall (sp_tied G) (dCons (dVar 0) (dCons (dVar 5) dNil)))) (.tup [(.name 6), (.name 7)]) (dDrop (dB gHeappush (dCons (dVar 3) (dCons (dTup (dCons (dBin gAdd (dVar 4) (dVar 7)) (dCons (dVar 6) dNil))) dNil)))))) dNext)))
    (dRet (dVar 2)))))
def sp_lengths_from (G : GEnv) : SpD := fun ds M Q R => ds.length = 2 ∧ T_lengths_from G (retD Q R) (startD 8 ds) M
/-! check_together -/
def T_check_together (G : GEnv) : TSD :=
  (dSeq (dAsg (dCall (sp_lengths_from G) (dCons (dVar 1) (dCons (dC (.int 0)) dNil))) (.name 2))
    (dFor (iRange1 (dCons (dVar 0) dNil)) (.name 3) (dIf (dTest (dBin (gIn true) (dVar 3) (dVar 2))) (dRaise (G.cls 3) (dVar 3)) dNext)))
def sp_check_together (G : GEnv) : SpD := fun ds M Q R => ds.length = 2 ∧ T_check_together G (retD Q R) (startD 4 ds) M
/-! _check_lamps -/
def T__check_lamps (G : GEnv) : TSD :=
  (dSeq (dIf (dTest (dBin gNe (dB gLen (dCons (dVar 1) dNil)) (dVar 0))) (dRaise (G.cls 5) (dB gLen (dCons (dVar 1) dNil))) dNext)
    (dFor (iEnum (dCons (dVar 1) dNil)) (.tup [(.name 2), (.name 3)]) (dIf (dNotT (dTru (dB (gIsi G.kit G.isCls) (dCons (dVar 3) (dCons (dC (.ref (G.cls 22))) dNil))))) (dRaise (G.cls 5) (dTup (dCons (dVar 2) dNil))) dNext)))
def sp__check_lamps (G : GEnv) : SpD := fun ds M Q R => ds.length = 2 ∧ T__check_lamps G (retD Q R) (startD 4 ds) M
/-! Land.__init__ -/
def T_Land_init (G : GEnv) : TSD :=
  (dSeq (dSetF G.isCls "many" (dVar 0) (dVar 1))
    (dSeq (dSetF G.isCls "roads" (dVar 0) (dVar 2))
    (dSetF G.isCls "lamps" (dVar 0) (dVar 3))))
def sp_Land_init (G : GEnv) : SpD := fun ds M Q R => ds.length = 4 ∧ T_Land_init G (retD Q R) (startD 4 ds) M
/-! made_land -/
def T_made_land (G : GEnv) : TSD :=
  (dSeq (dIf (dNotT (dTest (dChain gLe gLe (dC (.int 1)) (dVar 0) (dC (.int 10))))) (dRaise (G.cls 1) (dVar 0)) dNext)
    (dSeq (dDrop (dCall (sp_check_roads G) (dCons (dVar 0) (dCons (dVar 1) dNil))))
    (dSeq (dIf (dTest (dBin gGt (dB gLen (dCons (dVar 1) dNil)) (dVar 0))) (dRaise (G.cls 1) (dB gLen (dCons (dVar 1) dNil))) dNext)
    (dSeq (dDrop (dCall (sp_check_together G) (dCons (dVar 0) (dCons (dVar 1) dNil))))
    (dSeq (dDrop (dCall (sp__check_lamps G) (dCons (dVar 0) (dCons (dVar 2) dNil))))
    (dRet (dMake (G.cls 23) (sp_Land_init G) (dCons (dVar 0) (dCons (dVar 1) (dCons (dVar 2) dNil))))))))))
def sp_made_land (G : GEnv) : SpD := fun ds M Q R => ds.length = 3 ∧ T_made_land G (retD Q R) (startD 3 ds) M
/-! check_size -/
def T_check_size (G : GEnv) : TSD :=
  (dIf (dNotT (dTest (dChain gLe gLe (dVar 1) (dVar 0) (dC (.int 6))))) (dRaise (G.cls 1) (dVar 0)) dNext)
def sp_check_size (G : GEnv) : SpD := fun ds M Q R => ds.length = 2 ∧ T_check_size G (retD Q R) (startD 2 ds) M
/-! Web.__init__ -/
def T_Web_init (G : GEnv) : TSD :=
  (dSeq (dSetF G.isCls "many" (dVar 0) (dVar 1))
    (dSetF G.isCls "roads" (dVar 0) (dVar 2)))
def sp_Web_init (G : GEnv) : SpD := fun ds M Q R => ds.length = 3 ∧ T_Web_init G (retD Q R) (startD 3 ds) M
/-! made_web -/
def T_made_web (G : GEnv) : TSD :=
  (dSeq (dDrop (dCall (sp_check_size G) (dCons (dVar 0) (dCons (dC (.int 1)) dNil))))
    (dSeq (dDrop (dCall (sp_check_roads G) (dCons (dVar 0) (dCons (dVar 1) dNil))))
    (dSeq (dDrop (dCall (sp_check_together G) (dCons (dVar 0) (dCons (dVar 1) dNil))))
    (dRet (dMake (G.cls 22) (sp_Web_init G) (dCons (dVar 0) (dCons (dVar 1) dNil)))))))
def sp_made_web (G : GEnv) : SpD := fun ds M Q R => ds.length = 2 ∧ T_made_web G (retD Q R) (startD 2 ds) M
/-! _law_made -/
def T__law_made (G : GEnv) : TSD :=
  (dSeq (dAsg (dVar 0) (.tup [(.name 1), (.name 2)]))
    (dRet (dCall (sp_made_land G) (dCons (dB gLen (dCons (dVar 2) dNil)) (dCons (dVar 1) (dCons (dB gTuple (dCons (dComp finF (iSeq (dVar 2)) [3, 4] (.tup [(.name 3), (.name 4)]) dYes (dCall (sp_made_web G) (dCons (dVar 3) (dCons (dVar 4) dNil)))) dNil)) dNil))))))
def sp__law_made (G : GEnv) : SpD := fun ds M Q R => ds.length = 1 ∧ T__law_made G (retD Q R) (startD 5 ds) M
/-! is_tree -/
def T_is_tree (G : GEnv) : TSD :=
  (dRet (dBin gEq (dB gLen (dCons (dFld G.isCls "roads" (dVar 0)) dNil)) (dBin gSub (dFld G.isCls "many" (dVar 0)) (dC (.int 1)))))
def sp_is_tree (G : GEnv) : SpD := fun ds M Q R => ds.length = 1 ∧ T_is_tree G (retD Q R) (startD 1 ds) M
/-! check_tree -/
def T_check_tree (G : GEnv) : TSD :=
  (dIf (dNotT (dTru (dCall (sp_is_tree G) (dCons (dVar 0) dNil)))) (dRaise (G.cls 14) (dC (.int 0))) dNext)
def sp_check_tree (G : GEnv) : SpD := fun ds M Q R => ds.length = 1 ∧ T_check_tree G (retD Q R) (startD 1 ds) M
/-! check_place -/
def T_check_place (G : GEnv) : TSD :=
  (dIf (dNotT (dTest (dChain gLe gLt (dC (.int 0)) (dVar 1) (dVar 0)))) (dRaise (G.cls 6) (dVar 1)) dNext)
def sp_check_place (G : GEnv) : SpD := fun ds M Q R => ds.length = 2 ∧ T_check_place G (retD Q R) (startD 2 ds) M
/-! check_row -/
def T_check_row (G : GEnv) : TSD :=
  (dSeq (dIf (dTest (dBin gNe (dB gLen (dCons (dVar 1) dNil)) (dFld G.isCls "many" (dVar 0)))) (dRaise (G.cls 7) (dB gLen (dCons (dVar 1) dNil))) dNext)
    (dFor (iEnum (dCons (dVar 1) dNil)) (.tup [(.name 2), (.name 3)]) (dIf (dNotT (dTest (dChain gLe gLt (dC (.int 0)) (dVar 3) (dFld G.isCls "many" (dBin gIx (dFld G.isCls "lamps" (dVar 0)) (dVar 2)))))) (dRaise (G.cls 7) (dTup (dCons (dVar 2) dNil))) dNext)))
def sp_check_row (G : GEnv) : SpD := fun ds M Q R => ds.length = 2 ∧ T_check_row G (retD Q R) (startD 4 ds) M
/-! check_state -/
def T_check_state (G : GEnv) : TSD :=
  (dSeq (dAsg (dVar 1) (.tup [(.name 2), (.name 3)]))
    (dSeq (dDrop (dCall (sp_check_place G) (dCons (dFld G.isCls "many" (dVar 0)) (dCons (dVar 2) dNil))))
    (dDrop (dCall (sp_check_row G) (dCons (dVar 0) (dCons (dVar 3) dNil))))))
def sp_check_state (G : GEnv) : SpD := fun ds M Q R => ds.length = 2 ∧ T_check_state G (retD Q R) (startD 4 ds) M
/-! check_road -/
def T_check_road (G : GEnv) : TSD :=
  (dIf (dNotT (dTest (dChain gLe gLt (dC (.int 0)) (dVar 1) (dB gLen (dCons (dFld G.isCls "roads" (dVar 0)) dNil))))) (dRaise (G.cls 2) (dVar 1)) dNext)
def sp_check_road (G : GEnv) : SpD := fun ds M Q R => ds.length = 2 ∧ T_check_road G (retD Q R) (startD 2 ds) M
/-! share -/
def T_share (G : GEnv) : TSD :=
  (dSeq (dIf (dTest (dBin gEq (dVar 1) (dC (.int 0)))) (dRaise (G.cls 9) (dVar 1)) dNext)
    (dSeq (dAsg (dB gGcd (dCons (dVar 0) (dCons (dVar 1) dNil))) (.name 2))
    (dSeq (dIf (dTest (dBin gLt (dVar 1) (dC (.int 0)))) (dAsg (dNeg (dVar 2)) (.name 2)) dNext)
    (dRet (dTup (dCons (dBin gFdiv (dVar 0) (dVar 2)) (dCons (dBin gFdiv (dVar 1) (dVar 2)) dNil)))))))
def sp_share (G : GEnv) : SpD := fun ds M Q R => ds.length = 2 ∧ T_share G (retD Q R) (startD 3 ds) M
/-! _shares -/
def T__shares (G : GEnv) : TSD :=
  (dRet (dB gTuple (dCons (dComp finF (iEnum (dCons (dVar 0) dNil)) [1, 2] (.tup [(.name 1), (.name 2)]) (dTest (dBin gNe (dVar 2) (dC (.int 0)))) (dTup (dCons (dVar 1) (dCons (dCall (sp_share G) (dCons (dVar 2) (dCons (dB gSumQ (dCons (dVar 0) dNil)) dNil))) dNil)))) dNil)))
def sp__shares (G : GEnv) : SpD := fun ds M Q R => ds.length = 1 ∧ T__shares G (retD Q R) (startD 3 ds) M
/-! parted -/
def T_parted (G : GEnv) : TSD :=
  (dSeq (dAsg (dCall (sp_lengths_from G) (dCons (dBin gAdd (dSlice (dFld G.isCls "roads" (dVar 0)) dNoPart (dPart (dVar 1))) (dSlice (dFld G.isCls "roads" (dVar 0)) (dPart (dBin gAdd (dVar 1) (dC (.int 1)))) dNoPart)) (dCons (dVar 2) dNil))) (.name 3))
    (dRet (dB gTuple (dCons (dComp finF (iRange1 (dCons (dFld G.isCls "many" (dVar 0)) dNil)) [4] (.name 4) (dTest (dBin (gIn true) (dVar 4) (dVar 3))) (dVar 4)) dNil))))
def sp_parted (G : GEnv) : SpD := fun ds M Q R => ds.length = 3 ∧ T_parted G (retD Q R) (startD 5 ds) M
/-! rows_many -/
def T_rows_many (G : GEnv) : TSD :=
  (dSeq (dAsg (dC (.int 1)) (.name 2))
    (dSeq (dFor (iSeq (dVar 1)) (.name 3) (dAsg (dBin gMul (dVar 2) (dFld G.isCls "many" (dBin gIx (dFld G.isCls "lamps" (dVar 0)) (dVar 3)))) (.name 2)))
    (dRet (dVar 2))))
def sp_rows_many (G : GEnv) : SpD := fun ds M Q R => ds.length = 2 ∧ T_rows_many G (retD Q R) (startD 4 ds) M
/-! states_many -/
def T_states_many (G : GEnv) : TSD :=
  (dRet (dBin gMul (dFld G.isCls "many" (dVar 0)) (dCall (sp_rows_many G) (dCons (dVar 0) (dCons (dTupRg1 (dFld G.isCls "many" (dVar 0))) dNil)))))
def sp_states_many (G : GEnv) : SpD := fun ds M Q R => ds.length = 1 ∧ T_states_many G (retD Q R) (startD 1 ds) M
/-! crossing_counts -/
def T_crossing_counts (G : GEnv) : TSD :=
  (dSeq (dAsg (dCall (sp_parted G) (dCons (dVar 0) (dCons (dVar 2) (dCons (dVar 1) dNil)))) (.name 3))
    (dSeq (dAsg (dCall (sp_states_many G) (dCons (dVar 0) dNil)) (.name 4))
    (dSeq (dAsg (dBin gMul (dBin gSub (dFld G.isCls "many" (dVar 0)) (dB gLen (dCons (dVar 3) dNil))) (dBin gFdiv (dBin gFdiv (dVar 4) (dFld G.isCls "many" (dVar 0))) (dCall (sp_rows_many G) (dCons (dVar 0) (dCons (dVar 3) dNil))))) (.name 5))
    (dSeq (dAsg (dBin gMul (dB gLen (dCons (dVar 3) dNil)) (dBin gFdiv (dVar 4) (dFld G.isCls "many" (dVar 0)))) (.name 6))
    (dRet (dTup (dCons (dVar 5) (dCons (dVar 6) (dCons (dBin gSub (dBin gSub (dVar 4) (dVar 5)) (dVar 6)) dNil)))))))))
def sp_crossing_counts (G : GEnv) : SpD := fun ds M Q R => ds.length = 3 ∧ T_crossing_counts G (retD Q R) (startD 7 ds) M
/-! road_shares -/
def T_road_shares (G : GEnv) : TSD :=
  (dSeq (dDrop (dCall (sp_check_tree G) (dCons (dVar 0) dNil)))
    (dSeq (dDrop (dCall (sp_check_state G) (dCons (dVar 0) (dCons (dVar 1) dNil))))
    (dSeq (dDrop (dCall (sp_check_road G) (dCons (dVar 0) (dCons (dVar 2) dNil))))
    (dRet (dCall (sp__shares G) (dCons (dCall (sp_crossing_counts G) (dCons (dVar 0) (dCons (dBin gIx (dVar 1) (dC (.int 0))) (dCons (dVar 2) dNil)))) dNil))))))
def sp_road_shares (G : GEnv) : SpD := fun ds M Q R => ds.length = 3 ∧ T_road_shares G (retD Q R) (startD 3 ds) M
/-! _law_told -/
def T__law_told (G : GEnv) : TSD :=
  (dTry G.exm (dRet (dCallK (sp_road_shares G) 0 3 [2, 1, 0] dNil (dCons (dVar 2) (dCons (dVar 1) (dCons (dVar 0) dNil))))) [(G.cls 0, some 3, fun a dx C => (dSeq (dAsg (dLst (dCons (dB (gIsE G.kit G.isExc a dx C) (dCons (dVar 3) (dCons (dC (.ref (G.cls 6))) dNil))) (dCons (dB (gIsE G.kit G.isExc a dx C) (dCons (dVar 3) (dCons (dC (.ref (G.cls 2))) dNil))) dNil))) (.name 4))
    (dRet (dTup (dCons (dIfE (dTest (dBin gEq (dM isLst gCount (dVar 4) (dCons (dC (.bl true)) dNil)) (dC (.int 1)))) (dBin gIx (dLst (dCons (dC (.str "place")) (dCons (dC (.str "road")) dNil))) (dM isLst gIndex (dVar 4) (dCons (dC (.bl true)) dNil))) (dC (.str "other"))) (dCons (dWhat G.isExc a dx C (dVar 3)) dNil))))))])
def sp__law_told (G : GEnv) : SpD := fun ds M Q R => ds.length = 3 ∧ T__law_told G (retD Q R) (startD 5 ds) M
/-! _law_tied -/
def T__law_tied (G : GEnv) : TSD :=
  (dRet (dB (gSortedT 2 4294967296 finF) (dCons (dBin gAdd (dComp finF (iSeq (dVar 0)) [2, 3, 4] (.tup [(.name 2), (.name 3), (.name 4)]) (dTest (dBin gEq (dVar 2) (dVar 1))) (dTup (dCons (dVar 3) (dCons (dVar 4) dNil)))) (dComp finF (iSeq (dVar 0)) [2, 3, 4] (.tup [(.name 2), (.name 3), (.name 4)]) (dTest (dBin gEq (dVar 3) (dVar 1))) (dTup (dCons (dVar 2) (dCons (dVar 4) dNil))))) dNil)))
def sp__law_tied (G : GEnv) : SpD := fun ds M Q R => ds.length = 2 ∧ T__law_tied G (retD Q R) (startD 5 ds) M
/-! _law_side -/
def T__law_side (G : GEnv) : TSD :=
  (dSeq (dPar 3 4 (dCons (dLstM (dCons (dVar 2) dNil)) (dCons (dLstM (dCons (dVar 2) dNil)) dNil)))
    (dSeq (dWhile (dTest (dBin gNe (dVar 4) (dLst dNil))) (dFor (iSeq (dCall (sp__law_tied G) (dCons (dBin gAdd (dSlice (dVar 0) dNoPart (dPart (dVar 1))) (dSlice (dVar 0) (dPart (dBin gAdd (dVar 1) (dC (.int 1)))) dNoPart)) (dCons (dM isLst gPop (dVar 4) dNil) dNil)))) (.tup [(.name 5), (.name 6)]) (dIf (dTest (dBin (gIn true) (dVar 5) (dVar 3))) (dSeq (dDrop (dM isLst gAppend (dVar 3) (dCons (dVar 5) dNil)))
    (dDrop (dM isLst gAppend (dVar 4) (dCons (dVar 5) dNil)))) dNext)))
    (dRet (dVar 3))))
def sp__law_side (G : GEnv) : SpD := fun ds M Q R => ds.length = 3 ∧ T__law_side G (retD Q R) (startD 7 ds) M
/-! _law_states -/
def T__law_states (G : GEnv) : TSD :=
  (dSeq (dAsg (dLst (dCons (dTup dNil) dNil)) (.name 1))
    (dSeq (dFor (iSeq (dBin gIx (dVar 0) (dC (.int 1)))) (.tup [(.name 2), (.name 3)]) (dSeq (dAsg (dLstM dNil) (.name 4))
    (dSeq (dFor (iSeq (dVar 1)) (.name 5) (dDrop (dM isLst gExtend (dVar 4) (dCons (dComp finF (iRange1 (dCons (dVar 2) dNil)) [6] (.name 6) dYes (dBin gAdd (dVar 5) (dTup (dCons (dVar 6) dNil)))) dNil))))
    (dAsg (dVar 4) (.name 1)))))
    (dSeq (dAsg (dLstM dNil) (.name 7))
    (dSeq (dFor (iRange1 (dCons (dB gLen (dCons (dBin gIx (dVar 0) (dC (.int 1))) dNil)) dNil)) (.name 8) (dDrop (dM isLst gExtend (dVar 7) (dCons (dComp finF (iSeq (dVar 1)) [5] (.name 5) dYes (dTup (dCons (dVar 8) (dCons (dVar 5) dNil)))) dNil))))
    (dRet (dVar 7))))))
def sp__law_states (G : GEnv) : SpD := fun ds M Q R => ds.length = 1 ∧ T__law_states G (retD Q R) (startD 9 ds) M
/-! _law_share -/
def T__law_share (G : GEnv) : TSD :=
  (dSeq (dPar 2 3 (dCons (dVar 1) (dCons (dVar 0) dNil)))
    (dSeq (dWhile (dTest (dBin gGt (dVar 3) (dC (.int 0)))) (dPar 2 3 (dCons (dVar 3) (dCons (dBin gMod (dVar 2) (dVar 3)) dNil))))
    (dRet (dTup (dCons (dBin gFdiv (dVar 0) (dVar 2)) (dCons (dBin gFdiv (dVar 1) (dVar 2)) dNil))))))
def sp__law_share (G : GEnv) : SpD := fun ds M Q R => ds.length = 2 ∧ T__law_share G (retD Q R) (startD 4 ds) M
/-! _law_due -/
def T__law_due (G : GEnv) : TSD :=
  (dSeq (dAsg (dTup (dCons (dCall (sp__law_side G) (dCons (dBin gIx (dVar 0) (dC (.int 0))) (dCons (dVar 2) (dCons (dBin gIx (dVar 1) (dC (.int 0))) dNil)))) (dCons (dLstM (dCons (dC (.int 0)) (dCons (dC (.int 0)) (dCons (dC (.int 0)) dNil)))) dNil))) (.tup [(.name 3), (.name 4)]))
    (dSeq (dFor (iSeq (dCall (sp__law_states G) (dCons (dVar 0) dNil))) (.name 5) (dIf (dTest (dBin (gIn true) (dBin gIx (dVar 5) (dC (.int 0))) (dVar 3))) (dStore (dBin gAdd (dBin gIx (dVar 4) (dC (.int 1))) (dC (.int 1))) (dVar 4) (dC (.int 1))) (dSeq (dAsg (dComp finF (iRange1 (dCons (dB gLen (dCons (dBin gIx (dVar 0) (dC (.int 1))) dNil)) dNil)) [7] (.name 7) (dAndT (dTest (dBin (gIn true) (dVar 7) (dVar 3))) (dTest (dBin gNe (dBin gIx (dBin gIx (dVar 1) (dC (.int 1))) (dVar 7)) (dBin gIx (dBin gIx (dVar 5) (dC (.int 1))) (dVar 7))))) (dVar 7)) (.name 6))
    (dStore (dBin gAdd (dBin gIx (dVar 4) (dIfE (dTest (dBin gNe (dVar 6) (dLst dNil))) (dC (.int 2)) (dC (.int 0)))) (dC (.int 1))) (dVar 4) (dIfE (dTest (dBin gNe (dVar 6) (dLst dNil))) (dC (.int 2)) (dC (.int 0)))))))
    (dRet (dB gTuple (dCons (dComp finF (iRange1 (dCons (dC (.int 3)) dNil)) [8] (.name 8) (dTest (dBin gGt (dBin gIx (dVar 4) (dVar 8)) (dC (.int 0)))) (dTup (dCons (dVar 8) (dCons (dCall (sp__law_share G) (dCons (dBin gIx (dVar 4) (dVar 8)) (dCons (dB gSumQ (dCons (dVar 4) dNil)) dNil))) dNil)))) dNil)))))
def sp__law_due (G : GEnv) : SpD := fun ds M Q R => ds.length = 3 ∧ T__law_due G (retD Q R) (startD 9 ds) M
/-! _law_right -/
def T__law_right (G : GEnv) : TSD :=
  (dSeq (dAsg (dCall (sp__law_small G) (dCons (dVar 0) (dCons (dC (.int 150)) dNil))) (.name 1))
    (dSeq (dPar 2 3 (dCons (dCall (sp__law_made G) (dCons (dVar 1) dNil)) (dCons (dCall (sp__law_state G) (dCons (dVar 0) (dCons (dBin gIx (dVar 1) (dC (.int 1))) dNil))) dNil)))
    (dSeq (dFor (iRange1 (dCons (dB gLen (dCons (dBin gIx (dVar 1) (dC (.int 0))) dNil)) dNil)) (.name 4) (dIf (dTest (dBin gNe (dCall (sp__law_told G) (dCons (dVar 2) (dCons (dVar 3) (dCons (dVar 4) dNil)))) (dCall (sp__law_due G) (dCons (dVar 1) (dCons (dVar 3) (dCons (dVar 4) dNil)))))) (dRet (dC (.bl false))) dNext))
    (dSeq (dAsg (dB gLen (dCons (dBin gIx (dVar 1) (dC (.int 1))) dNil)) (.name 5))
    (dSeq (dFor (iSeq (dLst (dCons (dNeg (dC (.int 1))) (dCons (dB gLen (dCons (dBin gIx (dVar 1) (dC (.int 0))) dNil)) (dCons (dBin gAdd (dB gLen (dCons (dBin gIx (dVar 1) (dC (.int 0))) dNil)) (dCall (sp__law_take G) (dCons (dVar 0) (dCons (dBin gPow (dC (.int 10)) (dC (.int 9))) dNil)))) dNil))))) (.name 4) (dIf (dOrT (dTest (dBin gNe (dCall (sp__law_told G) (dCons (dVar 2) (dCons (dVar 3) (dCons (dVar 4) dNil)))) (dTup (dCons (dC (.str "road")) (dCons (dVar 4) dNil))))) (dTest (dBin gNe (dCall (sp__law_told G) (dCons (dVar 2) (dCons (dTup (dCons (dVar 5) (dCons (dBin gIx (dVar 3) (dC (.int 1))) dNil))) (dCons (dVar 4) dNil)))) (dTup (dCons (dC (.str "place")) (dCons (dVar 5) dNil)))))) (dRet (dC (.bl false))) dNext))
    (dRet (dC (.bl true))))))))
def sp__law_right (G : GEnv) : SpD := fun ds M Q R => ds.length = 1 ∧ T__law_right G (retD Q R) (startD 6 ds) M
/-! _law_pool -/
def T__law_pool (G : GEnv) : TSD :=
  (dSeq (dAsg (dC (.int 0)) (.name 2))
    (dSeq (dIf (dTest (dBin gLt (dVar 1) (dB gLen (dCons (dVar 0) dNil)))) (dAsg (dBin gIx (dVar 0) (dVar 1)) (.name 2)) (dIf (dTru (dVar 0)) (dAsg (dBin gIx (dVar 0) (dC (.int 0))) (.name 2)) dNext))
    (dSeq (dAsg (dB gMax2 (dCons (dB gInt (dCons (dVar 2) dNil)) (dCons (dB gInt (dCons (dBin gSub (dNeg (dC (.int 1))) (dVar 2)) dNil)) dNil))) (.name 3))
    (dSeq (dAsg (dBin gMod (dB gInt (dCons (dBin gMul (dBin gAdd (dBin gAdd (dBin gAdd (dBin gMod (dB gInt (dCons (dVar 3) dNil)) (dC (.int 2147483629))) (dBin gMul (dBin gMul (dC (.int 7919)) (dVar 1)) (dVar 1))) (dBin gMul (dC (.int 31)) (dVar 1))) (dC (.int 17))) (dC (.int 48271))) dNil)) (dC (.int 2147483647))) (.name 4))
    (dRet (dLstM (dCons (dBin gMul (dVar 3) (dB gInt (dCons (dBin gGe (dVar 3) (dBin gPow (dC (.int 10)) (dC (.int 18)))) dNil))) (dCons (dVar 4) dNil))))))))
def sp__law_pool (G : GEnv) : SpD := fun ds M Q R => ds.length = 2 ∧ T__law_pool G (retD Q R) (startD 5 ds) M
/-! law -/
def T_law (G : GEnv) : TSD :=
  (dSeq (dFor (iRange1 (dCons (dB gMax2 (dCons (dC (.int 1)) (dCons (dB gMin2 (dCons (dB gLen (dCons (dVar 0) dNil)) (dCons (dC (.int 2)) dNil))) dNil))) dNil)) (.name 1) (dIf (dNotT (dTru (dCall (sp__law_right G) (dCons (dCall (sp__law_pool G) (dCons (dVar 0) (dCons (dVar 1) dNil))) dNil)))) (dRet (dC (.bl false))) dNext))
    (dRet (dC (.bl true))))
def sp_law (G : GEnv) : SpD := fun ds M Q R => ds.length = 1 ∧ T_law G (retD Q R) (startD 2 ds) M

end LW

set_option Elab.async false
set_option maxRecDepth 100000
set_option maxHeartbeats 4000000
/-! Reading a def's text over data: the words for simp. -/
namespace DL
open PySem PySem.Spec L2
abbrev src (b m : Int) : MO := .lst [.int b, .int m]
theorem MS.fresh {M0 : MS} {a p : Addr} {s : MO} (h : (M0.set a s) p = none) : p ≠ a ∧ M0 p = none := by
  by_cases e : p = a
  · rw [e, MS.set_same] at h; cases h
  · rw [MS.set_ne e] at h; exact ⟨e, h⟩
theorem MS.comm {M0 : MS} {a p : Addr} {s l : MO} (h : p ≠ a) : (M0.set a s).set p l = (M0.set p l).set a s := by
  funext b; unfold MS.set
  by_cases h1 : b = p
  · subst h1; simp [h]
  · rw [if_neg h1, if_neg h1]
theorem MS.under {M0 : MS} {a p : Addr} {s l l' : MO} (h : p ≠ a) : ((M0.set p l).set a s).set p l' = (M0.set p l').set a s := by rw [MS.comm h, MS.set_set]
theorem RetOk.drop {Q : QD} {d : D} {M0 : MS} {a p : Addr} {s l : MO} (hp : M0 p = none) (hpa : p ≠ a) (q : Q d (M0.set a s)) : RetOk Q d ((M0.set p l).set a s) := by
  refine ⟨d, M0.set a s, fun c o e => ?_, .refl d, q⟩
  by_cases h : c = a
  · subst h; rw [MS.set_same] at e ⊢; exact e
  · rw [MS.set_ne h] at e ⊢
    rw [MS.set_ne (fun z => by rw [z, hp] at e; cases e)]; exact e
def FL (Cs : Addr → Prop) (f : Str) (M : MS) (d : D) (Q : QD) : Prop := ∃ C fs ds v, asIns M d = some (C, fs, ds) ∧ Cs C ∧ dGet fs ds f = some v ∧ Q v M
theorem z_fld {Cs : Addr → Prop} {f : Str} {t : TED} : dFld Cs f t = fun ρ M Q R => t ρ M (fun d M1 => FL Cs f M1 d Q) R := rfl
section
variable {M M0 : MS} {Q : QD} {R : RK} {i j : Int} {a : Addr} {ds : List D}
@[simp] theorem z_gI {C : Int → Int → Prop} {f : Int → Int → D} : gI C f (.int i) (.int j) M Q ↔ (C i j ∧ Q (f i j) M) := Iff.rfl
@[simp] theorem z_add : gAdd (.int i) (.int j) M Q ↔ Q (.int (i + j)) M := Iff.rfl
@[simp] theorem z_lt : gLt (.int i) (.int j) M Q ↔ Q (.bl (decide (i < j))) M := Iff.rfl
@[simp] theorem z_le : gLe (.int i) (.int j) M Q ↔ Q (.bl (decide (i ≤ j))) M := Iff.rfl
@[simp] theorem z_int : gInt [.int i] M Q ↔ Q (.int i) M := Iff.rfl
@[simp] theorem z_intb {b : Bool} : gInt [.bl b] M Q ↔ Q (.int (if b then 1 else 0)) M := Iff.rfl
@[simp] theorem z_asL {l : List D} : asL (M.set a (.lst l)) (.ref a) = some l := by simp [asL, MS.set_same]
@[simp] theorem z_asQ {l : List D} : asQ (M.set a (.lst l)) (.ref a) = some l := by simp [asQ]
@[simp] theorem z_asQt {l : List D} : asQ M (.tup l) = some l := rfl
@[simp] theorem z_asQk {l : List D} : asQ M (.ktup l) = some l := rfl
@[simp] theorem z_asQs {l : List D} : asQ M (.klst l) = some l := rfl
@[simp] theorem z_asQl {l : List D} : asQ M (.lst l) = some l := rfl
@[simp] theorem z_asLl {l : List D} : asL M (.lst l) = some l := rfl
theorem look_lst {x y : D} {r : Option D} (h1 : asDK M y = none) (h2 : asDT M y = none) : ¬ DLook M x y r := fun h => by
  cases h with
  | k e _ => rw [h1] at e; cases e
  | t e _ => rw [h2] at e; cases e
theorem z_ix {x : D} {l : List D} (h : asQ M x = some l) (h1 : asDK M x = none) (h2 : asDT M x = none) : gIx x (.int i) M Q ↔ ∃ d, atI l i = some d ∧ Q d M := by
  unfold gIx
  constructor
  · rintro (⟨ds, k, d, e1, e2, e3, q⟩ | ⟨d, l, q⟩)
    · rw [h] at e1; cases e1; cases e2; exact ⟨d, e3, q⟩
    · exact (look_lst h1 h2 l).elim
  · rintro ⟨d, e, q⟩; exact .inl ⟨l, i, d, h, rfl, e, q⟩
@[simp] theorem z_ixr {l : List D} : gIx (.ref a) (.int i) (M0.set a (.lst l)) Q ↔ ∃ d, atI l i = some d ∧ Q d (M0.set a (.lst l)) := z_ix z_asQ (by simp [asDK, MS.set_same]) (by simp [asDT, MS.set_same])
@[simp] theorem z_ixt {l : List D} : gIx (.tup l) (.int i) M Q ↔ ∃ d, atI l i = some d ∧ Q d M := z_ix rfl rfl rfl
@[simp] theorem z_ixk {l : List D} : gIx (.ktup l) (.int i) M Q ↔ ∃ d, atI l i = some d ∧ Q d M := z_ix rfl rfl rfl
@[simp] theorem z_ixs {l : List D} : gIx (.klst l) (.int i) M Q ↔ ∃ d, atI l i = some d ∧ Q d M := z_ix rfl rfl rfl
@[simp] theorem z_ixl {l : List D} : gIx (.lst l) (.int i) M Q ↔ ∃ d, atI l i = some d ∧ Q d M := z_ix rfl rfl rfl
@[simp] theorem z_at0 {α : Type} {d : α} {l : List α} : atI (d :: l) 0 = some d := by simp [atI, ixN]
theorem at_nat {α : Type} {l : List α} {n : Nat} (h : n < l.length) : atI l (n : Int) = l[n]? := by
  have h2 : (n : Int) < (l.length : Int) := by omega
  simp [atI, ixN, h2]
@[simp] theorem z_at1 {α : Type} {d e : α} {l : List α} : atI (d :: e :: l) 1 = some e := by simpa using at_nat (l := d :: e :: l) (n := 1) (by simp)
@[simp] theorem z_at2 {α : Type} {d e f : α} {l : List α} : atI (d :: e :: f :: l) 2 = some f := by simpa using at_nat (l := d :: e :: f :: l) (n := 2) (by simp)
@[simp] theorem z_i20 : ixN 2 0 = some 0 := rfl
@[simp] theorem z_i21 : ixN 2 1 = some 1 := rfl
@[simp] theorem z_store {l : List D} {v : D} {Q : MS → Prop} : gStore (.ref a) (.int i) v (M0.set a (.lst l)) Q ↔ ∃ j, ixN l.length i = some j ∧ Q (M0.set a (.lst (l.set j v))) := by
  unfold gStore
  constructor
  · rintro (⟨b, ds, k, j, e1, e2, e3, e4, q⟩ | ⟨b, ks, ds, k, e1, e2, e3, _⟩ | ⟨b, ks, ds, k, e1, e2, e3, _⟩)
    · cases e1; cases e2; rw [MS.set_same] at e3; cases e3; rw [MS.set_set] at q; exact ⟨j, e4, q⟩
    · cases e1; rw [MS.set_same] at e3; cases e3
    · cases e1; rw [MS.set_same] at e3; cases e3
  · rintro ⟨j, e, q⟩; exact .inl ⟨a, l, i, j, rfl, rfl, MS.set_same, e, by rw [MS.set_set]; exact q⟩
@[simp] theorem z_len {l : List D} : gLen [.tup l] M Q ↔ Q (.int l.length) M := by simp [gLen, asDK, asQ]
@[simp] theorem z_lenl {l : List D} : gLen [.lst l] M Q ↔ Q (.int l.length) M := by simp [gLen, asDK, asQ, asL]
@[simp] theorem z_lenk {l : List D} : gLen [.ktup l] M Q ↔ Q (.int l.length) M := by simp [gLen, asDK, asQ]
@[simp] theorem z_lens {l : List D} : gLen [.klst l] M Q ↔ Q (.int l.length) M := by simp [gLen, asDK, asQ]
@[simp] theorem z_lenr {l : List D} : gLen [.ref a] (M0.set a (.lst l)) Q ↔ Q (.int l.length) (M0.set a (.lst l)) := by simp [gLen, asDK, MS.set_same]
@[simp] theorem z_addt {l e : List D} : gAdd (.tup l) (.tup e) M Q ↔ (l.length + e.length ≤ sizeLine ∧ Q (.tup (l ++ e)) M) := Iff.rfl
@[simp] theorem z_sl {l : List D} {lo hi : Option Int} : gSlice (.tup l) lo hi M Q ↔ Q (.tup (cutD l lo hi)) M := by
  constructor
  · rintro (⟨ds, e, _, q, _⟩ | ⟨ds, e, _⟩)
    · cases e; exact q
    · cases e
  · exact fun q => .inl ⟨l, rfl, rfl, q, fun es e => by cases e⟩
@[simp] theorem z_trb {b : Bool} : truD M (.bl b) = some b := rfl
@[simp] theorem z_trt : truD M (.tup ds) = some !ds.isEmpty := rfl
@[simp] theorem z_trk : truD M (.ktup ds) = some !ds.isEmpty := rfl
@[simp] theorem z_trl : truD M (.lst ds) = some !ds.isEmpty := rfl
@[simp] theorem z_trs : truD M (.klst ds) = some !ds.isEmpty := rfl
@[simp] theorem z_eq : gEq (.int i) (.int j) M Q ↔ Q (.bl (decide (i = j))) M := by
  have e : PyData.eqv (.int i) (.int j) = decide (i = j) := rfl
  constructor
  · rintro ⟨p, q, e1, e2, _, _, w⟩
    cases e1; cases e2; rw [e] at w; exact w
  · exact fun w => ⟨.int i, .int j, rfl, rfl, rfl, rfl, by rw [e]; exact w⟩
@[simp] theorem z_ne : gNe (.int i) (.int j) M Q ↔ Q (.bl (!decide (i = j))) M := by
  have e : PyData.eqv (.int i) (.int j) = decide (i = j) := rfl
  constructor
  · rintro ⟨p, q, e1, e2, _, _, w⟩
    cases e1; cases e2; rw [e] at w; exact w
  · exact fun w => ⟨.int i, .int j, rfl, rfl, rfl, rfl, by rw [e]; exact w⟩
@[simp] theorem z_max2 : gMax2 [.int i, .int j] M Q ↔ Q (.int (if j > i then j else i)) M := ⟨fun ⟨_, _, e, q⟩ => by cases e; exact q, fun q => ⟨_, _, rfl, q⟩⟩
@[simp] theorem z_min2 : gMin2 [.int i, .int j] M Q ↔ Q (.int (if j < i then j else i)) M := ⟨fun ⟨_, _, e, q⟩ => by cases e; exact q, fun q => ⟨_, _, rfl, q⟩⟩
end
end DL
namespace LW
open PySem PySem.Spec L2 DL
theorem take_spec {G : GEnv} {a : Addr} {M0 : MS} {Q : QD} {R : RK} {top b m : Int} (hb : 0 ≤ b) (hm : 0 ≤ m) (ht : 0 < top) (ht2 : top < 1073741824) (k : ∀ d b' m', 0 ≤ d → d < top → 0 ≤ b' → 0 ≤ m' → Q (.int d) (M0.set a (src b' m'))) :
    sp__law_take G [.ref a, .int top] (M0.set a (src b m)) Q R := by
  refine ⟨rfl, ?_⟩
  simp only [T__law_take, dSeq, dIf, dTest, dBin, dVar, dC, dAsg, dStore, dRet, dB, dCons, dNil, dTup, dLst, dLstM, dDrop, dM, dCall, dCallK, dTru, dNotT, dAndT, dOrT, dAndE, dOrE, dNotE, dIfE, dChain, dChain3, dNeg, dFor, dPar, dSlice, dPart, dNoPart, z_fld, dSetF, dRaise, dRz, dNext, dBreak, dCont, dRetN, dYes, dComp, iSeq, iRange1, iRange2, DL.iZip, DL.iEnum, startD, retD, asg, asgs, asT, gMod, gMul, DL.gSub, gGt, gGe, gFdiv, gPow, wipeD, finF, finM, perm,
    List.map_cons, List.map_nil, List.length_cons, List.length_nil, List.replicate, List.cons_append, List.nil_append, List.getElem?_cons_zero, List.getElem?_cons_succ, List.set, List.getD_cons_zero, List.getD_cons_succ, Option.some.injEq, exists_eq_left', exists_eq_left, D.int.injEq, D.bl.injEq, D.ref.injEq, D.str.injEq, List.cons.injEq, and_true, true_and, exists_and_left, exists_and_right, decide_eq_true_eq, Bool.false_eq_true, if_true, if_false, ite_true, ite_false, Nat.zero_add, Nat.reduceAdd, Nat.reduceSub,
    z_gI, z_add, z_lt, z_le, z_int, z_intb, z_ixr, z_ixt, z_ixk, z_ixs, z_ixl, z_asQ, z_asQt, z_asQk, z_asQs, z_asQl, z_asL, z_asLl, z_at0, z_at1, z_at2, z_store, z_i20, z_i21, z_eq, z_ne, z_max2, z_min2, z_addt, z_sl, z_trb, z_trt, z_trk, z_trl, z_trs, List.isEmpty_cons, List.isEmpty_nil, Bool.not_true, Bool.not_false, z_len, z_lenl, z_lenk, z_lenr, z_lens, MS.set_set, MS.set_same]
  by_cases h0 : 0 < b
  · rw [if_pos h0]
    exact ⟨ht, ⟨ht, ht2⟩, RetOk.of (k _ _ _ (Int.emod_nonneg _ (by omega)) (Int.emod_lt_of_pos _ ht) (Int.ediv_nonneg hb (by omega)) hm)⟩
  · rw [if_neg h0]
    have e : (m * 39373 + 7) % 2147483647 < 2147483647 := Int.emod_lt_of_pos _ (by decide)
    have e0 : 0 ≤ (m * 39373 + 7) % 2147483647 := Int.emod_nonneg _ (by decide)
    generalize (m * 39373 + 7) % 2147483647 = n at e e0
    refine ⟨.inr (by omega), by decide, .inl (by omega), by decide, ⟨by decide, by decide⟩, ht, RetOk.of (k _ _ _ (Int.emod_nonneg _ (by omega)) (Int.emod_lt_of_pos _ ht) hb e0)⟩
theorem pool_spec {G : GEnv} {M : MS} {Q : QD} {R : RK} {ns : List Int} (hl : ns.length ≤ 63) (k : ∀ p b m, M p = none → 0 ≤ b → 0 ≤ m → Q (.ref p) (M.set p (src b m))) : sp__law_pool G [.klst (ns.map D.int), .int 0] M Q R := by
  refine ⟨rfl, ?_⟩
  have fin : ∀ c : Int, 0 ≤ (if -1 - c > c then -1 - c else c) := fun c => by split <;> omega
  have main : ∀ n : Int, 0 ≤ n → (0 < (2147483629 : Int) ∧ CMul 7919 0 ∧ CMul (7919 * 0) 0 ∧ CMul 31 0 ∧ CMul (n % 2147483629 + 7919 * 0 * 0 + 31 * 0 + 17) 48271 ∧ 0 < (2147483647 : Int) ∧ CPow 10 18 ∧ CMul n (if (10 : Int) ^ Int.toNat 18 ≤ n then 1 else 0) ∧ 2 ≤ sizeLine ∧
      ∀ p, M p = none → RetOk Q (.ref p) (M.set p (.lst [.int (n * if (10 : Int) ^ Int.toNat 18 ≤ n then 1 else 0), .int ((n % 2147483629 + 7919 * 0 * 0 + 31 * 0 + 17) * 48271 % 2147483647)]))) := fun n hn => by
    refine ⟨by decide, .inl (by decide), .inr (by decide), .inl (by decide), .inr (by decide), by decide, ⟨by decide, by decide, by decide⟩, .inr (by split <;> decide), by decide, fun p hp => RetOk.of (k p _ _ hp ?_ (Int.emod_nonneg _ (by decide)))⟩
    split
    · omega
    · omega
  cases ns with
  | nil =>
    simp only [T__law_pool, dSeq, dIf, dTest, dBin, dVar, dC, dAsg, dStore, dRet, dB, dCons, dNil, dTup, dLst, dLstM, dDrop, dM, dCall, dCallK, dTru, dNotT, dAndT, dOrT, dAndE, dOrE, dNotE, dIfE, dChain, dChain3, dNeg, dFor, dPar, dSlice, dPart, dNoPart, z_fld, dSetF, dRaise, dRz, dNext, dBreak, dCont, dRetN, dYes, dComp, iSeq, iRange1, iRange2, DL.iZip, DL.iEnum, startD, retD, asg, asgs, asT, gMod, gMul, DL.gSub, gGt, gGe, gFdiv, gPow, wipeD, finF, finM, perm,
    List.map_cons, List.map_nil, List.length_cons, List.length_nil, List.replicate, List.cons_append, List.nil_append, List.getElem?_cons_zero, List.getElem?_cons_succ, List.set, List.getD_cons_zero, List.getD_cons_succ, Option.some.injEq, exists_eq_left', exists_eq_left, D.int.injEq, D.bl.injEq, D.ref.injEq, D.str.injEq, List.cons.injEq, and_true, true_and, exists_and_left, exists_and_right, decide_eq_true_eq, Bool.false_eq_true, if_true, if_false, ite_true, ite_false, Nat.zero_add, Nat.reduceAdd, Nat.reduceSub,
    z_gI, z_add, z_lt, z_le, z_int, z_intb, z_ixr, z_ixt, z_ixk, z_ixs, z_ixl, z_asQ, z_asQt, z_asQk, z_asQs, z_asQl, z_asL, z_asLl, z_at0, z_at1, z_at2, z_store, z_i20, z_i21, z_eq, z_ne, z_max2, z_min2, z_addt, z_sl, z_trb, z_trt, z_trk, z_trl, z_trs, List.isEmpty_cons, List.isEmpty_nil, Bool.not_true, Bool.not_false, z_len, z_lenl, z_lenk, z_lenr, z_lens, MS.set_set, MS.set_same]
    simpa using main 0 (by decide)
  | cons n ns =>
    simp only [T__law_pool, dSeq, dIf, dTest, dBin, dVar, dC, dAsg, dStore, dRet, dB, dCons, dNil, dTup, dLst, dLstM, dDrop, dM, dCall, dCallK, dTru, dNotT, dAndT, dOrT, dAndE, dOrE, dNotE, dIfE, dChain, dChain3, dNeg, dFor, dPar, dSlice, dPart, dNoPart, z_fld, dSetF, dRaise, dRz, dNext, dBreak, dCont, dRetN, dYes, dComp, iSeq, iRange1, iRange2, DL.iZip, DL.iEnum, startD, retD, asg, asgs, asT, gMod, gMul, DL.gSub, gGt, gGe, gFdiv, gPow, wipeD, finF, finM, perm,
    List.map_cons, List.map_nil, List.length_cons, List.length_nil, List.replicate, List.cons_append, List.nil_append, List.getElem?_cons_zero, List.getElem?_cons_succ, List.set, List.getD_cons_zero, List.getD_cons_succ, Option.some.injEq, exists_eq_left', exists_eq_left, D.int.injEq, D.bl.injEq, D.ref.injEq, D.str.injEq, List.cons.injEq, and_true, true_and, exists_and_left, exists_and_right, decide_eq_true_eq, Bool.false_eq_true, if_true, if_false, ite_true, ite_false, Nat.zero_add, Nat.reduceAdd, Nat.reduceSub,
    z_gI, z_add, z_lt, z_le, z_int, z_intb, z_ixr, z_ixt, z_ixk, z_ixs, z_ixl, z_asQ, z_asQt, z_asQk, z_asQs, z_asQl, z_asL, z_asLl, z_at0, z_at1, z_at2, z_store, z_i20, z_i21, z_eq, z_ne, z_max2, z_min2, z_addt, z_sl, z_trb, z_trt, z_trk, z_trl, z_trs, List.isEmpty_cons, List.isEmpty_nil, Bool.not_true, Bool.not_false, z_len, z_lenl, z_lenk, z_lenr, z_lens, MS.set_set, MS.set_same]
    rw [if_pos (by omega)]
    exact main _ (fin n)
/-- things is a list, a tuple that is at hand -/
theorem one_spec {G : GEnv} {a : Addr} {M0 : MS} {Q : QD} {R : RK} {l : List D} {x : D} {b m : Int} (hb : 0 ≤ b) (hm : 0 ≤ m) (hx : x = .tup l ∨ x = .lst l ∨ x = .ktup l) (hl : 0 < l.length) (hl2 : l.length < 1000000) (k : ∀ d ∈ l, ∀ b' m', 0 ≤ b' → 0 ≤ m' → Q d (M0.set a (src b' m'))) :
    sp__law_one G [.ref a, x] (M0.set a (src b m)) Q R := by
  refine ⟨rfl, ?_⟩
  have fin : ∀ (d b' m' : Int), 0 ≤ d → d < (l.length : Int) → 0 ≤ b' → 0 ≤ m' → ∃ e, atI l d = some e ∧ RetOk Q e (M0.set a (src b' m')) := fun d b' m' h1 h2 h3 h4 => by
    obtain ⟨n, rfl⟩ := Int.eq_ofNat_of_zero_le h1
    have hn : n < l.length := by omega
    exact ⟨l[n], by rw [at_nat hn]; simp [hn], RetOk.of (k _ (List.getElem_mem hn) b' m' h3 h4)⟩
  rcases hx with rfl | rfl | rfl
  · simp only [T__law_one, dSeq, dIf, dTest, dBin, dVar, dC, dAsg, dStore, dRet, dB, dCons, dNil, dTup, dLst, dLstM, dDrop, dM, dCall, dCallK, dTru, dNotT, dAndT, dOrT, dAndE, dOrE, dNotE, dIfE, dChain, dChain3, dNeg, dFor, dPar, dSlice, dPart, dNoPart, z_fld, dSetF, dRaise, dRz, dNext, dBreak, dCont, dRetN, dYes, dComp, iSeq, iRange1, iRange2, DL.iZip, DL.iEnum, startD, retD, asg, asgs, asT, gMod, gMul, DL.gSub, gGt, gGe, gFdiv, gPow, wipeD, finF, finM, perm,
    List.map_cons, List.map_nil, List.length_cons, List.length_nil, List.replicate, List.cons_append, List.nil_append, List.getElem?_cons_zero, List.getElem?_cons_succ, List.set, List.getD_cons_zero, List.getD_cons_succ, Option.some.injEq, exists_eq_left', exists_eq_left, D.int.injEq, D.bl.injEq, D.ref.injEq, D.str.injEq, List.cons.injEq, and_true, true_and, exists_and_left, exists_and_right, decide_eq_true_eq, Bool.false_eq_true, if_true, if_false, ite_true, ite_false, Nat.zero_add, Nat.reduceAdd, Nat.reduceSub,
    z_gI, z_add, z_lt, z_le, z_int, z_intb, z_ixr, z_ixt, z_ixk, z_ixs, z_ixl, z_asQ, z_asQt, z_asQk, z_asQs, z_asQl, z_asL, z_asLl, z_at0, z_at1, z_at2, z_store, z_i20, z_i21, z_eq, z_ne, z_max2, z_min2, z_addt, z_sl, z_trb, z_trt, z_trk, z_trl, z_trs, List.isEmpty_cons, List.isEmpty_nil, Bool.not_true, Bool.not_false, z_len, z_lenl, z_lenk, z_lenr, z_lens, MS.set_set, MS.set_same]
    exact take_spec hb hm (by omega) (by omega) fun d b' m' h1 h2 h3 h4 => by
      simp only [dSeq, dIf, dTest, dBin, dVar, dC, dAsg, dStore, dRet, dB, dCons, dNil, dTup, dLst, dLstM, dDrop, dM, dCall, dCallK, dTru, dNotT, dAndT, dOrT, dAndE, dOrE, dNotE, dIfE, dChain, dChain3, dNeg, dFor, dPar, dSlice, dPart, dNoPart, z_fld, dSetF, dRaise, dRz, dNext, dBreak, dCont, dRetN, dYes, dComp, iSeq, iRange1, iRange2, DL.iZip, DL.iEnum, startD, retD, asg, asgs, asT, gMod, gMul, DL.gSub, gGt, gGe, gFdiv, gPow, wipeD, finF, finM, perm,
    List.map_cons, List.map_nil, List.length_cons, List.length_nil, List.replicate, List.cons_append, List.nil_append, List.getElem?_cons_zero, List.getElem?_cons_succ, List.set, List.getD_cons_zero, List.getD_cons_succ, Option.some.injEq, exists_eq_left', exists_eq_left, D.int.injEq, D.bl.injEq, D.ref.injEq, D.str.injEq, List.cons.injEq, and_true, true_and, exists_and_left, exists_and_right, decide_eq_true_eq, Bool.false_eq_true, if_true, if_false, ite_true, ite_false, Nat.zero_add, Nat.reduceAdd, Nat.reduceSub,
    z_gI, z_add, z_lt, z_le, z_int, z_intb, z_ixr, z_ixt, z_ixk, z_ixs, z_ixl, z_asQ, z_asQt, z_asQk, z_asQs, z_asQl, z_asL, z_asLl, z_at0, z_at1, z_at2, z_store, z_i20, z_i21, z_eq, z_ne, z_max2, z_min2, z_addt, z_sl, z_trb, z_trt, z_trk, z_trl, z_trs, List.isEmpty_cons, List.isEmpty_nil, Bool.not_true, Bool.not_false, z_len, z_lenl, z_lenk, z_lenr, z_lens, MS.set_set, MS.set_same]
      exact fin d b' m' h1 h2 h3 h4
  · simp only [T__law_one, dSeq, dIf, dTest, dBin, dVar, dC, dAsg, dStore, dRet, dB, dCons, dNil, dTup, dLst, dLstM, dDrop, dM, dCall, dCallK, dTru, dNotT, dAndT, dOrT, dAndE, dOrE, dNotE, dIfE, dChain, dChain3, dNeg, dFor, dPar, dSlice, dPart, dNoPart, z_fld, dSetF, dRaise, dRz, dNext, dBreak, dCont, dRetN, dYes, dComp, iSeq, iRange1, iRange2, DL.iZip, DL.iEnum, startD, retD, asg, asgs, asT, gMod, gMul, DL.gSub, gGt, gGe, gFdiv, gPow, wipeD, finF, finM, perm,
    List.map_cons, List.map_nil, List.length_cons, List.length_nil, List.replicate, List.cons_append, List.nil_append, List.getElem?_cons_zero, List.getElem?_cons_succ, List.set, List.getD_cons_zero, List.getD_cons_succ, Option.some.injEq, exists_eq_left', exists_eq_left, D.int.injEq, D.bl.injEq, D.ref.injEq, D.str.injEq, List.cons.injEq, and_true, true_and, exists_and_left, exists_and_right, decide_eq_true_eq, Bool.false_eq_true, if_true, if_false, ite_true, ite_false, Nat.zero_add, Nat.reduceAdd, Nat.reduceSub,
    z_gI, z_add, z_lt, z_le, z_int, z_intb, z_ixr, z_ixt, z_ixk, z_ixs, z_ixl, z_asQ, z_asQt, z_asQk, z_asQs, z_asQl, z_asL, z_asLl, z_at0, z_at1, z_at2, z_store, z_i20, z_i21, z_eq, z_ne, z_max2, z_min2, z_addt, z_sl, z_trb, z_trt, z_trk, z_trl, z_trs, List.isEmpty_cons, List.isEmpty_nil, Bool.not_true, Bool.not_false, z_len, z_lenl, z_lenk, z_lenr, z_lens, MS.set_set, MS.set_same]
    exact take_spec hb hm (by omega) (by omega) fun d b' m' h1 h2 h3 h4 => by
      simp only [dSeq, dIf, dTest, dBin, dVar, dC, dAsg, dStore, dRet, dB, dCons, dNil, dTup, dLst, dLstM, dDrop, dM, dCall, dCallK, dTru, dNotT, dAndT, dOrT, dAndE, dOrE, dNotE, dIfE, dChain, dChain3, dNeg, dFor, dPar, dSlice, dPart, dNoPart, z_fld, dSetF, dRaise, dRz, dNext, dBreak, dCont, dRetN, dYes, dComp, iSeq, iRange1, iRange2, DL.iZip, DL.iEnum, startD, retD, asg, asgs, asT, gMod, gMul, DL.gSub, gGt, gGe, gFdiv, gPow, wipeD, finF, finM, perm,
    List.map_cons, List.map_nil, List.length_cons, List.length_nil, List.replicate, List.cons_append, List.nil_append, List.getElem?_cons_zero, List.getElem?_cons_succ, List.set, List.getD_cons_zero, List.getD_cons_succ, Option.some.injEq, exists_eq_left', exists_eq_left, D.int.injEq, D.bl.injEq, D.ref.injEq, D.str.injEq, List.cons.injEq, and_true, true_and, exists_and_left, exists_and_right, decide_eq_true_eq, Bool.false_eq_true, if_true, if_false, ite_true, ite_false, Nat.zero_add, Nat.reduceAdd, Nat.reduceSub,
    z_gI, z_add, z_lt, z_le, z_int, z_intb, z_ixr, z_ixt, z_ixk, z_ixs, z_ixl, z_asQ, z_asQt, z_asQk, z_asQs, z_asQl, z_asL, z_asLl, z_at0, z_at1, z_at2, z_store, z_i20, z_i21, z_eq, z_ne, z_max2, z_min2, z_addt, z_sl, z_trb, z_trt, z_trk, z_trl, z_trs, List.isEmpty_cons, List.isEmpty_nil, Bool.not_true, Bool.not_false, z_len, z_lenl, z_lenk, z_lenr, z_lens, MS.set_set, MS.set_same]
      exact fin d b' m' h1 h2 h3 h4
  · simp only [T__law_one, dSeq, dIf, dTest, dBin, dVar, dC, dAsg, dStore, dRet, dB, dCons, dNil, dTup, dLst, dLstM, dDrop, dM, dCall, dCallK, dTru, dNotT, dAndT, dOrT, dAndE, dOrE, dNotE, dIfE, dChain, dChain3, dNeg, dFor, dPar, dSlice, dPart, dNoPart, z_fld, dSetF, dRaise, dRz, dNext, dBreak, dCont, dRetN, dYes, dComp, iSeq, iRange1, iRange2, DL.iZip, DL.iEnum, startD, retD, asg, asgs, asT, gMod, gMul, DL.gSub, gGt, gGe, gFdiv, gPow, wipeD, finF, finM, perm,
    List.map_cons, List.map_nil, List.length_cons, List.length_nil, List.replicate, List.cons_append, List.nil_append, List.getElem?_cons_zero, List.getElem?_cons_succ, List.set, List.getD_cons_zero, List.getD_cons_succ, Option.some.injEq, exists_eq_left', exists_eq_left, D.int.injEq, D.bl.injEq, D.ref.injEq, D.str.injEq, List.cons.injEq, and_true, true_and, exists_and_left, exists_and_right, decide_eq_true_eq, Bool.false_eq_true, if_true, if_false, ite_true, ite_false, Nat.zero_add, Nat.reduceAdd, Nat.reduceSub,
    z_gI, z_add, z_lt, z_le, z_int, z_intb, z_ixr, z_ixt, z_ixk, z_ixs, z_ixl, z_asQ, z_asQt, z_asQk, z_asQs, z_asQl, z_asL, z_asLl, z_at0, z_at1, z_at2, z_store, z_i20, z_i21, z_eq, z_ne, z_max2, z_min2, z_addt, z_sl, z_trb, z_trt, z_trk, z_trl, z_trs, List.isEmpty_cons, List.isEmpty_nil, Bool.not_true, Bool.not_false, z_len, z_lenl, z_lenk, z_lenr, z_lens, MS.set_set, MS.set_same]
    exact take_spec hb hm (by omega) (by omega) fun d b' m' h1 h2 h3 h4 => by
      simp only [dSeq, dIf, dTest, dBin, dVar, dC, dAsg, dStore, dRet, dB, dCons, dNil, dTup, dLst, dLstM, dDrop, dM, dCall, dCallK, dTru, dNotT, dAndT, dOrT, dAndE, dOrE, dNotE, dIfE, dChain, dChain3, dNeg, dFor, dPar, dSlice, dPart, dNoPart, z_fld, dSetF, dRaise, dRz, dNext, dBreak, dCont, dRetN, dYes, dComp, iSeq, iRange1, iRange2, DL.iZip, DL.iEnum, startD, retD, asg, asgs, asT, gMod, gMul, DL.gSub, gGt, gGe, gFdiv, gPow, wipeD, finF, finM, perm,
    List.map_cons, List.map_nil, List.length_cons, List.length_nil, List.replicate, List.cons_append, List.nil_append, List.getElem?_cons_zero, List.getElem?_cons_succ, List.set, List.getD_cons_zero, List.getD_cons_succ, Option.some.injEq, exists_eq_left', exists_eq_left, D.int.injEq, D.bl.injEq, D.ref.injEq, D.str.injEq, List.cons.injEq, and_true, true_and, exists_and_left, exists_and_right, decide_eq_true_eq, Bool.false_eq_true, if_true, if_false, ite_true, ite_false, Nat.zero_add, Nat.reduceAdd, Nat.reduceSub,
    z_gI, z_add, z_lt, z_le, z_int, z_intb, z_ixr, z_ixt, z_ixk, z_ixs, z_ixl, z_asQ, z_asQt, z_asQk, z_asQs, z_asQl, z_asL, z_asLl, z_at0, z_at1, z_at2, z_store, z_i20, z_i21, z_eq, z_ne, z_max2, z_min2, z_addt, z_sl, z_trb, z_trt, z_trk, z_trl, z_trs, List.isEmpty_cons, List.isEmpty_nil, Bool.not_true, Bool.not_false, z_len, z_lenl, z_lenk, z_lenr, z_lens, MS.set_set, MS.set_same]
      exact fin d b' m' h1 h2 h3 h4
end LW

set_option Elab.async false
set_option maxRecDepth 100000
set_option maxHeartbeats 4000000
namespace DL
open PySem PySem.Spec L2
theorem for_inv {chk : MS → Prop} {g : Tgt} {tb : TSD} {D0 : EndsD} {ds : List D} (Inv : Nat → Rho → MS → Prop) (hc : ∀ i ρ M, Inv i ρ M → chk M)
    (step : ∀ i d ρ M, ds[i]? = some d → Inv i ρ M → ∃ ρ', asg g d ρ = some ρ' ∧ ∀ K : Rho → MS → Prop, (∀ ρ M, Inv (i + 1) ρ M → K ρ M) → tb { D0 with nx := K, ct := K, bk := D0.nx } ρ' M)
    (fin : ∀ ρ M, Inv ds.length ρ M → D0.nx ρ M) {ρ : Rho} {M : MS} (h : Inv 0 ρ M) : dForGo chk g tb D0 ds ρ M := by
  have go : ∀ (k i : Nat) (ρ : Rho) (M : MS), ds.length - i = k → i ≤ ds.length → Inv i ρ M → dForGo chk g tb D0 (ds.drop i) ρ M := by
    intro k
    induction k with
    | zero =>
      intro i ρ M hk hi h
      have e : i = ds.length := by omega
      subst e
      rw [List.drop_length]
      exact ⟨hc _ _ _ h, fin ρ M h⟩
    | succ k ih =>
      intro i ρ M hk hi h
      have hlt : i < ds.length := by omega
      rw [List.drop_eq_getElem_cons hlt]
      obtain ⟨ρ', e, s⟩ := step i _ ρ M (List.getElem?_eq_getElem hlt) h
      exact ⟨hc _ _ _ h, ρ', e, s _ fun ρ2 M2 h2 => ih (i + 1) ρ2 M2 (by omega) hlt h2⟩
  simpa using go ds.length 0 ρ M (by simp) (Nat.zero_le _) h
theorem rangeD_len {lo : Int} {n : Nat} : (rangeD lo n).length = n := by simp [rangeD]
theorem rangeD_get {lo : Int} {n i : Nat} {d : D} (h : (rangeD lo n)[i]? = some d) : i < n ∧ d = .int (lo + (i : Nat)) := by
  have hi : i < n := by
    have := (List.getElem?_eq_some_iff.mp h).1
    rwa [rangeD_len] at this
  refine ⟨hi, ?_⟩
  simp [rangeD, hi] at h
  exact h.symm
@[simp] theorem z_appU {M0 : MS} {a p : Addr} {s : MO} {l : List D} {y : D} {Q : QD} (h : p ≠ a) : gAppend (.ref p) [y] ((M0.set p (.lst l)).set a s) Q ↔ (l.length < sizeLine ∧ Q .non ((M0.set p (.lst (l ++ [y]))).set a s)) := by
  have hg : ((M0.set p (.lst l)).set a s) p = some (.lst l) := by rw [MS.set_ne h, MS.set_same]
  constructor
  · rintro ⟨b, xs, y', e1, e2, e3, e4, q⟩
    cases e1; cases e2
    rw [hg] at e3; cases e3
    rw [MS.under h] at q
    exact ⟨e4, q⟩
  · rintro ⟨e4, q⟩
    exact ⟨p, l, y, rfl, rfl, hg, e4, by rw [MS.under h]; exact q⟩
@[simp] theorem z_isLU {M0 : MS} {a p : Addr} {s : MO} {l : List D} (h : p ≠ a) : isLst ((M0.set p (.lst l)).set a s) (.ref p) := ⟨l, by simp [asL, MS.set_ne h, MS.set_same]⟩
theorem asLU {M0 : MS} {a p : Addr} {s : MO} {l : List D} (h : p ≠ a) : asL ((M0.set p (.lst l)).set a s) (.ref p) = some l := by simp [asL, MS.set_ne h, MS.set_same]
/-! ### roads -/
def pr (r : List Int) : Int × Int := (r.getD 0 0, r.getD 1 0)
def IsRd (many : Int) (r : List Int) : Prop := ∃ p q w, r = [p, q, w] ∧ 0 ≤ p ∧ p < q ∧ q < many ∧ 1 ≤ w ∧ w ≤ 100
def Par (many : Int) (l : List (List Int)) : Prop := ∀ x, 0 < x → x < many → ∃ p w, [p, x, w] ∈ l ∧ 0 ≤ p ∧ p < x
structure Rds (many : Int) (l : List (List Int)) : Prop where
  rd : ∀ r ∈ l, IsRd many r
  nd : (l.map pr).Nodup
  par : Par many l
def PrLt (r s : List Int) : Prop := (pr r).1 < (pr s).1 ∨ ((pr r).1 = (pr s).1 ∧ (pr r).2 < (pr s).2)
structure RdsS (many : Int) (l : List (List Int)) : Prop extends Rds many l where
  asc : l.Pairwise PrLt
theorem Rds.perm {many : Int} {l l' : List (List Int)} (h : Rds many l) (p : l'.Perm l) : Rds many l' :=
  ⟨fun r hr => h.rd r (p.mem_iff.mp hr), (p.map pr).nodup_iff.mpr h.nd, fun x h0 h1 => by
    obtain ⟨q, w, hm, h2⟩ := h.par x h0 h1
    exact ⟨q, w, p.mem_iff.mpr hm, h2⟩⟩
theorem IsRd.bd {many : Int} {r : List Int} (h : IsRd many r) (hm : many ≤ 1000) : r.length = 3 ∧ TS.Bd 4294967296 r := by
  obtain ⟨p, q, w, rfl, h1, h2, h3, h4, h5⟩ := h
  refine ⟨rfl, fun m hm => ?_⟩
  simp only [List.mem_cons, List.not_mem_nil, or_false] at hm
  rcases hm with rfl | rfl | rfl <;> omega
theorem code3 {B a b c d e f : Int} (h1 : TS.Bd B [a, b, c]) (h2 : TS.Bd B [d, e, f]) (h : TS.code B [a, b, c] ≤ TS.code B [d, e, f]) : a < d ∨ (a = d ∧ b ≤ e) := by
  by_cases e1 : d < a
  · have := TS.code_lt (B := B) (d := d) (e := a) (r := [e, f]) (q := [b, c]) rfl h2.tail h1.tail e1
    omega
  · by_cases e2 : a = d
    · subst e2
      refine .inr ⟨rfl, ?_⟩
      by_cases e3 : e < b
      · have z := TS.code_lt (B := B) (d := e) (e := b) (r := [f]) (q := [c]) rfl h2.tail.tail h1.tail.tail e3
        have z2 := (TS.code_same (B := B) (d := a) (r := [e, f]) (q := [b, c]) rfl).mpr z
        omega
      · omega
    · exact .inl (by omega)
theorem Rds.sorted {many : Int} {l l' : List (List Int)} (h : Rds many l) (hm : many ≤ 1000) (p : l'.Perm l) (w : l'.Pairwise fun a b => TS.code 4294967296 a ≤ TS.code 4294967296 b) : RdsS many l' := by
  have h' := h.perm p
  refine { h' with asc := ?_ }
  have hn := h'.nd
  have hr := h'.rd
  clear h h' p
  induction l' with
  | nil => exact .nil
  | cons r l ih =>
    obtain ⟨w1, w2⟩ := List.pairwise_cons.mp w
    rw [List.map_cons, List.nodup_cons] at hn
    refine List.pairwise_cons.mpr ⟨fun s hs => ?_, ih w2 hn.2 fun r hr' => hr r (List.mem_cons_of_mem _ hr')⟩
    have b1 := (hr r List.mem_cons_self).bd hm
    have b2 := (hr s (List.mem_cons_of_mem _ hs)).bd hm
    have ne : pr r ≠ pr s := fun e => hn.1 (by rw [e]; exact List.mem_map_of_mem hs)
    obtain ⟨a, b, c, rfl, _⟩ := hr r List.mem_cons_self
    obtain ⟨d, e, f, rfl, _⟩ := hr s (List.mem_cons_of_mem _ hs)
    have z := code3 b1.2 b2.2 (w1 _ hs)
    show a < d ∨ (a = d ∧ b < e)
    rcases z with z | ⟨z1, z2⟩
    · exact .inl z
    · refine .inr ⟨z1, ?_⟩
      have : b ≠ e := fun q => ne (by rw [z1, q]; rfl)
      omega
end DL
namespace LW
open PySem PySem.Spec L2 DL
theorem tree_spec {G : GEnv} {a : Addr} {M0 : MS} {Q : QD} {R : RK} {many : Int} {ls : List Int} {b m : Int} (hb : 0 ≤ b) (hm : 0 ≤ m) (h1 : 1 ≤ many) (h2 : many ≤ 10) (hls : 0 < ls.length ∧ ls.length < 1000) (hw : ∀ w ∈ ls, 1 ≤ w ∧ w ≤ 100)
    (k : ∀ l b' m', 0 ≤ b' → 0 ≤ m' → RdsS many l → (l.map fun r => (pr r).2).Nodup → (l.length : Int) = many - 1 → Q (.tup (l.map tupOf)) (M0.set a (src b' m'))) :
    sp__law_tree_roads G [.ref a, .int many, .lst (ls.map D.int)] (M0.set a (src b m)) Q R := by
  refine ⟨rfl, ?_⟩
  simp only [T__law_tree_roads, dSeq, dIf, dTest, dBin, dVar, dC, dAsg, dStore, dRet, dB, dCons, dNil, dTup, dLst, dLstM, dDrop, dM, dCall, dCallK, dTru, dNotT, dAndT, dOrT, dAndE, dOrE, dNotE, dIfE, dChain, dChain3, dNeg, dFor, dPar, dSlice, dPart, dNoPart, z_fld, dSetF, dRaise, dRz, dNext, dBreak, dCont, dRetN, dYes, dComp, iSeq, iRange1, iRange2, DL.iZip, DL.iEnum, startD, retD, asg, asgs, asT, gMod, gMul, DL.gSub, gGt, gGe, gFdiv, gPow, wipeD, finF, finM, perm,
    List.map_cons, List.map_nil, List.length_cons, List.length_nil, List.replicate, List.cons_append, List.nil_append, List.getElem?_cons_zero, List.getElem?_cons_succ, List.set, List.getD_cons_zero, List.getD_cons_succ, Option.some.injEq, exists_eq_left', exists_eq_left, D.int.injEq, D.bl.injEq, D.ref.injEq, D.str.injEq, List.cons.injEq, and_true, true_and, exists_and_left, exists_and_right, decide_eq_true_eq, Bool.false_eq_true, if_true, if_false, ite_true, ite_false, Nat.zero_add, Nat.reduceAdd, Nat.reduceSub,
    z_gI, z_add, z_lt, z_le, z_int, z_intb, z_ixr, z_ixt, z_ixk, z_ixs, z_ixl, z_asQ, z_asQt, z_asQk, z_asQs, z_asQl, z_asL, z_asLl, z_at0, z_at1, z_at2, z_store, z_i20, z_i21, z_eq, z_ne, z_max2, z_min2, z_addt, z_sl, z_trb, z_trt, z_trk, z_trl, z_trs, List.isEmpty_cons, List.isEmpty_nil, Bool.not_true, Bool.not_false, z_len, z_lenl, z_lenk, z_lenr, z_lens, MS.set_set, MS.set_same]
  refine ⟨by decide, fun p hp => ?_⟩
  obtain ⟨hpa, hp0⟩ := MS.fresh hp
  rw [MS.comm hpa]
  refine ⟨1, many, ⟨rfl, rfl⟩, by omega, ?_⟩
  have bdi : ∀ r, IsRd many r → r.length = 3 ∧ TS.Bd 4294967296 r := fun r h => h.bd (by omega)
  refine for_inv (fun i ρ M => ∃ (l : List (List Int)) (b' m' : Int) (o : Option D), 0 ≤ b' ∧ 0 ≤ m' ∧ ρ = [some (.ref a), some (.int many), some (.lst (ls.map D.int)), some (.ref p), o] ∧ M = (M0.set p (.lst (l.map tupOf))).set a (src b' m') ∧
    l.length = i ∧ (∀ r ∈ l, IsRd many r ∧ (pr r).2 < 1 + (i : Nat)) ∧ (l.map fun r => (pr r).2).Nodup ∧ ∀ x : Int, 0 < x → x < 1 + (i : Nat) → ∃ p w, [p, x, w] ∈ l ∧ 0 ≤ p ∧ p < x) (fun _ _ _ _ => trivial) ?_ ?_
    ⟨[], b, m, none, hb, hm, rfl, rfl, rfl, fun r hr => (by cases hr), List.Pairwise.nil, fun x h0 h1 => (by omega)⟩
  · rintro i d ρ M hd ⟨l, b', m', o, hb', hm', rfl, rfl, hl, hr, hn, hpar⟩
    obtain ⟨hi, rfl⟩ := rangeD_get hd
    refine ⟨_, rfl, fun K hK => ?_⟩
    try simp only [dSeq, dIf, dTest, dBin, dVar, dC, dAsg, dStore, dRet, dB, dCons, dNil, dTup, dLst, dLstM, dDrop, dM, dCall, dCallK, dTru, dNotT, dAndT, dOrT, dAndE, dOrE, dNotE, dIfE, dChain, dChain3, dNeg, dFor, dPar, dSlice, dPart, dNoPart, z_fld, dSetF, dRaise, dRz, dNext, dBreak, dCont, dRetN, dYes, dComp, iSeq, iRange1, iRange2, DL.iZip, DL.iEnum, startD, retD, asg, asgs, asT, gMod, gMul, DL.gSub, gGt, gGe, gFdiv, gPow, wipeD, finF, finM, perm,
    List.map_cons, List.map_nil, List.length_cons, List.length_nil, List.replicate, List.cons_append, List.nil_append, List.getElem?_cons_zero, List.getElem?_cons_succ, List.set, List.getD_cons_zero, List.getD_cons_succ, Option.some.injEq, exists_eq_left', exists_eq_left, D.int.injEq, D.bl.injEq, D.ref.injEq, D.str.injEq, List.cons.injEq, and_true, true_and, exists_and_left, exists_and_right, decide_eq_true_eq, Bool.false_eq_true, if_true, if_false, ite_true, ite_false, Nat.zero_add, Nat.reduceAdd, Nat.reduceSub,
    z_gI, z_add, z_lt, z_le, z_int, z_intb, z_ixr, z_ixt, z_ixk, z_ixs, z_ixl, z_asQ, z_asQt, z_asQk, z_asQs, z_asQl, z_asL, z_asLl, z_at0, z_at1, z_at2, z_store, z_i20, z_i21, z_eq, z_ne, z_max2, z_min2, z_addt, z_sl, z_trb, z_trt, z_trk, z_trl, z_trs, List.isEmpty_cons, List.isEmpty_nil, Bool.not_true, Bool.not_false, z_len, z_lenl, z_lenk, z_lenr, z_lens, MS.set_set, MS.set_same]
    refine ⟨z_isLU hpa, ?_⟩
    refine take_spec hb' hm' (by omega) (by omega) fun q b2 m2 q0 q1 hb2 hm2 => ?_
    try simp only [dSeq, dIf, dTest, dBin, dVar, dC, dAsg, dStore, dRet, dB, dCons, dNil, dTup, dLst, dLstM, dDrop, dM, dCall, dCallK, dTru, dNotT, dAndT, dOrT, dAndE, dOrE, dNotE, dIfE, dChain, dChain3, dNeg, dFor, dPar, dSlice, dPart, dNoPart, z_fld, dSetF, dRaise, dRz, dNext, dBreak, dCont, dRetN, dYes, dComp, iSeq, iRange1, iRange2, DL.iZip, DL.iEnum, startD, retD, asg, asgs, asT, gMod, gMul, DL.gSub, gGt, gGe, gFdiv, gPow, wipeD, finF, finM, perm,
    List.map_cons, List.map_nil, List.length_cons, List.length_nil, List.replicate, List.cons_append, List.nil_append, List.getElem?_cons_zero, List.getElem?_cons_succ, List.set, List.getD_cons_zero, List.getD_cons_succ, Option.some.injEq, exists_eq_left', exists_eq_left, D.int.injEq, D.bl.injEq, D.ref.injEq, D.str.injEq, List.cons.injEq, and_true, true_and, exists_and_left, exists_and_right, decide_eq_true_eq, Bool.false_eq_true, if_true, if_false, ite_true, ite_false, Nat.zero_add, Nat.reduceAdd, Nat.reduceSub,
    z_gI, z_add, z_lt, z_le, z_int, z_intb, z_ixr, z_ixt, z_ixk, z_ixs, z_ixl, z_asQ, z_asQt, z_asQk, z_asQs, z_asQl, z_asL, z_asLl, z_at0, z_at1, z_at2, z_store, z_i20, z_i21, z_eq, z_ne, z_max2, z_min2, z_addt, z_sl, z_trb, z_trt, z_trk, z_trl, z_trs, List.isEmpty_cons, List.isEmpty_nil, Bool.not_true, Bool.not_false, z_len, z_lenl, z_lenk, z_lenr, z_lens, MS.set_set, MS.set_same]
    refine one_spec (l := ls.map D.int) hb2 hm2 (.inr (.inl rfl)) (by simpa using hls.1) (by simp; omega) fun e he b3 m3 hb3 hm3 => ?_
    obtain ⟨w, hw', rfl⟩ := List.mem_map.mp he
    try simp only [dSeq, dIf, dTest, dBin, dVar, dC, dAsg, dStore, dRet, dB, dCons, dNil, dTup, dLst, dLstM, dDrop, dM, dCall, dCallK, dTru, dNotT, dAndT, dOrT, dAndE, dOrE, dNotE, dIfE, dChain, dChain3, dNeg, dFor, dPar, dSlice, dPart, dNoPart, z_fld, dSetF, dRaise, dRz, dNext, dBreak, dCont, dRetN, dYes, dComp, iSeq, iRange1, iRange2, DL.iZip, DL.iEnum, startD, retD, asg, asgs, asT, gMod, gMul, DL.gSub, gGt, gGe, gFdiv, gPow, wipeD, finF, finM, perm,
    List.map_cons, List.map_nil, List.length_cons, List.length_nil, List.replicate, List.cons_append, List.nil_append, List.getElem?_cons_zero, List.getElem?_cons_succ, List.set, List.getD_cons_zero, List.getD_cons_succ, Option.some.injEq, exists_eq_left', exists_eq_left, D.int.injEq, D.bl.injEq, D.ref.injEq, D.str.injEq, List.cons.injEq, and_true, true_and, exists_and_left, exists_and_right, decide_eq_true_eq, Bool.false_eq_true, if_true, if_false, ite_true, ite_false, Nat.zero_add, Nat.reduceAdd, Nat.reduceSub,
    z_gI, z_add, z_lt, z_le, z_int, z_intb, z_ixr, z_ixt, z_ixk, z_ixs, z_ixl, z_asQ, z_asQt, z_asQk, z_asQs, z_asQl, z_asL, z_asLl, z_at0, z_at1, z_at2, z_store, z_i20, z_i21, z_eq, z_ne, z_max2, z_min2, z_addt, z_sl, z_trb, z_trt, z_trk, z_trl, z_trs, List.isEmpty_cons, List.isEmpty_nil, Bool.not_true, Bool.not_false, z_len, z_lenl, z_lenk, z_lenr, z_lens, MS.set_set, MS.set_same]
    refine ⟨by decide, ?_⟩
    rw [z_appU hpa]
    refine ⟨by simp [hl]; have : sizeLine = 16777216 := sizeLine_eq; omega, ?_⟩
    refine hK _ _ ⟨l ++ [[q, 1 + (i : Nat), w]], b3, m3, _, hb3, hm3, rfl, by simp [tupOf], by simp [hl], fun r hr' => ?_, ?_, fun x x0 x1 => ?_⟩
    · rcases List.mem_append.mp hr' with z | z
      · obtain ⟨z1, z2⟩ := hr r z
        exact ⟨z1, by omega⟩
      · rw [List.mem_singleton.mp z]
        obtain ⟨w1, w2⟩ := hw w hw'
        exact ⟨⟨q, 1 + (i : Nat), w, rfl, q0, q1, by omega, w1, w2⟩, by show (1 + (i : Nat) : Int) < _; omega⟩
    · rw [List.map_append, List.nodup_append]
      refine ⟨hn, by simp, fun u hu v hv e => ?_⟩
      obtain ⟨r, hr1, rfl⟩ := List.mem_map.mp hu
      have hv' : v = (pr [q, 1 + (i : Nat), w]).2 := by simpa using hv
      have z := (hr r hr1).2
      have e' : (pr r).2 = v := e
      rw [e', hv'] at z
      exact absurd z (Int.lt_irrefl _)
    · by_cases hx : x < 1 + (i : Nat)
      · obtain ⟨p', w', z1, z2⟩ := hpar x x0 hx
        exact ⟨p', w', List.mem_append_left _ z1, z2⟩
      · have e : x = 1 + (i : Nat) := by omega
        subst e
        exact ⟨q, w, List.mem_append_right _ (List.mem_singleton.mpr rfl), q0, q1⟩
  · rintro ρ M ⟨l, b', m', o, hb', hm', rfl, rfl, hl, hr, hn, hpar⟩
    rw [rangeD_len] at hl hpar
    try simp only [dSeq, dIf, dTest, dBin, dVar, dC, dAsg, dStore, dRet, dB, dCons, dNil, dTup, dLst, dLstM, dDrop, dM, dCall, dCallK, dTru, dNotT, dAndT, dOrT, dAndE, dOrE, dNotE, dIfE, dChain, dChain3, dNeg, dFor, dPar, dSlice, dPart, dNoPart, z_fld, dSetF, dRaise, dRz, dNext, dBreak, dCont, dRetN, dYes, dComp, iSeq, iRange1, iRange2, DL.iZip, DL.iEnum, startD, retD, asg, asgs, asT, gMod, gMul, DL.gSub, gGt, gGe, gFdiv, gPow, wipeD, finF, finM, perm,
    List.map_cons, List.map_nil, List.length_cons, List.length_nil, List.replicate, List.cons_append, List.nil_append, List.getElem?_cons_zero, List.getElem?_cons_succ, List.set, List.getD_cons_zero, List.getD_cons_succ, Option.some.injEq, exists_eq_left', exists_eq_left, D.int.injEq, D.bl.injEq, D.ref.injEq, D.str.injEq, List.cons.injEq, and_true, true_and, exists_and_left, exists_and_right, decide_eq_true_eq, Bool.false_eq_true, if_true, if_false, ite_true, ite_false, Nat.zero_add, Nat.reduceAdd, Nat.reduceSub,
    z_gI, z_add, z_lt, z_le, z_int, z_intb, z_ixr, z_ixt, z_ixk, z_ixs, z_ixl, z_asQ, z_asQt, z_asQk, z_asQs, z_asQl, z_asL, z_asLl, z_at0, z_at1, z_at2, z_store, z_i20, z_i21, z_eq, z_ne, z_max2, z_min2, z_addt, z_sl, z_trb, z_trt, z_trk, z_trl, z_trs, List.isEmpty_cons, List.isEmpty_nil, Bool.not_true, Bool.not_false, z_len, z_lenl, z_lenk, z_lenr, z_lens, MS.set_set, MS.set_same]
    refine ⟨.ref p, l.map tupOf, l, rfl, asLU hpa, tupsI_of l, by omega, fun r hr' => bdi r (hr r hr').1, fun l' pm pw => ?_⟩
    refine ⟨.lst (l'.map tupOf), rfl, .inr ⟨_, rfl, ?_⟩⟩
    have hn' : (l.map pr).Nodup := List.pairwise_map.mpr ((List.pairwise_map.mp hn).imp fun h e => h (by rw [e]))
    have R0 : Rds many l := ⟨fun r hr' => (hr r hr').1, hn', fun x x0 x1 => hpar x x0 (by omega)⟩
    exact RetOk.drop hp0 hpa (k l' b' m' hb' hm' (R0.sorted (by omega) pm pw) ((pm.map _).nodup_iff.mpr hn) (by rw [pm.length_eq]; omega))
end LW

set_option Elab.async false
set_option maxRecDepth 100000
set_option maxHeartbeats 4000000
namespace DL
open PySem PySem.Spec L2
/-- a comprehension that changes nothing: what is let by P, by f -/
theorem comp_map {chk : MS → Prop} {ρw : Rho} {g : Tgt} {tt : TTD} {te : TED} {fin : List D → MS → Prop} {M : MS} (P : D → Bool) (f : D → D) (hc : chk M) : ∀ (ds acc : List D), (∀ d ∈ ds, ∃ ρ', asg g d ρw = some ρ' ∧ (∀ (Q : Bool → MS → Prop), Q (P d) M → tt ρ' M Q NoR) ∧ (P d = true → ∀ Q : QD, Q (f d) M → te ρ' M Q NoR)) →
    acc.length + ds.length < 16777216 → fin (acc ++ (ds.filter P).map f) M → dCompGo chk ρw g tt te fin ds acc M
  | [], acc, _, _, q => ⟨hc, by simpa using q⟩
  | d :: ds, acc, h, hl, q => by
    obtain ⟨ρ', e, h1, h2⟩ := h d List.mem_cons_self
    rw [List.length_cons] at hl
    refine ⟨hc, ρ', e, h1 _ ?_⟩
    cases hp : P d with
    | true =>
      rw [if_pos rfl]
      refine h2 hp _ ⟨by rw [sizeLine_eq]; omega, comp_map P f hc ds (acc ++ [f d]) (fun d' h' => h d' (List.mem_cons_of_mem _ h')) (by rw [List.length_append, List.length_singleton]; omega) ?_⟩
      rw [List.filter_cons_of_pos hp] at q
      simpa using q
    | false =>
      rw [if_neg Bool.false_ne_true]
      refine comp_map P f hc ds acc (fun d' h' => h d' (List.mem_cons_of_mem _ h')) (by omega) ?_
      rwa [List.filter_cons_of_neg (by rw [hp]; exact Bool.false_ne_true)] at q
/-- pairs as data -/
abbrev prTd (x : Int × Int) : D := .tup [.int x.1, .int x.2]
abbrev prTp (x : Int × Int) : PyData := .tuple [.int x.1, .int x.2]
theorem toPs_pr : ∀ l : List (Int × Int), toPs (l.map prTd) = some (l.map prTp)
  | [] => rfl
  | x :: l => by simp only [List.map_cons, toPs, toP, toPs_pr l]
theorem eqv_pr {x y : Int × Int} : PyData.eqv (prTp x) (prTp y) = decide (x = y) := by
  obtain ⟨a, b⟩ := x
  obtain ⟨c, d⟩ := y
  simp only [PyData.eqv, PyData.eqvAll, Bool.and_true, Prod.mk.injEq]
  by_cases h1 : a = c <;> by_cases h2 : b = d <;> simp [h1, h2]
theorem lay_pr : ∀ l : List (Int × Int), PyData.canLayAll0 (l.map prTp) = true
  | [] => rfl
  | x :: l => by simp only [List.map_cons, PyData.canLayAll0, PyData.canLay0, lay_pr l, Bool.and_true, Bool.and_self]
theorem dep_pr : ∀ l : List (Int × Int), PyData.depthAll (l.map prTp) ≤ 1
  | [] => Nat.zero_le _
  | x :: l => by
    have := dep_pr l
    simp only [List.map_cons, PyData.depthAll, PyData.depth]
    omega
theorem shaped_prs (l : List (Int × Int)) : SeqAt.shaped (.list (l.map prTp)) = true := by
  have := dep_pr l
  simp only [SeqAt.shaped, PyData.canLay0, lay_pr, PyData.depth, Bool.true_and]
  exact decide_eq_true (by omega)
theorem shaped_pr (x : Int × Int) : SeqAt.shaped (prTp x) = true := by
  simp [SeqAt.shaped, PyData.canLay0, PyData.canLayAll0, PyData.depth, PyData.depthAll]
theorem any_pr {x : Int × Int} {l : List (Int × Int)} : ((l.map prTp).any fun z => PyData.eqv z (prTp x)) = decide (x ∈ l) := by
  induction l with
  | nil => rfl
  | cons y l ih =>
    rw [List.map_cons, List.any_cons, ih, eqv_pr]
    by_cases h : y = x
    · subst h; simp
    · simp [h, Ne.symm h]
theorem in_prs {M : MS} {x : Int × Int} {l : List (Int × Int)} {Q : QD} (q : Q (.bl (!decide (x ∈ l))) M) : gIn true (prTd x) (.lst (l.map prTd)) M Q :=
  .inl ⟨_, prTp x, _, rfl, by simp only [toPM, toP, toPs], toPs_pr l, shaped_pr x, shaped_prs l, by rw [if_pos rfl, any_pr]; exact q⟩
theorem cut2 {a b c : D} : cutD [a, b, c] none (some 2) = [a, b] := by
  simp [cutD, HT.sIx]
theorem RetOk.drop2 {Q : QD} {d : D} {M0 : MS} {a p q : Addr} {s l f : MO} (hp : M0 p = none) (hq : M0 q = none) (w : Q d (M0.set a s)) : RetOk Q d (((M0.set p l).set q f).set a s) := by
  refine ⟨d, M0.set a s, fun c o e => ?_, .refl d, w⟩
  by_cases h : c = a
  · subst h; rw [MS.set_same] at e ⊢; exact e
  · rw [MS.set_ne h] at e ⊢
    rw [MS.set_ne (fun z => by rw [z, hq] at e; cases e), MS.set_ne (fun z => by rw [z, hp] at e; cases e)]; exact e
theorem inj_of_nodup {α β : Type} {f : α → β} : ∀ {l : List α}, (l.map f).Nodup → ∀ {r s : α}, r ∈ l → s ∈ l → f r = f s → r = s
  | x :: l, h, r, s, hr, hs, e => by
    rw [List.map_cons, List.nodup_cons] at h
    rcases List.mem_cons.mp hr with e1 | hr'
    · rcases List.mem_cons.mp hs with e2 | hs'
      · rw [e1, e2]
      · exact (h.1 (by rw [← e1, e]; exact List.mem_map_of_mem hs')).elim
    · rcases List.mem_cons.mp hs with e2 | hs'
      · exact (h.1 (by rw [← e2, ← e]; exact List.mem_map_of_mem hr')).elim
      · exact inj_of_nodup h.2 hr' hs' e
theorem tupOf_pr {many : Int} {r : List Int} (h : IsRd many r) : ∃ w, r = [(pr r).1, (pr r).2, w] := by
  obtain ⟨p, q, w, rfl, _⟩ := h
  exact ⟨w, rfl⟩
section
variable {M0 B : MS} {a p q : Addr} {s : MO} {l f xs ys : List D}
theorem asLU2 (hpa : p ≠ a) (hpq : p ≠ q) : asL (((M0.set p (.lst l)).set q (.lst f)).set a s) (.ref p) = some l := by simp [asL, MS.set_ne hpa, MS.set_ne hpq, MS.set_same]
theorem extU {Q : QD} (h : q ≠ a) (hl : xs.length + ys.length ≤ sizeLine) (w : Q .non ((B.set q (.lst (xs ++ ys))).set a s)) : gExtend (.ref q) [.lst ys] ((B.set q (.lst xs)).set a s) Q :=
  ⟨q, .lst ys, xs, ys, rfl, rfl, by rw [MS.set_ne h, MS.set_same], rfl, hl, by rw [MS.under h]; exact w⟩
theorem app2 {Q : QD} {y : D} (hpa : p ≠ a) (hpq : p ≠ q) (hl : l.length < sizeLine) (w : Q .non (((M0.set p (.lst (l ++ [y]))).set q (.lst f)).set a s)) : gAppend (.ref p) [y] (((M0.set p (.lst l)).set q (.lst f)).set a s) Q := by
  refine ⟨p, l, y, rfl, rfl, by rw [MS.set_ne hpa, MS.set_ne hpq, MS.set_same], hl, ?_⟩
  rw [MS.comm hpa, MS.comm hpq, MS.set_set]
  exact w
theorem isL2 (hpa : p ≠ a) (hpq : p ≠ q) : isLst (((M0.set p (.lst l)).set q (.lst f)).set a s) (.ref p) := ⟨l, asLU2 hpa hpq⟩
end
/-- the road's two ends -/
def endsD (d : D) : D := match asT d with
  | some [x, y, _] => .tup [x, y]
  | _ => d
theorem ends_of {many : Int} {l : List (List Int)} (h : ∀ r ∈ l, IsRd many r) : (l.map tupOf).map endsD = (l.map pr).map prTd := by
  rw [List.map_map, List.map_map]
  refine List.map_congr_left fun r hr => ?_
  obtain ⟨p, q, w, rfl, _⟩ := h r hr
  rfl
/-- the pairs (0, x), (1, x), .. that do not stand in u -/
def freeAt (u : List (Int × Int)) (x : Int) (n : Nat) : List (Int × Int) := ((List.range n).map fun (i : Nat) => ((i : Int), x)).filter fun y => !decide (y ∈ u)
def letP (u : List (Int × Int)) (x : Int) (d : D) : Bool := match d with
  | .int p => !decide ((p, x) ∈ u)
  | _ => false
def mkP (x : Int) (d : D) : D := match d with
  | .int p => prTd (p, x)
  | d => d
theorem free_of (u : List (Int × Int)) (x : Int) (n : Nat) : ((rangeD 0 n).filter (letP u x)).map (mkP x) = (freeAt u x n).map prTd := by
  unfold rangeD freeAt
  rw [List.filter_map, List.filter_map, List.map_map, List.map_map]
  have e : (letP u x ∘ fun i : Nat => D.int (0 + (i : Int))) = ((fun y => !decide (y ∈ u)) ∘ fun i : Nat => ((i : Int), x)) := by
    funext i; simp [letP, Function.comp]
  rw [e]
  refine List.map_congr_left fun i _ => ?_
  simp [mkP, Function.comp]
end DL
namespace LW
open PySem PySem.Spec L2 DL
theorem one_specR {G : GEnv} {a q : Addr} {B : MS} {Q : QD} {R : RK} {l : List D} {b m : Int} (hqa : q ≠ a) (hb : 0 ≤ b) (hm : 0 ≤ m) (hl : 0 < l.length) (hl2 : l.length < 1000000) (k : ∀ d ∈ l, ∀ b' m', 0 ≤ b' → 0 ≤ m' → Q d ((B.set q (.lst l)).set a (src b' m'))) :
    sp__law_one G [.ref a, .ref q] ((B.set q (.lst l)).set a (src b m)) Q R := by
  refine ⟨rfl, ?_⟩
  have hq : ∀ s, asQ ((B.set q (.lst l)).set a s) (.ref q) = some l := fun s => by simp [asQ, asLU hqa]
  have hk : ∀ s, asDK ((B.set q (.lst l)).set a s) (.ref q) = none := fun s => by simp [asDK, MS.set_ne hqa, MS.set_same]
  have ht : ∀ s, asDT ((B.set q (.lst l)).set a s) (.ref q) = none := fun s => by simp [asDT, MS.set_ne hqa, MS.set_same]
  simp only [T__law_one, dSeq, dIf, dTest, dBin, dVar, dC, dAsg, dStore, dRet, dB, dCons, dNil, dTup, dLst, dLstM, dDrop, dM, dCall, dCallK, dTru, dNotT, dAndT, dOrT, dAndE, dOrE, dNotE, dIfE, dChain, dChain3, dNeg, dFor, dPar, dSlice, dPart, dNoPart, z_fld, dSetF, dRaise, dRz, dNext, dBreak, dCont, dRetN, dYes, dComp, iSeq, iRange1, iRange2, DL.iZip, DL.iEnum, startD, retD, asg, asgs, asT, gMod, gMul, DL.gSub, gGt, gGe, gFdiv, gPow, wipeD, finF, finM, perm,
    List.map_cons, List.map_nil, List.length_cons, List.length_nil, List.replicate, List.cons_append, List.nil_append, List.getElem?_cons_zero, List.getElem?_cons_succ, List.set, List.getD_cons_zero, List.getD_cons_succ, Option.some.injEq, exists_eq_left', exists_eq_left, D.int.injEq, D.bl.injEq, D.ref.injEq, D.str.injEq, List.cons.injEq, and_true, true_and, exists_and_left, exists_and_right, decide_eq_true_eq, Bool.false_eq_true, if_true, if_false, ite_true, ite_false, Nat.zero_add, Nat.reduceAdd, Nat.reduceSub,
    z_gI, z_add, z_lt, z_le, z_int, z_intb, z_ixr, z_ixt, z_ixk, z_ixs, z_ixl, z_asQ, z_asQt, z_asQk, z_asQs, z_asQl, z_asL, z_asLl, z_at0, z_at1, z_at2, z_store, z_i20, z_i21, z_eq, z_ne, z_max2, z_min2, z_addt, z_sl, z_trb, z_trt, z_trk, z_trl, z_trs, List.isEmpty_cons, List.isEmpty_nil, Bool.not_true, Bool.not_false, z_len, z_lenl, z_lenk, z_lenr, z_lens, MS.set_set, MS.set_same]
  refine ⟨.ref q, rfl, .inl ⟨l, hq _, ?_⟩⟩
  refine take_spec hb hm (by omega) (by omega) fun d b' m' h1 h2 h3 h4 => ?_
  rw [z_ix (hq _) (hk _) (ht _)]
  obtain ⟨n, rfl⟩ := Int.eq_ofNat_of_zero_le h1
  have hn : n < l.length := by omega
  exact ⟨l[n], by rw [at_nat hn]; simp [hn], RetOk.of (k _ (List.getElem_mem hn) b' m' h3 h4)⟩
theorem web_spec {G : GEnv} {a : Addr} {M0 : MS} {Q : QD} {R : RK} {ms ls : List Int} {b m : Int} (hb : 0 ≤ b) (hm : 0 ≤ m) (hms : 0 < ms.length ∧ ms.length < 1000) (hmw : ∀ w ∈ ms, 1 ≤ w ∧ w ≤ 6) (hls : 0 < ls.length ∧ ls.length < 1000) (hw : ∀ w ∈ ls, 1 ≤ w ∧ w ≤ 100)
    (k : ∀ many ∈ ms, ∀ l b' m', 0 ≤ b' → 0 ≤ m' → RdsS many l → l.length ≤ 20 → Q (.tup [.int many, .tup (l.map tupOf)]) (M0.set a (src b' m'))) :
    sp__law_web G [.ref a, .lst (ms.map D.int), .lst (ls.map D.int)] (M0.set a (src b m)) Q R := by
  refine ⟨rfl, ?_⟩
  simp only [T__law_web, dSeq, dIf, dTest, dBin, dVar, dC, dAsg, dStore, dRet, dB, dCons, dNil, dTup, dLst, dLstM, dDrop, dM, dCall, dCallK, dTru, dNotT, dAndT, dOrT, dAndE, dOrE, dNotE, dIfE, dChain, dChain3, dNeg, dFor, dPar, dSlice, dPart, dNoPart, z_fld, dSetF, dRaise, dRz, dNext, dBreak, dCont, dRetN, dYes, dComp, iSeq, iRange1, iRange2, DL.iZip, DL.iEnum, startD, retD, asg, asgs, asT, gMod, gMul, DL.gSub, gGt, gGe, gFdiv, gPow, wipeD, finF, finM, perm,
    List.map_cons, List.map_nil, List.length_cons, List.length_nil, List.replicate, List.cons_append, List.nil_append, List.getElem?_cons_zero, List.getElem?_cons_succ, List.set, List.getD_cons_zero, List.getD_cons_succ, Option.some.injEq, exists_eq_left', exists_eq_left, D.int.injEq, D.bl.injEq, D.ref.injEq, D.str.injEq, List.cons.injEq, and_true, true_and, exists_and_left, exists_and_right, decide_eq_true_eq, Bool.false_eq_true, if_true, if_false, ite_true, ite_false, Nat.zero_add, Nat.reduceAdd, Nat.reduceSub,
    z_gI, z_add, z_lt, z_le, z_int, z_intb, z_ixr, z_ixt, z_ixk, z_ixs, z_ixl, z_asQ, z_asQt, z_asQk, z_asQs, z_asQl, z_asL, z_asLl, z_at0, z_at1, z_at2, z_store, z_i20, z_i21, z_eq, z_ne, z_max2, z_min2, z_addt, z_sl, z_trb, z_trt, z_trk, z_trl, z_trs, List.isEmpty_cons, List.isEmpty_nil, Bool.not_true, Bool.not_false, z_len, z_lenl, z_lenk, z_lenr, z_lens, MS.set_set, MS.set_same]
  refine one_spec (l := ms.map D.int) hb hm (.inr (.inl rfl)) (by simpa using hms.1) (by simp; omega) fun e he b1 m1 hb1 hm1 => ?_
  obtain ⟨many, hmany, rfl⟩ := List.mem_map.mp he
  obtain ⟨hm1', hm6⟩ := hmw many hmany
  try simp only [dSeq, dIf, dTest, dBin, dVar, dC, dAsg, dStore, dRet, dB, dCons, dNil, dTup, dLst, dLstM, dDrop, dM, dCall, dCallK, dTru, dNotT, dAndT, dOrT, dAndE, dOrE, dNotE, dIfE, dChain, dChain3, dNeg, dFor, dPar, dSlice, dPart, dNoPart, z_fld, dSetF, dRaise, dRz, dNext, dBreak, dCont, dRetN, dYes, dComp, iSeq, iRange1, iRange2, DL.iZip, DL.iEnum, startD, retD, asg, asgs, asT, gMod, gMul, DL.gSub, gGt, gGe, gFdiv, gPow, wipeD, finF, finM, perm,
    List.map_cons, List.map_nil, List.length_cons, List.length_nil, List.replicate, List.cons_append, List.nil_append, List.getElem?_cons_zero, List.getElem?_cons_succ, List.set, List.getD_cons_zero, List.getD_cons_succ, Option.some.injEq, exists_eq_left', exists_eq_left, D.int.injEq, D.bl.injEq, D.ref.injEq, D.str.injEq, List.cons.injEq, and_true, true_and, exists_and_left, exists_and_right, decide_eq_true_eq, Bool.false_eq_true, if_true, if_false, ite_true, ite_false, Nat.zero_add, Nat.reduceAdd, Nat.reduceSub,
    z_gI, z_add, z_lt, z_le, z_int, z_intb, z_ixr, z_ixt, z_ixk, z_ixs, z_ixl, z_asQ, z_asQt, z_asQk, z_asQs, z_asQl, z_asL, z_asLl, z_at0, z_at1, z_at2, z_store, z_i20, z_i21, z_eq, z_ne, z_max2, z_min2, z_addt, z_sl, z_trb, z_trt, z_trk, z_trl, z_trs, List.isEmpty_cons, List.isEmpty_nil, Bool.not_true, Bool.not_false, z_len, z_lenl, z_lenk, z_lenr, z_lens, MS.set_set, MS.set_same]
  refine tree_spec hb1 hm1 hm1' (by omega) hls hw fun l b2 m2 hb2 hm2 hl hq hlen => ?_
  simp only [gList, dSeq, dIf, dTest, dBin, dVar, dC, dAsg, dStore, dRet, dB, dCons, dNil, dTup, dLst, dLstM, dDrop, dM, dCall, dCallK, dTru, dNotT, dAndT, dOrT, dAndE, dOrE, dNotE, dIfE, dChain, dChain3, dNeg, dFor, dPar, dSlice, dPart, dNoPart, z_fld, dSetF, dRaise, dRz, dNext, dBreak, dCont, dRetN, dYes, dComp, iSeq, iRange1, iRange2, DL.iZip, DL.iEnum, startD, retD, asg, asgs, asT, gMod, gMul, DL.gSub, gGt, gGe, gFdiv, gPow, wipeD, finF, finM, perm,
    List.map_cons, List.map_nil, List.length_cons, List.length_nil, List.replicate, List.cons_append, List.nil_append, List.getElem?_cons_zero, List.getElem?_cons_succ, List.set, List.getD_cons_zero, List.getD_cons_succ, Option.some.injEq, exists_eq_left', exists_eq_left, D.int.injEq, D.bl.injEq, D.ref.injEq, D.str.injEq, List.cons.injEq, and_true, true_and, exists_and_left, exists_and_right, decide_eq_true_eq, Bool.false_eq_true, if_true, if_false, ite_true, ite_false, Nat.zero_add, Nat.reduceAdd, Nat.reduceSub,
    z_gI, z_add, z_lt, z_le, z_int, z_intb, z_ixr, z_ixt, z_ixk, z_ixs, z_ixl, z_asQ, z_asQt, z_asQk, z_asQs, z_asQl, z_asL, z_asLl, z_at0, z_at1, z_at2, z_store, z_i20, z_i21, z_eq, z_ne, z_max2, z_min2, z_addt, z_sl, z_trb, z_trt, z_trk, z_trl, z_trs, List.isEmpty_cons, List.isEmpty_nil, Bool.not_true, Bool.not_false, z_len, z_lenl, z_lenk, z_lenr, z_lens, MS.set_set, MS.set_same]
  intro p hp
  obtain ⟨hpa, hp0⟩ := MS.fresh hp
  rw [MS.comm hpa]
  have bdi : ∀ r, IsRd many r → r.length = 3 ∧ TS.Bd 4294967296 r := fun r h => h.bd (by omega)
  have hll : l.length ≤ 10 := by omega
  -- nothing put in
  have plain : ∀ b3 m3, 0 ≤ b3 → 0 ≤ m3 → gSortedT 3 4294967296 finF [D.ref p] ((M0.set p (.lst (l.map tupOf))).set a (src b3 m3)) fun d M1 => gTuple [d] M1 fun d M1 => 2 ≤ sizeLine ∧ RetOk Q (D.tup [D.int many, d]) M1 := fun b3 m3 hb3 hm3 => by
    refine ⟨.ref p, l.map tupOf, l, rfl, asLU hpa, tupsI_of l, by omega, fun r hr' => bdi r (hl.rd r hr'), fun l' pm pw => ?_⟩
    refine ⟨.lst (l'.map tupOf), rfl, .inr ⟨_, rfl, by decide, ?_⟩⟩
    exact RetOk.drop hp0 hpa (k many hmany l' b3 m3 hb3 hm3 (hl.toRds.sorted (by omega) pm pw) (by rw [pm.length_eq]; omega))
  by_cases h2 : 2 < many
  · rw [if_pos h2]
    refine take_spec hb2 hm2 (by decide) (by decide) fun t b3 m3 t0 t1 hb3 hm3 => ?_
    try simp only [dSeq, dIf, dTest, dBin, dVar, dC, dAsg, dStore, dRet, dB, dCons, dNil, dTup, dLst, dLstM, dDrop, dM, dCall, dCallK, dTru, dNotT, dAndT, dOrT, dAndE, dOrE, dNotE, dIfE, dChain, dChain3, dNeg, dFor, dPar, dSlice, dPart, dNoPart, z_fld, dSetF, dRaise, dRz, dNext, dBreak, dCont, dRetN, dYes, dComp, iSeq, iRange1, iRange2, DL.iZip, DL.iEnum, startD, retD, asg, asgs, asT, gMod, gMul, DL.gSub, gGt, gGe, gFdiv, gPow, wipeD, finF, finM, perm,
    List.map_cons, List.map_nil, List.length_cons, List.length_nil, List.replicate, List.cons_append, List.nil_append, List.getElem?_cons_zero, List.getElem?_cons_succ, List.set, List.getD_cons_zero, List.getD_cons_succ, Option.some.injEq, exists_eq_left', exists_eq_left, D.int.injEq, D.bl.injEq, D.ref.injEq, D.str.injEq, List.cons.injEq, and_true, true_and, exists_and_left, exists_and_right, decide_eq_true_eq, Bool.false_eq_true, if_true, if_false, ite_true, ite_false, Nat.zero_add, Nat.reduceAdd, Nat.reduceSub,
    z_gI, z_add, z_lt, z_le, z_int, z_intb, z_ixr, z_ixt, z_ixk, z_ixs, z_ixl, z_asQ, z_asQt, z_asQk, z_asQs, z_asQl, z_asL, z_asLl, z_at0, z_at1, z_at2, z_store, z_i20, z_i21, z_eq, z_ne, z_max2, z_min2, z_addt, z_sl, z_trb, z_trt, z_trk, z_trl, z_trs, List.isEmpty_cons, List.isEmpty_nil, Bool.not_true, Bool.not_false, z_len, z_lenl, z_lenk, z_lenr, z_lens, MS.set_set, MS.set_same]
    by_cases ht : t = 0
    · rw [if_pos ht]
      refine ⟨by decide, fun q hq0' => ?_⟩
      obtain ⟨hqa, hq0⟩ := MS.fresh hq0'
      have hpq : p ≠ q := fun z => by rw [z, MS.set_same] at hq0; cases hq0
      have hq00 : M0 q = none := by rw [MS.set_ne (Ne.symm hpq)] at hq0; exact hq0
      rw [MS.comm hqa]
      have hpp : asQ (((M0.set p (.lst (l.map tupOf))).set q (.lst [])).set a (src b3 m3)) (.ref p) = some (l.map tupOf) := by simp [asQ, asLU2 hpa hpq]
      refine ⟨_, hpp, ?_⟩
      refine comp_map (fun _ => true) endsD hpp _ _ (fun d hd => ?_) (by simp; omega) ?_
      · obtain ⟨r, hr, rfl⟩ := List.mem_map.mp hd
        obtain ⟨p', q', w', rfl, _⟩ := hl.rd r hr
        refine ⟨_, rfl, fun Q q => q, fun _ Q q => ?_⟩
        simp only [dSeq, dIf, dTest, dBin, dVar, dC, dAsg, dStore, dRet, dB, dCons, dNil, dTup, dLst, dLstM, dDrop, dM, dCall, dCallK, dTru, dNotT, dAndT, dOrT, dAndE, dOrE, dNotE, dIfE, dChain, dChain3, dNeg, dFor, dPar, dSlice, dPart, dNoPart, z_fld, dSetF, dRaise, dRz, dNext, dBreak, dCont, dRetN, dYes, dComp, iSeq, iRange1, iRange2, DL.iZip, DL.iEnum, startD, retD, asg, asgs, asT, gMod, gMul, DL.gSub, gGt, gGe, gFdiv, gPow, wipeD, finF, finM, perm,
    List.map_cons, List.map_nil, List.length_cons, List.length_nil, List.replicate, List.cons_append, List.nil_append, List.getElem?_cons_zero, List.getElem?_cons_succ, List.set, List.getD_cons_zero, List.getD_cons_succ, Option.some.injEq, exists_eq_left', exists_eq_left, D.int.injEq, D.bl.injEq, D.ref.injEq, D.str.injEq, List.cons.injEq, and_true, true_and, exists_and_left, exists_and_right, decide_eq_true_eq, Bool.false_eq_true, if_true, if_false, ite_true, ite_false, Nat.zero_add, Nat.reduceAdd, Nat.reduceSub,
    z_gI, z_add, z_lt, z_le, z_int, z_intb, z_ixr, z_ixt, z_ixk, z_ixs, z_ixl, z_asQ, z_asQt, z_asQk, z_asQs, z_asQl, z_asL, z_asLl, z_at0, z_at1, z_at2, z_store, z_i20, z_i21, z_eq, z_ne, z_max2, z_min2, z_addt, z_sl, z_trb, z_trt, z_trk, z_trl, z_trs, List.isEmpty_cons, List.isEmpty_nil, Bool.not_true, Bool.not_false, z_len, z_lenl, z_lenk, z_lenr, z_lens, MS.set_set, MS.set_same]
        exact z_sl.mpr (by rw [show [p', q', w'].map D.int = [D.int p', .int q', .int w'] from rfl, cut2]; exact q)
      · rw [List.filter_eq_self.mpr fun _ _ => rfl, ends_of hl.rd, List.nil_append]
        refine ⟨by decide, by omega, by omega, ?_⟩
        refine for_inv (fun i ρ M => ∃ (fs : List (Int × Int)) (b' m' : Int) (o : Option D), 0 ≤ b' ∧ 0 ≤ m' ∧ ρ = [some (.ref a), some (.lst (ms.map D.int)), some (.lst (ls.map D.int)), some (.int many), some (.ref p), some (.ref q), some (.lst ((l.map pr).map prTd)), none, o, none] ∧
          M = ((M0.set p (.lst (l.map tupOf))).set q (.lst (fs.map prTd))).set a (src b' m') ∧ fs.length ≤ 10 * i ∧ (∀ y ∈ fs, 0 ≤ y.1 ∧ y.1 < y.2 ∧ y.2 < i ∧ y ∉ l.map pr) ∧ ∀ x y : Int, 0 ≤ x → x < y → y < i → (x, y) ∉ l.map pr → (x, y) ∈ fs) (fun _ _ _ _ => trivial) ?_ ?_
          ⟨[], b3, m3, none, hb3, hm3, rfl, rfl, Nat.zero_le _, fun y hy => (by cases hy), fun x y h1 h2 h3 => (by omega)⟩
        · rintro i d ρ M hd ⟨fs, b', m', o, hb', hm', rfl, rfl, hl1, hl2, hl3⟩
          obtain ⟨hi, rfl⟩ := rangeD_get hd
          have hi10 : i < 10 := by omega
          refine ⟨_, rfl, fun K hK => ?_⟩
          simp only [Int.zero_add, dSeq, dIf, dTest, dBin, dVar, dC, dAsg, dStore, dRet, dB, dCons, dNil, dTup, dLst, dLstM, dDrop, dM, dCall, dCallK, dTru, dNotT, dAndT, dOrT, dAndE, dOrE, dNotE, dIfE, dChain, dChain3, dNeg, dFor, dPar, dSlice, dPart, dNoPart, z_fld, dSetF, dRaise, dRz, dNext, dBreak, dCont, dRetN, dYes, dComp, iSeq, iRange1, iRange2, DL.iZip, DL.iEnum, startD, retD, asg, asgs, asT, gMod, gMul, DL.gSub, gGt, gGe, gFdiv, gPow, wipeD, finF, finM, perm,
    List.map_cons, List.map_nil, List.length_cons, List.length_nil, List.replicate, List.cons_append, List.nil_append, List.getElem?_cons_zero, List.getElem?_cons_succ, List.set, List.getD_cons_zero, List.getD_cons_succ, Option.some.injEq, exists_eq_left', exists_eq_left, D.int.injEq, D.bl.injEq, D.ref.injEq, D.str.injEq, List.cons.injEq, and_true, true_and, exists_and_left, exists_and_right, decide_eq_true_eq, Bool.false_eq_true, if_true, if_false, ite_true, ite_false, Nat.zero_add, Nat.reduceAdd, Nat.reduceSub,
    z_gI, z_add, z_lt, z_le, z_int, z_intb, z_ixr, z_ixt, z_ixk, z_ixs, z_ixl, z_asQ, z_asQt, z_asQk, z_asQs, z_asQl, z_asL, z_asLl, z_at0, z_at1, z_at2, z_store, z_i20, z_i21, z_eq, z_ne, z_max2, z_min2, z_addt, z_sl, z_trb, z_trt, z_trk, z_trl, z_trs, List.isEmpty_cons, List.isEmpty_nil, Bool.not_true, Bool.not_false, z_len, z_lenl, z_lenk, z_lenr, z_lens, MS.set_set, MS.set_same]
          refine ⟨⟨_, asLU hqa⟩, by omega, by omega, ?_⟩
          refine comp_map (letP (l.map pr) i) (mkP i) trivial _ _ (fun d hd => ?_) (by rw [rangeD_len]; simp; omega) ?_
          · obtain ⟨j, hj⟩ := List.getElem?_of_mem hd
            obtain ⟨hj1, rfl⟩ := rangeD_get hj
            refine ⟨_, rfl, fun Q q => ?_, fun _ Q q => ?_⟩
            · rw [Int.zero_add] at q
              simp only [Int.zero_add, dSeq, dIf, dTest, dBin, dVar, dC, dAsg, dStore, dRet, dB, dCons, dNil, dTup, dLst, dLstM, dDrop, dM, dCall, dCallK, dTru, dNotT, dAndT, dOrT, dAndE, dOrE, dNotE, dIfE, dChain, dChain3, dNeg, dFor, dPar, dSlice, dPart, dNoPart, z_fld, dSetF, dRaise, dRz, dNext, dBreak, dCont, dRetN, dYes, dComp, iSeq, iRange1, iRange2, DL.iZip, DL.iEnum, startD, retD, asg, asgs, asT, gMod, gMul, DL.gSub, gGt, gGe, gFdiv, gPow, wipeD, finF, finM, perm,
    List.map_cons, List.map_nil, List.length_cons, List.length_nil, List.replicate, List.cons_append, List.nil_append, List.getElem?_cons_zero, List.getElem?_cons_succ, List.set, List.getD_cons_zero, List.getD_cons_succ, Option.some.injEq, exists_eq_left', exists_eq_left, D.int.injEq, D.bl.injEq, D.ref.injEq, D.str.injEq, List.cons.injEq, and_true, true_and, exists_and_left, exists_and_right, decide_eq_true_eq, Bool.false_eq_true, if_true, if_false, ite_true, ite_false, Nat.zero_add, Nat.reduceAdd, Nat.reduceSub,
    z_gI, z_add, z_lt, z_le, z_int, z_intb, z_ixr, z_ixt, z_ixk, z_ixs, z_ixl, z_asQ, z_asQt, z_asQk, z_asQs, z_asQl, z_asL, z_asLl, z_at0, z_at1, z_at2, z_store, z_i20, z_i21, z_eq, z_ne, z_max2, z_min2, z_addt, z_sl, z_trb, z_trt, z_trk, z_trl, z_trs, List.isEmpty_cons, List.isEmpty_nil, Bool.not_true, Bool.not_false, z_len, z_lenl, z_lenk, z_lenr, z_lens, MS.set_set, MS.set_same]
              refine ⟨by decide, in_prs (x := ((j : Int), (i : Int))) ?_⟩
              exact ⟨_, rfl, q⟩
            · simp only [Int.zero_add, dSeq, dIf, dTest, dBin, dVar, dC, dAsg, dStore, dRet, dB, dCons, dNil, dTup, dLst, dLstM, dDrop, dM, dCall, dCallK, dTru, dNotT, dAndT, dOrT, dAndE, dOrE, dNotE, dIfE, dChain, dChain3, dNeg, dFor, dPar, dSlice, dPart, dNoPart, z_fld, dSetF, dRaise, dRz, dNext, dBreak, dCont, dRetN, dYes, dComp, iSeq, iRange1, iRange2, DL.iZip, DL.iEnum, startD, retD, asg, asgs, asT, gMod, gMul, DL.gSub, gGt, gGe, gFdiv, gPow, wipeD, finF, finM, perm,
    List.map_cons, List.map_nil, List.length_cons, List.length_nil, List.replicate, List.cons_append, List.nil_append, List.getElem?_cons_zero, List.getElem?_cons_succ, List.set, List.getD_cons_zero, List.getD_cons_succ, Option.some.injEq, exists_eq_left', exists_eq_left, D.int.injEq, D.bl.injEq, D.ref.injEq, D.str.injEq, List.cons.injEq, and_true, true_and, exists_and_left, exists_and_right, decide_eq_true_eq, Bool.false_eq_true, if_true, if_false, ite_true, ite_false, Nat.zero_add, Nat.reduceAdd, Nat.reduceSub,
    z_gI, z_add, z_lt, z_le, z_int, z_intb, z_ixr, z_ixt, z_ixk, z_ixs, z_ixl, z_asQ, z_asQt, z_asQk, z_asQs, z_asQl, z_asL, z_asLl, z_at0, z_at1, z_at2, z_store, z_i20, z_i21, z_eq, z_ne, z_max2, z_min2, z_addt, z_sl, z_trb, z_trt, z_trk, z_trl, z_trs, List.isEmpty_cons, List.isEmpty_nil, Bool.not_true, Bool.not_false, z_len, z_lenl, z_lenk, z_lenr, z_lens, MS.set_set, MS.set_same]
              refine ⟨by decide, ?_⟩
              simpa [mkP] using q
          · rw [free_of, List.nil_append, Int.toNat_natCast]
            have hfl : (freeAt (l.map pr) i i).length ≤ i := by
              refine Nat.le_trans (List.length_filter_le _ _) (by simp)
            refine extU hqa (by rw [sizeLine_eq]; simp; omega) (hK _ _ ⟨fs ++ freeAt (l.map pr) i i, b', m', _, hb', hm', rfl, by rw [List.map_append], by rw [List.length_append]; omega, fun y hy => ?_, fun x y h1 h2 h3 h4 => ?_⟩)
            · rcases List.mem_append.mp hy with z | z
              · obtain ⟨z1, z2, z3, z4⟩ := hl2 y z
                exact ⟨z1, z2, by omega, z4⟩
              · obtain ⟨z1, z2⟩ := List.mem_filter.mp z
                obtain ⟨j, hj, rfl⟩ := List.mem_map.mp z1
                have hj' := List.mem_range.mp hj
                refine ⟨Int.natCast_nonneg _, ?_, ?_, by simpa using z2⟩
                · show ((j : Nat) : Int) < (i : Nat); omega
                · show ((i : Nat) : Int) < _; omega
            · by_cases hy : y < (i : Nat)
              · exact List.mem_append_left _ (hl3 x y h1 h2 hy h4)
              · have ey : y = (i : Nat) := by omega
                subst ey
                refine List.mem_append_right _ (List.mem_filter.mpr ⟨List.mem_map.mpr ⟨x.toNat, List.mem_range.mpr (by omega), ?_⟩, by simpa using h4⟩)
                rw [Int.toNat_of_nonneg h1]
        · rintro ρ M ⟨fs, b', m', o, hb', hm', rfl, rfl, hl1, hl2, hl3⟩
          rw [rangeD_len] at hl1 hl2 hl3
          simp only [dSeq, dIf, dTest, dBin, dVar, dC, dAsg, dStore, dRet, dB, dCons, dNil, dTup, dLst, dLstM, dDrop, dM, dCall, dCallK, dTru, dNotT, dAndT, dOrT, dAndE, dOrE, dNotE, dIfE, dChain, dChain3, dNeg, dFor, dPar, dSlice, dPart, dNoPart, z_fld, dSetF, dRaise, dRz, dNext, dBreak, dCont, dRetN, dYes, dComp, iSeq, iRange1, iRange2, DL.iZip, DL.iEnum, startD, retD, asg, asgs, asT, gMod, gMul, DL.gSub, gGt, gGe, gFdiv, gPow, wipeD, finF, finM, perm,
    List.map_cons, List.map_nil, List.length_cons, List.length_nil, List.replicate, List.cons_append, List.nil_append, List.getElem?_cons_zero, List.getElem?_cons_succ, List.set, List.getD_cons_zero, List.getD_cons_succ, Option.some.injEq, exists_eq_left', exists_eq_left, D.int.injEq, D.bl.injEq, D.ref.injEq, D.str.injEq, List.cons.injEq, and_true, true_and, exists_and_left, exists_and_right, decide_eq_true_eq, Bool.false_eq_true, if_true, if_false, ite_true, ite_false, Nat.zero_add, Nat.reduceAdd, Nat.reduceSub,
    z_gI, z_add, z_lt, z_le, z_int, z_intb, z_ixr, z_ixt, z_ixk, z_ixs, z_ixl, z_asQ, z_asQt, z_asQk, z_asQs, z_asQl, z_asL, z_asLl, z_at0, z_at1, z_at2, z_store, z_i20, z_i21, z_eq, z_ne, z_max2, z_min2, z_addt, z_sl, z_trb, z_trt, z_trk, z_trl, z_trs, List.isEmpty_cons, List.isEmpty_nil, Bool.not_true, Bool.not_false, z_len, z_lenl, z_lenk, z_lenr, z_lens, MS.set_set, MS.set_same]
          refine ⟨⟨_, asLU2 hpa hpq⟩, ?_⟩
          have hne : 0 < (fs.map prTd).length := by
            obtain ⟨p2, w2, z1, z2, z3⟩ := hl.par 2 (by decide) h2
            have z4 : ((1 - p2 : Int), (2 : Int)) ∉ l.map pr := fun z => by
              obtain ⟨r, hr, er⟩ := List.mem_map.mp z
              have e := inj_of_nodup hq hr z1 (show (pr r).2 = (pr [p2, 2, w2]).2 by rw [er]; rfl)
              rw [e] at er
              have e1 : p2 = 1 - p2 := congrArg Prod.fst er
              omega
            have z5 := hl3 (1 - p2) 2 (by omega) (by omega) (by omega) z4
            rw [List.length_map]
            exact List.length_pos_of_mem z5
          refine one_specR hqa hb' hm' hne (by simp; omega) fun e he' b4 m4 hb4 hm4 => ?_
          obtain ⟨⟨x, y⟩, hxy, rfl⟩ := List.mem_map.mp he'
          obtain ⟨x0, x1, x2, x3⟩ := hl2 _ hxy
          refine one_spec (l := ls.map D.int) hb4 hm4 (.inr (.inl rfl)) (by simpa using hls.1) (by simp; omega) fun e he2 b5 m5 hb5 hm5 => ?_
          obtain ⟨w, hw', rfl⟩ := List.mem_map.mp he2
          obtain ⟨w1, w2⟩ := hw w hw'
          refine ⟨by decide, ?_⟩
          show _ ∧ _
          refine ⟨by show 2 + 1 ≤ sizeLine; decide, ?_⟩
          refine app2 hpa hpq (by rw [sizeLine_eq]; simp; omega) ?_
          have R1 : Rds many (l ++ [[x, y, w]]) := by
            refine ⟨fun r hr => ?_, ?_, fun z z0 z1 => ?_⟩
            · rcases List.mem_append.mp hr with q1 | q1
              · exact hl.rd r q1
              · rw [List.mem_singleton.mp q1]
                exact ⟨x, y, w, rfl, x0, x1, by have : y < ((many.toNat : Nat) : Int) := x2; omega, w1, w2⟩
            · rw [List.map_append, List.nodup_append]
              refine ⟨hl.nd, by simp, fun u hu v hv e => ?_⟩
              have hv' : v = pr [x, y, w] := by simpa using hv
              rw [e, hv'] at hu
              exact x3 hu
            · obtain ⟨p', w', q1, q2⟩ := hl.par z z0 z1
              exact ⟨p', w', List.mem_append_left _ q1, q2⟩
          have em : l.map tupOf ++ [D.tup ([D.int x, D.int y] ++ [D.int w])] = (l ++ [[x, y, w]]).map tupOf := by rw [List.map_append]; rfl
          refine ⟨.ref p, _, l ++ [[x, y, w]], rfl, asLU2 hpa hpq, by rw [em]; exact tupsI_of _, by rw [List.length_append]; simp; omega, fun r hr' => bdi r (R1.rd r hr'), fun l' pm pw => ?_⟩
          refine ⟨.lst (l'.map tupOf), rfl, .inr ⟨_, rfl, by decide, ?_⟩⟩
          exact RetOk.drop2 hp0 hq00 (k many hmany l' b5 m5 hb5 hm5 (R1.sorted (by omega) pm pw) (by rw [pm.length_eq, List.length_append, List.length_singleton]; omega))
    · rw [if_neg ht]
      exact plain b3 m3 hb3 hm3
  · rw [if_neg h2]
    exact plain b2 m2 hb2 hm2
end LW

set_option Elab.async false
set_option maxRecDepth 100000
set_option maxHeartbeats 4000000
namespace DL
open PySem PySem.Spec L2
theorem comp_inv {chk : MS → Prop} {ρw : Rho} {g : Tgt} {tt : TTD} {te : TED} {fin : List D → MS → Prop} {ds : List D} (Inv : Nat → List D → MS → Prop) (hc : ∀ i acc M, Inv i acc M → chk M)
    (step : ∀ i d acc M, ds[i]? = some d → Inv i acc M → ∃ ρ', asg g d ρw = some ρ' ∧ ∀ K : List D → MS → Prop, (∀ acc M, Inv (i + 1) acc M → K acc M) → tt ρ' M (fun b M1 => if b = true then te ρ' M1 (fun y M2 => acc.length < sizeLine ∧ K (acc ++ [y]) M2) NoR else K acc M1) NoR)
    (q : ∀ acc M, Inv ds.length acc M → fin acc M) {M : MS} (h : Inv 0 [] M) : dCompGo chk ρw g tt te fin ds [] M := by
  have go : ∀ (k i : Nat) (acc : List D) (M : MS), ds.length - i = k → i ≤ ds.length → Inv i acc M → dCompGo chk ρw g tt te fin (ds.drop i) acc M := by
    intro k
    induction k with
    | zero =>
      intro i acc M hk hi h
      have e : i = ds.length := by omega
      subst e
      rw [List.drop_length]
      exact ⟨hc _ _ _ h, q acc M h⟩
    | succ k ih =>
      intro i acc M hk hi h
      have hlt : i < ds.length := by omega
      rw [List.drop_eq_getElem_cons hlt]
      obtain ⟨ρ', e, s⟩ := step i _ acc M (List.getElem?_eq_getElem hlt) h
      exact ⟨hc _ _ _ h, ρ', e, s (fun acc M => dCompGo chk ρw g tt te fin (ds.drop (i + 1)) acc M) fun acc2 M2 h2 => ih (i + 1) acc2 M2 (by omega) hlt h2⟩
  simpa using go ds.length 0 [] M (by simp) (Nat.zero_le _) h
/-- a lamp: its positions, its roads -/
abbrev Lamp := Int × List (List Int)
abbrev lampD (w : Lamp) : D := .tup [.int w.1, .tup (w.2.map tupOf)]
def LampOk (w : Lamp) : Prop := 1 ≤ w.1 ∧ w.1 ≤ 6 ∧ RdsS w.1 w.2 ∧ w.2.length ≤ 20
structure LandOk (n : Int) (roads : List (List Int)) (ws : List Lamp) : Prop where
  lo : 1 ≤ n
  hi : n ≤ 10
  rd : RdsS n roads
  few : (roads.length : Int) ≤ n
  all : (ws.length : Int) = n
  ok : ∀ w ∈ ws, LampOk w
abbrev landD (roads : List (List Int)) (ws : List Lamp) : D := .tup [.tup (roads.map tupOf), .tup (ws.map lampD)]
end DL
namespace LW
open PySem PySem.Spec L2 DL
theorem land_spec {G : GEnv} {a : Addr} {M0 : MS} {Q : QD} {R : RK} {ms ls : List Int} {b m : Int} (hb : 0 ≤ b) (hm : 0 ≤ m) (hms : 0 < ms.length ∧ ms.length < 1000) (hmw : ∀ w ∈ ms, 1 ≤ w ∧ w ≤ 10) (hls : 0 < ls.length ∧ ls.length < 1000) (hw : ∀ w ∈ ls, 1 ≤ w ∧ w ≤ 100)
    (k : ∀ n roads ws b' m', 0 ≤ b' → 0 ≤ m' → LandOk n roads ws → Q (landD roads ws) (M0.set a (src b' m'))) :
    sp__law_land G [.ref a, .lst (ms.map D.int), .lst (ls.map D.int)] (M0.set a (src b m)) Q R := by
  refine ⟨rfl, ?_⟩
  simp only [T__law_land, dSeq, dIf, dTest, dBin, dVar, dC, dAsg, dStore, dRet, dB, dCons, dNil, dTup, dLst, dLstM, dDrop, dM, dCall, dCallK, dTru, dNotT, dAndT, dOrT, dAndE, dOrE, dNotE, dIfE, dChain, dChain3, dNeg, dFor, dPar, dSlice, dPart, dNoPart, z_fld, dSetF, dRaise, dRz, dNext, dBreak, dCont, dRetN, dYes, dComp, iSeq, iRange1, iRange2, DL.iZip, DL.iEnum, startD, retD, asg, asgs, asT, gMod, gMul, DL.gSub, gGt, gGe, gFdiv, gPow, wipeD, finF, finM, perm,
    List.map_cons, List.map_nil, List.length_cons, List.length_nil, List.replicate, List.cons_append, List.nil_append, List.getElem?_cons_zero, List.getElem?_cons_succ, List.set, List.getD_cons_zero, List.getD_cons_succ, Option.some.injEq, exists_eq_left', exists_eq_left, D.int.injEq, D.bl.injEq, D.ref.injEq, D.str.injEq, List.cons.injEq, and_true, true_and, exists_and_left, exists_and_right, decide_eq_true_eq, Bool.false_eq_true, if_true, if_false, ite_true, ite_false, Nat.zero_add, Nat.reduceAdd, Nat.reduceSub,
    z_gI, z_add, z_lt, z_le, z_int, z_intb, z_ixr, z_ixt, z_ixk, z_ixs, z_ixl, z_asQ, z_asQt, z_asQk, z_asQs, z_asQl, z_asL, z_asLl, z_at0, z_at1, z_at2, z_store, z_i20, z_i21, z_eq, z_ne, z_max2, z_min2, z_addt, z_sl, z_trb, z_trt, z_trk, z_trl, z_trs, List.isEmpty_cons, List.isEmpty_nil, Bool.not_true, Bool.not_false, z_len, z_lenl, z_lenk, z_lenr, z_lens, MS.set_set, MS.set_same]
  refine one_spec (l := ms.map D.int) hb hm (.inr (.inl rfl)) (by simpa using hms.1) (by simp; omega) fun e he b1 m1 hb1 hm1 => ?_
  obtain ⟨n, hn, rfl⟩ := List.mem_map.mp he
  obtain ⟨n1, n2⟩ := hmw n hn
  refine tree_spec hb1 hm1 n1 n2 hls hw fun l b2 m2 hb2 hm2 hl hq hlen => ?_
  refine ⟨n, rfl, by omega, by omega, ?_⟩
  refine comp_inv (fun i acc M => ∃ (ws : List Lamp) (b' m' : Int), 0 ≤ b' ∧ 0 ≤ m' ∧ acc = ws.map lampD ∧ M = M0.set a (src b' m') ∧ ws.length = i ∧ ∀ w ∈ ws, LampOk w) (fun _ _ _ _ => trivial) ?_ ?_ ⟨[], b2, m2, hb2, hm2, rfl, rfl, rfl, fun w hw => (by cases hw)⟩
  · rintro i d acc M hd ⟨ws, b', m', hb', hm', rfl, rfl, hl1, hl2⟩
    obtain ⟨hi, rfl⟩ := rangeD_get hd
    refine ⟨_, rfl, fun K hK => ?_⟩
    simp only [dSeq, dIf, dTest, dBin, dVar, dC, dAsg, dStore, dRet, dB, dCons, dNil, dTup, dLst, dLstM, dDrop, dM, dCall, dCallK, dTru, dNotT, dAndT, dOrT, dAndE, dOrE, dNotE, dIfE, dChain, dChain3, dNeg, dFor, dPar, dSlice, dPart, dNoPart, z_fld, dSetF, dRaise, dRz, dNext, dBreak, dCont, dRetN, dYes, dComp, iSeq, iRange1, iRange2, DL.iZip, DL.iEnum, startD, retD, asg, asgs, asT, gMod, gMul, DL.gSub, gGt, gGe, gFdiv, gPow, wipeD, finF, finM, perm,
    List.map_cons, List.map_nil, List.length_cons, List.length_nil, List.replicate, List.cons_append, List.nil_append, List.getElem?_cons_zero, List.getElem?_cons_succ, List.set, List.getD_cons_zero, List.getD_cons_succ, Option.some.injEq, exists_eq_left', exists_eq_left, D.int.injEq, D.bl.injEq, D.ref.injEq, D.str.injEq, List.cons.injEq, and_true, true_and, exists_and_left, exists_and_right, decide_eq_true_eq, Bool.false_eq_true, if_true, if_false, ite_true, ite_false, Nat.zero_add, Nat.reduceAdd, Nat.reduceSub,
    z_gI, z_add, z_lt, z_le, z_int, z_intb, z_ixr, z_ixt, z_ixk, z_ixs, z_ixl, z_asQ, z_asQt, z_asQk, z_asQs, z_asQl, z_asL, z_asLl, z_at0, z_at1, z_at2, z_store, z_i20, z_i21, z_eq, z_ne, z_max2, z_min2, z_addt, z_sl, z_trb, z_trt, z_trk, z_trl, z_trs, List.isEmpty_cons, List.isEmpty_nil, Bool.not_true, Bool.not_false, z_len, z_lenl, z_lenk, z_lenr, z_lens, MS.set_set, MS.set_same]
    refine ⟨by decide, ?_⟩
    refine web_spec (ms := [2, 1, 2, 3]) hb' hm' (by decide) (by decide) hls hw fun many hmany l2 b3 m3 hb3 hm3 hl3 hl4 => ?_
    refine ⟨by rw [sizeLine_eq]; simp; omega, hK _ _ ⟨ws ++ [(many, l2)], b3, m3, hb3, hm3, by simp [lampD], rfl, by simp [hl1], fun w hw => ?_⟩⟩
    rcases List.mem_append.mp hw with z | z
    · exact hl2 w z
    · rw [List.mem_singleton.mp z]
      have : 1 ≤ many ∧ many ≤ 6 := by
        simp only [List.mem_cons, List.not_mem_nil, or_false] at hmany
        omega
      exact ⟨this.1, this.2, hl3, hl4⟩
  · rintro acc M ⟨ws, b', m', hb', hm', rfl, rfl, hl1, hl2⟩
    rw [rangeD_len] at hl1
    refine ⟨_, rfl, .inr ⟨_, rfl, by decide, RetOk.of (k n l ws b' m' hb' hm' ⟨n1, n2, hl, by omega, by omega, hl2⟩)⟩⟩
end LW

set_option Elab.async false
set_option maxRecDepth 100000
set_option maxHeartbeats 4000000
namespace LW
open PySem PySem.Spec L2 DL
/-- a row of positions of these lamps -/
def RowOk (ws : List Lamp) (row : List Int) : Prop := row.length = ws.length ∧ ∀ (i : Nat) (q : Int) (w : Lamp), row[i]? = some q → ws[i]? = some w → 0 ≤ q ∧ q < w.1
theorem row_spec {G : GEnv} {a : Addr} {M0 : MS} {Q : QD} {R : RK} {ws : List Lamp} {b m : Int} (hb : 0 ≤ b) (hm : 0 ≤ m) (hws : ws.length ≤ 1000) (hok : ∀ w ∈ ws, LampOk w)
    (k : ∀ row b' m', 0 ≤ b' → 0 ≤ m' → RowOk ws row → Q (.tup (row.map D.int)) (M0.set a (src b' m'))) :
    sp__law_row G [.ref a, .tup (ws.map lampD)] (M0.set a (src b m)) Q R := by
  refine ⟨rfl, ?_⟩
  simp only [T__law_row, dSeq, dIf, dTest, dBin, dVar, dC, dAsg, dStore, dRet, dB, dCons, dNil, dTup, dLst, dLstM, dDrop, dM, dCall, dCallK, dTru, dNotT, dAndT, dOrT, dAndE, dOrE, dNotE, dIfE, dChain, dChain3, dNeg, dFor, dPar, dSlice, dPart, dNoPart, z_fld, dSetF, dRaise, dRz, dNext, dBreak, dCont, dRetN, dYes, dComp, iSeq, iRange1, iRange2, DL.iZip, DL.iEnum, startD, retD, asg, asgs, asT, gMod, gMul, DL.gSub, gGt, gGe, gFdiv, gPow, wipeD, finF, finM, perm,
    List.map_cons, List.map_nil, List.length_cons, List.length_nil, List.replicate, List.cons_append, List.nil_append, List.getElem?_cons_zero, List.getElem?_cons_succ, List.set, List.getD_cons_zero, List.getD_cons_succ, Option.some.injEq, exists_eq_left', exists_eq_left, D.int.injEq, D.bl.injEq, D.ref.injEq, D.str.injEq, List.cons.injEq, and_true, true_and, exists_and_left, exists_and_right, decide_eq_true_eq, Bool.false_eq_true, if_true, if_false, ite_true, ite_false, Nat.zero_add, Nat.reduceAdd, Nat.reduceSub,
    z_gI, z_add, z_lt, z_le, z_int, z_intb, z_ixr, z_ixt, z_ixk, z_ixs, z_ixl, z_asQ, z_asQt, z_asQk, z_asQs, z_asQl, z_asL, z_asLl, z_at0, z_at1, z_at2, z_store, z_i20, z_i21, z_eq, z_ne, z_max2, z_min2, z_addt, z_sl, z_trb, z_trt, z_trk, z_trl, z_trs, List.isEmpty_cons, List.isEmpty_nil, Bool.not_true, Bool.not_false, z_len, z_lenl, z_lenk, z_lenr, z_lens, MS.set_set, MS.set_same]
  refine comp_inv (fun i acc M => ∃ (row : List Int) (b' m' : Int), 0 ≤ b' ∧ 0 ≤ m' ∧ acc = row.map D.int ∧ M = M0.set a (src b' m') ∧ row.length = i ∧ ∀ (i : Nat) (q : Int) (w : Lamp), row[i]? = some q → ws[i]? = some w → 0 ≤ q ∧ q < w.1) (fun _ _ _ _ => trivial) ?_ ?_ ⟨[], b, m, hb, hm, rfl, rfl, rfl, fun i q w h _ => (by simp at h)⟩
  · rintro i d acc M hd ⟨row, b', m', hb', hm', rfl, rfl, hl1, hl2⟩
    rw [List.getElem?_map] at hd
    obtain ⟨w, hw, rfl⟩ := Option.map_eq_some_iff.mp hd
    have hi : i < ws.length := (List.getElem?_eq_some_iff.mp hw).1
    refine ⟨_, rfl, fun K hK => ?_⟩
    simp only [dSeq, dIf, dTest, dBin, dVar, dC, dAsg, dStore, dRet, dB, dCons, dNil, dTup, dLst, dLstM, dDrop, dM, dCall, dCallK, dTru, dNotT, dAndT, dOrT, dAndE, dOrE, dNotE, dIfE, dChain, dChain3, dNeg, dFor, dPar, dSlice, dPart, dNoPart, z_fld, dSetF, dRaise, dRz, dNext, dBreak, dCont, dRetN, dYes, dComp, iSeq, iRange1, iRange2, DL.iZip, DL.iEnum, startD, retD, asg, asgs, asT, gMod, gMul, DL.gSub, gGt, gGe, gFdiv, gPow, wipeD, finF, finM, perm,
    List.map_cons, List.map_nil, List.length_cons, List.length_nil, List.replicate, List.cons_append, List.nil_append, List.getElem?_cons_zero, List.getElem?_cons_succ, List.set, List.getD_cons_zero, List.getD_cons_succ, Option.some.injEq, exists_eq_left', exists_eq_left, D.int.injEq, D.bl.injEq, D.ref.injEq, D.str.injEq, List.cons.injEq, and_true, true_and, exists_and_left, exists_and_right, decide_eq_true_eq, Bool.false_eq_true, if_true, if_false, ite_true, ite_false, Nat.zero_add, Nat.reduceAdd, Nat.reduceSub,
    z_gI, z_add, z_lt, z_le, z_int, z_intb, z_ixr, z_ixt, z_ixk, z_ixs, z_ixl, z_asQ, z_asQt, z_asQk, z_asQs, z_asQl, z_asL, z_asLl, z_at0, z_at1, z_at2, z_store, z_i20, z_i21, z_eq, z_ne, z_max2, z_min2, z_addt, z_sl, z_trb, z_trt, z_trk, z_trl, z_trs, List.isEmpty_cons, List.isEmpty_nil, Bool.not_true, Bool.not_false, z_len, z_lenl, z_lenk, z_lenr, z_lens, MS.set_set, MS.set_same]
    obtain ⟨w1, w2, _⟩ := hok w (List.mem_of_getElem? hw)
    refine take_spec hb' hm' (by omega) (by omega) fun q b2 m2 q0 q1 hb2 hm2 => ?_
    refine ⟨by rw [sizeLine_eq]; simp; omega, hK _ _ ⟨row ++ [q], b2, m2, hb2, hm2, by rw [List.map_append]; rfl, rfl, by simp [hl1], fun j x u hx hu => ?_⟩⟩
    by_cases hj : j < row.length
    · rw [List.getElem?_append_left hj] at hx
      exact hl2 j x u hx hu
    · have hj2 : j = row.length := by
        have := (List.getElem?_eq_some_iff.mp hx).1
        rw [List.length_append, List.length_singleton] at this
        omega
      subst hj2
      rw [List.getElem?_append_right (Nat.le_refl _), Nat.sub_self] at hx
      rw [hl1, hw] at hu
      cases hx; cases hu
      exact ⟨q0, q1⟩
  · rintro acc M ⟨row, b', m', hb', hm', rfl, rfl, hl1, hl2⟩
    rw [List.length_map] at hl1
    exact ⟨_, rfl, .inr ⟨_, rfl, RetOk.of (k row b' m' hb' hm' ⟨hl1, hl2⟩)⟩⟩
theorem state_spec {G : GEnv} {a : Addr} {M0 : MS} {Q : QD} {R : RK} {ws : List Lamp} {b m : Int} (hb : 0 ≤ b) (hm : 0 ≤ m) (h0 : 0 < ws.length) (hws : ws.length ≤ 1000) (hok : ∀ w ∈ ws, LampOk w)
    (k : ∀ place row b' m', 0 ≤ b' → 0 ≤ m' → 0 ≤ place → place < (ws.length : Int) → RowOk ws row → Q (.tup [.int place, .tup (row.map D.int)]) (M0.set a (src b' m'))) :
    sp__law_state G [.ref a, .tup (ws.map lampD)] (M0.set a (src b m)) Q R := by
  refine ⟨rfl, ?_⟩
  simp only [T__law_state, dSeq, dIf, dTest, dBin, dVar, dC, dAsg, dStore, dRet, dB, dCons, dNil, dTup, dLst, dLstM, dDrop, dM, dCall, dCallK, dTru, dNotT, dAndT, dOrT, dAndE, dOrE, dNotE, dIfE, dChain, dChain3, dNeg, dFor, dPar, dSlice, dPart, dNoPart, z_fld, dSetF, dRaise, dRz, dNext, dBreak, dCont, dRetN, dYes, dComp, iSeq, iRange1, iRange2, DL.iZip, DL.iEnum, startD, retD, asg, asgs, asT, gMod, gMul, DL.gSub, gGt, gGe, gFdiv, gPow, wipeD, finF, finM, perm,
    List.map_cons, List.map_nil, List.length_cons, List.length_nil, List.replicate, List.cons_append, List.nil_append, List.getElem?_cons_zero, List.getElem?_cons_succ, List.set, List.getD_cons_zero, List.getD_cons_succ, Option.some.injEq, exists_eq_left', exists_eq_left, D.int.injEq, D.bl.injEq, D.ref.injEq, D.str.injEq, List.cons.injEq, and_true, true_and, exists_and_left, exists_and_right, decide_eq_true_eq, Bool.false_eq_true, if_true, if_false, ite_true, ite_false, Nat.zero_add, Nat.reduceAdd, Nat.reduceSub,
    z_gI, z_add, z_lt, z_le, z_int, z_intb, z_ixr, z_ixt, z_ixk, z_ixs, z_ixl, z_asQ, z_asQt, z_asQk, z_asQs, z_asQl, z_asL, z_asLl, z_at0, z_at1, z_at2, z_store, z_i20, z_i21, z_eq, z_ne, z_max2, z_min2, z_addt, z_sl, z_trb, z_trt, z_trk, z_trl, z_trs, List.isEmpty_cons, List.isEmpty_nil, Bool.not_true, Bool.not_false, z_len, z_lenl, z_lenk, z_lenr, z_lens, MS.set_set, MS.set_same]
  refine take_spec hb hm (by simp; omega) (by simp; omega) fun t b1 m1 t0 t1 hb1 hm1 => ?_
  refine row_spec hb1 hm1 hws hok fun row b2 m2 hb2 hm2 hr => ?_
  exact ⟨by decide, RetOk.of (k t row b2 m2 hb2 hm2 t0 (by simpa using t1) hr)⟩
end LW

set_option Elab.async false
set_option maxRecDepth 100000
set_option maxHeartbeats 4000000
namespace DL
open PySem PySem.Spec L2
/-- what the text says of classes -/
structure GF (G : GEnv) : Prop where
  tt : G.kit (.type "tuple") (.type "tuple") = some true
  it : G.kit (.type "int") (.type "tuple") = some false
  st : G.kit (.type "str") (.type "tuple") = some false
  ii : G.kit (.type "int") (.type "int") = some true
  ib : G.kit (.type "int") (.type "bool") = some false
  si : G.kit (.type "str") (.type "int") = some false
  ti : G.kit (.type "tuple") (.type "int") = some false
  ww : G.kit (.ref (G.cls 22)) (.ref (G.cls 22)) = some true
  cw : G.isCls (G.cls 22)
  cl : G.isCls (G.cls 23)
  e66 : G.exm (G.cls 6) (G.cls 6) = some true
  e76 : G.exm (G.cls 7) (G.cls 6) = some false
  e77 : G.exm (G.cls 7) (G.cls 7) = some true
  x6 : G.isExc (G.cls 6)
  x7 : G.isExc (G.cls 7)
theorem isi_of {kit : Value → Value → Option Bool} {Cs : Addr → Prop} {x c : D} {t u : Value} {b : Bool} {M : MS} {Q : QD} (h1 : clsD M x = some t) (h2 : clsOfD c = some u) (h3 : ∀ C, t = .ref C → Cs C) (h : kit t u = some b) (q : Q (.bl b) M) : gIsi kit Cs [x, c] M Q :=
  ⟨x, c, t, u, b, rfl, h1, h2, h3, h, q⟩
theorem enumD_get2 {l : List D} {i : Nat} {d : D} (h : (enumD 0 l)[i]? = some d) : ∃ y, l[i]? = some y ∧ d = .tup [.int (i : Nat), y] := by
  have hi : i < l.length := by
    have := (List.getElem?_eq_some_iff.mp h).1
    rwa [enumD_len] at this
  have z := enumD_get 0 l i l[i] (List.getElem?_eq_getElem hi)
  rw [h] at z
  exact ⟨l[i], List.getElem?_eq_getElem hi, by rw [Option.some.inj z, Nat.zero_add]⟩
theorem pair_get {α : Type} {R : α → α → Prop} {l : List α} (h : l.Pairwise R) {i j : Nat} {x y : α} (hij : i < j) (hx : l[i]? = some x) (hy : l[j]? = some y) : R x y := by
  obtain ⟨h1, rfl⟩ := List.getElem?_eq_some_iff.mp hx
  obtain ⟨h2, rfl⟩ := List.getElem?_eq_some_iff.mp hy
  exact List.pairwise_iff_getElem.mp h i j h1 h2 hij
end DL
namespace LW
open PySem PySem.Spec L2 DL
variable {G : GEnv} {M : MS} {Q : QD} {R : RK}
theorem num_int (F : GF G) {i : Int} (k : Q (.bl true) M) : sp_is_number G [.int i] M Q R := by
  refine ⟨rfl, ?_⟩
  simp only [T_is_number, dSeq, dIf, dTest, dBin, dVar, dC, dAsg, dStore, dRet, dB, dCons, dNil, dTup, dLst, dLstM, dDrop, dM, dCall, dCallK, dTru, dNotT, dAndT, dOrT, dAndE, dOrE, dNotE, dIfE, dChain, dChain3, dNeg, dFor, dPar, dSlice, dPart, dNoPart, z_fld, dSetF, dRaise, dRz, dNext, dBreak, dCont, dRetN, dYes, dComp, iSeq, iRange1, iRange2, DL.iZip, DL.iEnum, startD, retD, asg, asgs, asT, gMod, gMul, DL.gSub, gGt, gGe, gFdiv, gPow, wipeD, finF, finM, perm,
    List.map_cons, List.map_nil, List.length_cons, List.length_nil, List.replicate, List.cons_append, List.nil_append, List.getElem?_cons_zero, List.getElem?_cons_succ, List.set, List.getD_cons_zero, List.getD_cons_succ, Option.some.injEq, exists_eq_left', exists_eq_left, D.int.injEq, D.bl.injEq, D.ref.injEq, D.str.injEq, List.cons.injEq, and_true, true_and, exists_and_left, exists_and_right, decide_eq_true_eq, Bool.false_eq_true, if_true, if_false, ite_true, ite_false, Nat.zero_add, Nat.reduceAdd, Nat.reduceSub,
    z_gI, z_add, z_lt, z_le, z_int, z_intb, z_ixr, z_ixt, z_ixk, z_ixs, z_ixl, z_asQ, z_asQt, z_asQk, z_asQs, z_asQl, z_asL, z_asLl, z_at0, z_at1, z_at2, z_store, z_i20, z_i21, z_eq, z_ne, z_max2, z_min2, z_addt, z_sl, z_trb, z_trt, z_trk, z_trl, z_trs, List.isEmpty_cons, List.isEmpty_nil, Bool.not_true, Bool.not_false, z_len, z_lenl, z_lenk, z_lenr, z_lens, MS.set_set, MS.set_same]
  refine isi_of rfl rfl (fun C e => by cases e) F.ii ⟨true, rfl, ?_⟩
  rw [if_pos rfl]
  exact isi_of rfl rfl (fun C e => by cases e) F.ib ⟨false, rfl, RetOk.of k⟩
theorem num_str (F : GF G) {x : Str} (k : Q (.bl false) M) : sp_is_number G [.str x] M Q R := by
  refine ⟨rfl, ?_⟩
  simp only [T_is_number, dSeq, dIf, dTest, dBin, dVar, dC, dAsg, dStore, dRet, dB, dCons, dNil, dTup, dLst, dLstM, dDrop, dM, dCall, dCallK, dTru, dNotT, dAndT, dOrT, dAndE, dOrE, dNotE, dIfE, dChain, dChain3, dNeg, dFor, dPar, dSlice, dPart, dNoPart, z_fld, dSetF, dRaise, dRz, dNext, dBreak, dCont, dRetN, dYes, dComp, iSeq, iRange1, iRange2, DL.iZip, DL.iEnum, startD, retD, asg, asgs, asT, gMod, gMul, DL.gSub, gGt, gGe, gFdiv, gPow, wipeD, finF, finM, perm,
    List.map_cons, List.map_nil, List.length_cons, List.length_nil, List.replicate, List.cons_append, List.nil_append, List.getElem?_cons_zero, List.getElem?_cons_succ, List.set, List.getD_cons_zero, List.getD_cons_succ, Option.some.injEq, exists_eq_left', exists_eq_left, D.int.injEq, D.bl.injEq, D.ref.injEq, D.str.injEq, List.cons.injEq, and_true, true_and, exists_and_left, exists_and_right, decide_eq_true_eq, Bool.false_eq_true, if_true, if_false, ite_true, ite_false, Nat.zero_add, Nat.reduceAdd, Nat.reduceSub,
    z_gI, z_add, z_lt, z_le, z_int, z_intb, z_ixr, z_ixt, z_ixk, z_ixs, z_ixl, z_asQ, z_asQt, z_asQk, z_asQs, z_asQl, z_asL, z_asLl, z_at0, z_at1, z_at2, z_store, z_i20, z_i21, z_eq, z_ne, z_max2, z_min2, z_addt, z_sl, z_trb, z_trt, z_trk, z_trl, z_trs, List.isEmpty_cons, List.isEmpty_nil, Bool.not_true, Bool.not_false, z_len, z_lenl, z_lenk, z_lenr, z_lens, MS.set_set, MS.set_same]
  refine isi_of rfl rfl (fun C e => by cases e) F.si ⟨false, rfl, ?_⟩
  rw [if_neg Bool.false_ne_true]
  exact RetOk.of k
theorem num_tup (F : GF G) {l : List D} (k : Q (.bl false) M) : sp_is_number G [.tup l] M Q R := by
  refine ⟨rfl, ?_⟩
  simp only [T_is_number, dSeq, dIf, dTest, dBin, dVar, dC, dAsg, dStore, dRet, dB, dCons, dNil, dTup, dLst, dLstM, dDrop, dM, dCall, dCallK, dTru, dNotT, dAndT, dOrT, dAndE, dOrE, dNotE, dIfE, dChain, dChain3, dNeg, dFor, dPar, dSlice, dPart, dNoPart, z_fld, dSetF, dRaise, dRz, dNext, dBreak, dCont, dRetN, dYes, dComp, iSeq, iRange1, iRange2, DL.iZip, DL.iEnum, startD, retD, asg, asgs, asT, gMod, gMul, DL.gSub, gGt, gGe, gFdiv, gPow, wipeD, finF, finM, perm,
    List.map_cons, List.map_nil, List.length_cons, List.length_nil, List.replicate, List.cons_append, List.nil_append, List.getElem?_cons_zero, List.getElem?_cons_succ, List.set, List.getD_cons_zero, List.getD_cons_succ, Option.some.injEq, exists_eq_left', exists_eq_left, D.int.injEq, D.bl.injEq, D.ref.injEq, D.str.injEq, List.cons.injEq, and_true, true_and, exists_and_left, exists_and_right, decide_eq_true_eq, Bool.false_eq_true, if_true, if_false, ite_true, ite_false, Nat.zero_add, Nat.reduceAdd, Nat.reduceSub,
    z_gI, z_add, z_lt, z_le, z_int, z_intb, z_ixr, z_ixt, z_ixk, z_ixs, z_ixl, z_asQ, z_asQt, z_asQk, z_asQs, z_asQl, z_asL, z_asLl, z_at0, z_at1, z_at2, z_store, z_i20, z_i21, z_eq, z_ne, z_max2, z_min2, z_addt, z_sl, z_trb, z_trt, z_trk, z_trl, z_trs, List.isEmpty_cons, List.isEmpty_nil, Bool.not_true, Bool.not_false, z_len, z_lenl, z_lenk, z_lenr, z_lens, MS.set_set, MS.set_same]
  refine isi_of rfl rfl (fun C e => by cases e) F.ti ⟨false, rfl, ?_⟩
  rw [if_neg Bool.false_ne_true]
  exact RetOk.of k
theorem len_spec {i : Int} (k : Q (.bl (decide (1 ≤ i ∧ i ≤ 100))) M) : sp_is_length G [.int i] M Q R := by
  refine ⟨rfl, ?_⟩
  simp only [T_is_length, dSeq, dIf, dTest, dBin, dVar, dC, dAsg, dStore, dRet, dB, dCons, dNil, dTup, dLst, dLstM, dDrop, dM, dCall, dCallK, dTru, dNotT, dAndT, dOrT, dAndE, dOrE, dNotE, dIfE, dChain, dChain3, dNeg, dFor, dPar, dSlice, dPart, dNoPart, z_fld, dSetF, dRaise, dRz, dNext, dBreak, dCont, dRetN, dYes, dComp, iSeq, iRange1, iRange2, DL.iZip, DL.iEnum, startD, retD, asg, asgs, asT, gMod, gMul, DL.gSub, gGt, gGe, gFdiv, gPow, wipeD, finF, finM, perm,
    List.map_cons, List.map_nil, List.length_cons, List.length_nil, List.replicate, List.cons_append, List.nil_append, List.getElem?_cons_zero, List.getElem?_cons_succ, List.set, List.getD_cons_zero, List.getD_cons_succ, Option.some.injEq, exists_eq_left', exists_eq_left, D.int.injEq, D.bl.injEq, D.ref.injEq, D.str.injEq, List.cons.injEq, and_true, true_and, exists_and_left, exists_and_right, decide_eq_true_eq, Bool.false_eq_true, if_true, if_false, ite_true, ite_false, Nat.zero_add, Nat.reduceAdd, Nat.reduceSub,
    z_gI, z_add, z_lt, z_le, z_int, z_intb, z_ixr, z_ixt, z_ixk, z_ixs, z_ixl, z_asQ, z_asQt, z_asQk, z_asQs, z_asQl, z_asL, z_asLl, z_at0, z_at1, z_at2, z_store, z_i20, z_i21, z_eq, z_ne, z_max2, z_min2, z_addt, z_sl, z_trb, z_trt, z_trk, z_trl, z_trs, List.isEmpty_cons, List.isEmpty_nil, Bool.not_true, Bool.not_false, z_len, z_lenl, z_lenk, z_lenr, z_lens, MS.set_set, MS.set_same]
  by_cases h : 1 ≤ i
  · rw [if_pos h]
    have e : decide (1 ≤ i ∧ i ≤ 100) = decide (i ≤ 100) := by simp [h]
    rw [e] at k
    exact RetOk.of k
  · rw [if_neg h]
    have e : decide (1 ≤ i ∧ i ≤ 100) = false := by simp [h]
    rw [e] at k
    exact RetOk.of k
theorem road_spec (F : GF G) {many : Int} {r : List Int} (h : IsRd many r) (k : Q (.bl true) M) : sp__is_road G [.int many, tupOf r] M Q R := by
  obtain ⟨p, q, w, rfl, h1, h2, h3, h4, h5⟩ := h
  refine ⟨rfl, ?_⟩
  show T__is_road G (retD Q R) (startD 3 [.int many, .tup [.int p, .int q, .int w]]) M
  simp only [T__is_road, dSeq, dIf, dTest, dBin, dVar, dC, dAsg, dStore, dRet, dB, dCons, dNil, dTup, dLst, dLstM, dDrop, dM, dCall, dCallK, dTru, dNotT, dAndT, dOrT, dAndE, dOrE, dNotE, dIfE, dChain, dChain3, dNeg, dFor, dPar, dSlice, dPart, dNoPart, z_fld, dSetF, dRaise, dRz, dNext, dBreak, dCont, dRetN, dYes, dComp, iSeq, iRange1, iRange2, DL.iZip, DL.iEnum, startD, retD, asg, asgs, asT, gMod, gMul, DL.gSub, gGt, gGe, gFdiv, gPow, wipeD, finF, finM, perm,
    List.map_cons, List.map_nil, List.length_cons, List.length_nil, List.replicate, List.cons_append, List.nil_append, List.getElem?_cons_zero, List.getElem?_cons_succ, List.set, List.getD_cons_zero, List.getD_cons_succ, Option.some.injEq, exists_eq_left', exists_eq_left, D.int.injEq, D.bl.injEq, D.ref.injEq, D.str.injEq, List.cons.injEq, and_true, true_and, exists_and_left, exists_and_right, decide_eq_true_eq, Bool.false_eq_true, if_true, if_false, ite_true, ite_false, Nat.zero_add, Nat.reduceAdd, Nat.reduceSub,
    z_gI, z_add, z_lt, z_le, z_int, z_intb, z_ixr, z_ixt, z_ixk, z_ixs, z_ixl, z_asQ, z_asQt, z_asQk, z_asQs, z_asQl, z_asL, z_asLl, z_at0, z_at1, z_at2, z_store, z_i20, z_i21, z_eq, z_ne, z_max2, z_min2, z_addt, z_sl, z_trb, z_trt, z_trk, z_trl, z_trs, List.isEmpty_cons, List.isEmpty_nil, Bool.not_true, Bool.not_false, z_len, z_lenl, z_lenk, z_lenr, z_lens, MS.set_set, MS.set_same]
  refine isi_of rfl rfl (fun C e => by cases e) F.tt ⟨true, rfl, ?_⟩
  rw [if_neg (by decide), if_neg (by decide)]
  refine comp_map (fun _ => true) (fun _ => .bl true) trivial _ _ (fun d hd => ?_) (by simp) ?_
  · refine ⟨_, rfl, fun Q' hq => hq, fun _ Q' hq => ?_⟩
    simp only [dSeq, dIf, dTest, dBin, dVar, dC, dAsg, dStore, dRet, dB, dCons, dNil, dTup, dLst, dLstM, dDrop, dM, dCall, dCallK, dTru, dNotT, dAndT, dOrT, dAndE, dOrE, dNotE, dIfE, dChain, dChain3, dNeg, dFor, dPar, dSlice, dPart, dNoPart, z_fld, dSetF, dRaise, dRz, dNext, dBreak, dCont, dRetN, dYes, dComp, iSeq, iRange1, iRange2, DL.iZip, DL.iEnum, startD, retD, asg, asgs, asT, gMod, gMul, DL.gSub, gGt, gGe, gFdiv, gPow, wipeD, finF, finM, perm,
    List.map_cons, List.map_nil, List.length_cons, List.length_nil, List.replicate, List.cons_append, List.nil_append, List.getElem?_cons_zero, List.getElem?_cons_succ, List.set, List.getD_cons_zero, List.getD_cons_succ, Option.some.injEq, exists_eq_left', exists_eq_left, D.int.injEq, D.bl.injEq, D.ref.injEq, D.str.injEq, List.cons.injEq, and_true, true_and, exists_and_left, exists_and_right, decide_eq_true_eq, Bool.false_eq_true, if_true, if_false, ite_true, ite_false, Nat.zero_add, Nat.reduceAdd, Nat.reduceSub,
    z_gI, z_add, z_lt, z_le, z_int, z_intb, z_ixr, z_ixt, z_ixk, z_ixs, z_ixl, z_asQ, z_asQt, z_asQk, z_asQs, z_asQl, z_asL, z_asLl, z_at0, z_at1, z_at2, z_store, z_i20, z_i21, z_eq, z_ne, z_max2, z_min2, z_addt, z_sl, z_trb, z_trt, z_trk, z_trl, z_trs, List.isEmpty_cons, List.isEmpty_nil, Bool.not_true, Bool.not_false, z_len, z_lenl, z_lenk, z_lenr, z_lens, MS.set_set, MS.set_same]
    have hd' : d = .int p ∨ d = .int q ∨ d = .int w := by simpa using hd
    rcases hd' with rfl | rfl | rfl <;> exact num_int F hq
  · refine ⟨_, _, [true, true, true], rfl, rfl, rfl, ?_⟩
    simp only [dSeq, dIf, dTest, dBin, dVar, dC, dAsg, dStore, dRet, dB, dCons, dNil, dTup, dLst, dLstM, dDrop, dM, dCall, dCallK, dTru, dNotT, dAndT, dOrT, dAndE, dOrE, dNotE, dIfE, dChain, dChain3, dNeg, dFor, dPar, dSlice, dPart, dNoPart, z_fld, dSetF, dRaise, dRz, dNext, dBreak, dCont, dRetN, dYes, dComp, iSeq, iRange1, iRange2, DL.iZip, DL.iEnum, startD, retD, asg, asgs, asT, gMod, gMul, DL.gSub, gGt, gGe, gFdiv, gPow, wipeD, finF, finM, perm,
    List.map_cons, List.map_nil, List.length_cons, List.length_nil, List.replicate, List.cons_append, List.nil_append, List.getElem?_cons_zero, List.getElem?_cons_succ, List.set, List.getD_cons_zero, List.getD_cons_succ, Option.some.injEq, exists_eq_left', exists_eq_left, D.int.injEq, D.bl.injEq, D.ref.injEq, D.str.injEq, List.cons.injEq, and_true, true_and, exists_and_left, exists_and_right, decide_eq_true_eq, Bool.false_eq_true, if_true, if_false, ite_true, ite_false, Nat.zero_add, Nat.reduceAdd, Nat.reduceSub,
    z_gI, z_add, z_lt, z_le, z_int, z_intb, z_ixr, z_ixt, z_ixk, z_ixs, z_ixl, z_asQ, z_asQt, z_asQk, z_asQs, z_asQl, z_asL, z_asLl, z_at0, z_at1, z_at2, z_store, z_i20, z_i21, z_eq, z_ne, z_max2, z_min2, z_addt, z_sl, z_trb, z_trt, z_trk, z_trl, z_trs, List.isEmpty_cons, List.isEmpty_nil, Bool.not_true, Bool.not_false, z_len, z_lenl, z_lenk, z_lenr, z_lens, MS.set_set, MS.set_same]
    try rw [if_neg (by decide)]
    rw [if_pos h1, if_pos h2]
    have e : decide (q < many) = true := decide_eq_true h3
    rw [e]
    exact RetOk.of k
theorem lt_pr {many : Int} {r s : List Int} (hr : IsRd many r) (hs : IsRd many s) (h : PrLt s r) : leT [(pr r).1, (pr r).2] [(pr s).1, (pr s).2] = false := by
  unfold PrLt at h
  generalize (pr r) = x at h ⊢
  generalize (pr s) = y at h ⊢
  obtain ⟨a, b⟩ := x
  obtain ⟨c, d⟩ := y
  show Ob.lexAt _ _ _ 0 2 = false
  simp only [Ob.lexAt_succ, Ob.lexAt_zero]
  rcases h with h | ⟨h1, h2⟩
  · have z : c < a := h
    simp only [List.getD_cons_zero]
    rw [if_neg (by simp; omega)]
    exact decide_eq_false (by omega)
  · have z1 : c = a := h1
    have z2 : d < b := h2
    simp only [List.getD_cons_zero, List.getD_cons_succ]
    rw [if_pos (by simp; omega), if_neg (by simp; omega)]
    exact decide_eq_false (by omega)
theorem roads_spec (F : GF G) {many : Int} {l : List (List Int)} (h : RdsS many l) (hl : l.length ≤ 100) (k : Q .non M) : sp_check_roads G [.int many, .tup (l.map tupOf)] M Q R := by
  refine ⟨rfl, ?_⟩
  simp only [T_check_roads, dSeq, dIf, dTest, dBin, dVar, dC, dAsg, dStore, dRet, dB, dCons, dNil, dTup, dLst, dLstM, dDrop, dM, dCall, dCallK, dTru, dNotT, dAndT, dOrT, dAndE, dOrE, dNotE, dIfE, dChain, dChain3, dNeg, dFor, dPar, dSlice, dPart, dNoPart, z_fld, dSetF, dRaise, dRz, dNext, dBreak, dCont, dRetN, dYes, dComp, iSeq, iRange1, iRange2, DL.iZip, DL.iEnum, startD, retD, asg, asgs, asT, gMod, gMul, DL.gSub, gGt, gGe, gFdiv, gPow, wipeD, finF, finM, perm,
    List.map_cons, List.map_nil, List.length_cons, List.length_nil, List.replicate, List.cons_append, List.nil_append, List.getElem?_cons_zero, List.getElem?_cons_succ, List.set, List.getD_cons_zero, List.getD_cons_succ, Option.some.injEq, exists_eq_left', exists_eq_left, D.int.injEq, D.bl.injEq, D.ref.injEq, D.str.injEq, List.cons.injEq, and_true, true_and, exists_and_left, exists_and_right, decide_eq_true_eq, Bool.false_eq_true, if_true, if_false, ite_true, ite_false, Nat.zero_add, Nat.reduceAdd, Nat.reduceSub,
    z_gI, z_add, z_lt, z_le, z_int, z_intb, z_ixr, z_ixt, z_ixk, z_ixs, z_ixl, z_asQ, z_asQt, z_asQk, z_asQs, z_asQl, z_asL, z_asLl, z_at0, z_at1, z_at2, z_store, z_i20, z_i21, z_eq, z_ne, z_max2, z_min2, z_addt, z_sl, z_trb, z_trt, z_trk, z_trl, z_trs, List.isEmpty_cons, List.isEmpty_nil, Bool.not_true, Bool.not_false, z_len, z_lenl, z_lenk, z_lenr, z_lens, MS.set_set, MS.set_same]
  refine for_inv (fun i ρ M' => M' = M ∧ ∃ o o', ρ = [some (.int many), some (.tup (l.map tupOf)), o, o']) (fun _ _ _ _ => trivial) ?_ ?_ ⟨rfl, none, none, rfl⟩
  · rintro i d ρ M' hd ⟨rfl, o, o', rfl⟩
    obtain ⟨y, hy, rfl⟩ := enumD_get2 hd
    rw [List.getElem?_map] at hy
    obtain ⟨r, hr, rfl⟩ := Option.map_eq_some_iff.mp hy
    have hrd := h.rd r (List.mem_of_getElem? hr)
    refine ⟨_, rfl, fun K hK => ?_⟩
    simp only [dSeq, dIf, dTest, dBin, dVar, dC, dAsg, dStore, dRet, dB, dCons, dNil, dTup, dLst, dLstM, dDrop, dM, dCall, dCallK, dTru, dNotT, dAndT, dOrT, dAndE, dOrE, dNotE, dIfE, dChain, dChain3, dNeg, dFor, dPar, dSlice, dPart, dNoPart, z_fld, dSetF, dRaise, dRz, dNext, dBreak, dCont, dRetN, dYes, dComp, iSeq, iRange1, iRange2, DL.iZip, DL.iEnum, startD, retD, asg, asgs, asT, gMod, gMul, DL.gSub, gGt, gGe, gFdiv, gPow, wipeD, finF, finM, perm,
    List.map_cons, List.map_nil, List.length_cons, List.length_nil, List.replicate, List.cons_append, List.nil_append, List.getElem?_cons_zero, List.getElem?_cons_succ, List.set, List.getD_cons_zero, List.getD_cons_succ, Option.some.injEq, exists_eq_left', exists_eq_left, D.int.injEq, D.bl.injEq, D.ref.injEq, D.str.injEq, List.cons.injEq, and_true, true_and, exists_and_left, exists_and_right, decide_eq_true_eq, Bool.false_eq_true, if_true, if_false, ite_true, ite_false, Nat.zero_add, Nat.reduceAdd, Nat.reduceSub,
    z_gI, z_add, z_lt, z_le, z_int, z_intb, z_ixr, z_ixt, z_ixk, z_ixs, z_ixl, z_asQ, z_asQt, z_asQk, z_asQs, z_asQl, z_asL, z_asLl, z_at0, z_at1, z_at2, z_store, z_i20, z_i21, z_eq, z_ne, z_max2, z_min2, z_addt, z_sl, z_trb, z_trt, z_trk, z_trl, z_trs, List.isEmpty_cons, List.isEmpty_nil, Bool.not_true, Bool.not_false, z_len, z_lenl, z_lenk, z_lenr, z_lens, MS.set_set, MS.set_same]
    refine road_spec F hrd ?_
    refine ⟨true, rfl, ?_⟩
    rw [if_neg (by decide)]
    by_cases hi : (0 : Int) < i
    · rw [if_pos hi]
      obtain ⟨p, q, w, rfl, h1, h2, h3, h4, h5⟩ := hrd
      refine .inl ⟨[.int p, .int q, .int w], rfl, rfl, ?_, fun es e => by unfold tupOf at e; cases e⟩
      rw [cut2]
      obtain ⟨j, rfl⟩ : ∃ j, i = j + 1 := ⟨i - 1, by omega⟩
      have hj : j < l.length := by have := (List.getElem?_eq_some_iff.mp hr).1; omega
      have ej : ((j + 1 : Nat) : Int) - 1 = (j : Nat) := by omega
      rw [ej]
      have hjl : j < (l.map tupOf).length := by rw [List.length_map]; exact hj
      refine ⟨_, (at_nat hjl).trans (List.getElem?_eq_getElem hjl), ?_⟩
      rw [List.getElem_map]
      have hrj := h.rd l[j] (List.getElem_mem hj)
      have lt := pair_get h.asc (Nat.lt_succ_self j) (List.getElem?_eq_getElem hj) hr
      obtain ⟨p', q', w', e', h1', h2', h3', h4', h5'⟩ := hrj
      rw [e'] at lt ⊢
      refine .inl ⟨[.int p', .int q', .int w'], rfl, rfl, ?_, fun es e => by unfold tupOf at e; cases e⟩
      rw [cut2]
      refine ⟨[p, q], [p', q'], rfl, rfl, false, ?_, ?_⟩
      · have z := lt_pr (many := many) ⟨p, q, w, rfl, h1, h2, h3, h4, h5⟩ ⟨p', q', w', rfl, h1', h2', h3', h4', h5'⟩ lt
        exact congrArg D.bl z
      · rw [if_neg Bool.false_ne_true]
        exact hK _ _ ⟨rfl, _, _, rfl⟩
    · rw [if_neg hi]
      try rw [if_neg Bool.false_ne_true]
      exact hK _ _ ⟨rfl, _, _, rfl⟩
  · rintro ρ M' ⟨rfl, o, o', rfl⟩
    simp only [dSeq, dIf, dTest, dBin, dVar, dC, dAsg, dStore, dRet, dB, dCons, dNil, dTup, dLst, dLstM, dDrop, dM, dCall, dCallK, dTru, dNotT, dAndT, dOrT, dAndE, dOrE, dNotE, dIfE, dChain, dChain3, dNeg, dFor, dPar, dSlice, dPart, dNoPart, z_fld, dSetF, dRaise, dRz, dNext, dBreak, dCont, dRetN, dYes, dComp, iSeq, iRange1, iRange2, DL.iZip, DL.iEnum, startD, retD, asg, asgs, asT, gMod, gMul, DL.gSub, gGt, gGe, gFdiv, gPow, wipeD, finF, finM, perm,
    List.map_cons, List.map_nil, List.length_cons, List.length_nil, List.replicate, List.cons_append, List.nil_append, List.getElem?_cons_zero, List.getElem?_cons_succ, List.set, List.getD_cons_zero, List.getD_cons_succ, Option.some.injEq, exists_eq_left', exists_eq_left, D.int.injEq, D.bl.injEq, D.ref.injEq, D.str.injEq, List.cons.injEq, and_true, true_and, exists_and_left, exists_and_right, decide_eq_true_eq, Bool.false_eq_true, if_true, if_false, ite_true, ite_false, Nat.zero_add, Nat.reduceAdd, Nat.reduceSub,
    z_gI, z_add, z_lt, z_le, z_int, z_intb, z_ixr, z_ixt, z_ixk, z_ixs, z_ixl, z_asQ, z_asQt, z_asQk, z_asQs, z_asQl, z_asL, z_asLl, z_at0, z_at1, z_at2, z_store, z_i20, z_i21, z_eq, z_ne, z_max2, z_min2, z_addt, z_sl, z_trb, z_trt, z_trk, z_trl, z_trs, List.isEmpty_cons, List.isEmpty_nil, Bool.not_true, Bool.not_false, z_len, z_lenl, z_lenk, z_lenr, z_lens, MS.set_set, MS.set_same]
    refine for_inv (fun i ρ M2 => M2 = M' ∧ ∃ o o', ρ = [some (.int many), some (.tup (l.map tupOf)), o, o']) (fun _ _ _ _ => trivial) ?_ ?_ ⟨rfl, o, o', rfl⟩
    · rintro i d ρ M' hd ⟨rfl, o, o', rfl⟩
      obtain ⟨y, hy, rfl⟩ := enumD_get2 hd
      rw [List.getElem?_map] at hy
      obtain ⟨r, hr, rfl⟩ := Option.map_eq_some_iff.mp hy
      obtain ⟨p, q, w, rfl, h1, h2, h3, h4, h5⟩ := h.rd r (List.mem_of_getElem? hr)
      refine ⟨_, rfl, fun K hK => ?_⟩
      simp only [tupOf, dSeq, dIf, dTest, dBin, dVar, dC, dAsg, dStore, dRet, dB, dCons, dNil, dTup, dLst, dLstM, dDrop, dM, dCall, dCallK, dTru, dNotT, dAndT, dOrT, dAndE, dOrE, dNotE, dIfE, dChain, dChain3, dNeg, dFor, dPar, dSlice, dPart, dNoPart, z_fld, dSetF, dRaise, dRz, dNext, dBreak, dCont, dRetN, dYes, dComp, iSeq, iRange1, iRange2, DL.iZip, DL.iEnum, startD, retD, asg, asgs, asT, gMod, gMul, DL.gSub, gGt, gGe, gFdiv, gPow, wipeD, finF, finM, perm,
    List.map_cons, List.map_nil, List.length_cons, List.length_nil, List.replicate, List.cons_append, List.nil_append, List.getElem?_cons_zero, List.getElem?_cons_succ, List.set, List.getD_cons_zero, List.getD_cons_succ, Option.some.injEq, exists_eq_left', exists_eq_left, D.int.injEq, D.bl.injEq, D.ref.injEq, D.str.injEq, List.cons.injEq, and_true, true_and, exists_and_left, exists_and_right, decide_eq_true_eq, Bool.false_eq_true, if_true, if_false, ite_true, ite_false, Nat.zero_add, Nat.reduceAdd, Nat.reduceSub,
    z_gI, z_add, z_lt, z_le, z_int, z_intb, z_ixr, z_ixt, z_ixk, z_ixs, z_ixl, z_asQ, z_asQt, z_asQk, z_asQs, z_asQl, z_asL, z_asLl, z_at0, z_at1, z_at2, z_store, z_i20, z_i21, z_eq, z_ne, z_max2, z_min2, z_addt, z_sl, z_trb, z_trt, z_trk, z_trl, z_trs, List.isEmpty_cons, List.isEmpty_nil, Bool.not_true, Bool.not_false, z_len, z_lenl, z_lenk, z_lenr, z_lens, MS.set_set, MS.set_same]
      refine len_spec ?_
      refine ⟨_, rfl, ?_⟩
      rw [decide_eq_true (show 1 ≤ w ∧ w ≤ 100 from ⟨h4, h5⟩), if_neg (by decide)]
      exact hK _ _ ⟨rfl, _, _, rfl⟩
    · rintro ρ M' ⟨rfl, o, o', rfl⟩
      exact RetOk.of k
end LW

set_option Elab.async false
set_option maxRecDepth 100000
set_option maxHeartbeats 4000000
namespace DL
open PySem PySem.Spec L2
/-- the neighbours of x, with lengths -/
def nbB (l : List (List Int)) (x : Int) : List (List Int) := (l.filter fun r => decide (r.getD 1 0 = x)).map fun r => [r.getD 0 0, r.getD 2 0]
def nbA (l : List (List Int)) (x : Int) : List (List Int) := (l.filter fun r => decide (r.getD 0 0 = x)).map fun r => [r.getD 1 0, r.getD 2 0]
def nb (l : List (List Int)) (x : Int) : List (List Int) := nbB l x ++ nbA l x
def atD (d : D) (i : Nat) : Int := match asT d with
  | some ds => (match ds.getD i .non with | .int q => q | _ => 0)
  | none => 0
theorem atD_tup {r : List Int} {i : Nat} : atD (tupOf r) i = r.getD i 0 := by
  show (match (r.map D.int).getD i .non with | .int q => q | _ => 0) = _
  rw [List.getD_eq_getElem?_getD, List.getD_eq_getElem?_getD, List.getElem?_map]
  cases r[i]? <;> rfl
theorem comp_roads {P : D → Bool} {f : D → D} {P' : List Int → Bool} {f' : List Int → List Int} (h1 : ∀ r, P (tupOf r) = P' r) (h2 : ∀ r, f (tupOf r) = tupOf (f' r)) (l : List (List Int)) : ((l.map tupOf).filter P).map f = ((l.filter P').map f').map tupOf := by
  rw [List.filter_map, List.map_map, List.map_map]
  have e1 : P ∘ tupOf = P' := funext h1
  have e2 : f ∘ tupOf = tupOf ∘ f' := funext h2
  rw [e1, e2]
end DL
namespace LW
open PySem PySem.Spec L2 DL
variable {G : GEnv} {M : MS} {Q : QD} {R : RK}
theorem tied_spec {many x : Int} {l : List (List Int)} (h : ∀ r ∈ l, IsRd many r) (hl : l.length ≤ 100) (k : Q (.tup ((nb l x).map tupOf)) M) : sp_tied G [.tup (l.map tupOf), .int x] M Q R := by
  refine ⟨rfl, ?_⟩
  simp only [T_tied, dSeq, dIf, dTest, dBin, dVar, dC, dAsg, dStore, dRet, dB, dCons, dNil, dTup, dLst, dLstM, dDrop, dM, dCall, dCallK, dTru, dNotT, dAndT, dOrT, dAndE, dOrE, dNotE, dIfE, dChain, dChain3, dNeg, dFor, dPar, dSlice, dPart, dNoPart, z_fld, dSetF, dRaise, dRz, dNext, dBreak, dCont, dRetN, dYes, dComp, iSeq, iRange1, iRange2, DL.iZip, DL.iEnum, startD, retD, asg, asgs, asT, gMod, gMul, DL.gSub, gGt, gGe, gFdiv, gPow, wipeD, finF, finM, perm,
    List.map_cons, List.map_nil, List.length_cons, List.length_nil, List.replicate, List.cons_append, List.nil_append, List.getElem?_cons_zero, List.getElem?_cons_succ, List.set, List.getD_cons_zero, List.getD_cons_succ, Option.some.injEq, exists_eq_left', exists_eq_left, D.int.injEq, D.bl.injEq, D.ref.injEq, D.str.injEq, List.cons.injEq, and_true, true_and, exists_and_left, exists_and_right, decide_eq_true_eq, Bool.false_eq_true, if_true, if_false, ite_true, ite_false, Nat.zero_add, Nat.reduceAdd, Nat.reduceSub,
    z_gI, z_add, z_lt, z_le, z_int, z_intb, z_ixr, z_ixt, z_ixk, z_ixs, z_ixl, z_asQ, z_asQt, z_asQk, z_asQs, z_asQl, z_asL, z_asLl, z_at0, z_at1, z_at2, z_store, z_i20, z_i21, z_eq, z_ne, z_max2, z_min2, z_addt, z_sl, z_trb, z_trt, z_trk, z_trl, z_trs, List.isEmpty_cons, List.isEmpty_nil, Bool.not_true, Bool.not_false, z_len, z_lenl, z_lenk, z_lenr, z_lens, MS.set_set, MS.set_same]
  have sh : ∀ d ∈ l.map tupOf, ∃ p q w, d = .tup [.int p, .int q, .int w] := fun d hd => by
    obtain ⟨r, hr, rfl⟩ := List.mem_map.mp hd
    obtain ⟨p, q, w, rfl, _⟩ := h r hr
    exact ⟨p, q, w, rfl⟩
  refine comp_map (fun d => decide (atD d 1 = x)) (fun d => tupOf [atD d 0, atD d 2]) trivial _ _ (fun d hd => ?_) (by simp; omega) ?_
  · obtain ⟨p, q, w, rfl⟩ := sh d hd
    refine ⟨_, rfl, fun Q' hq => ?_, fun _ Q' hq => ?_⟩
    · simp only [dSeq, dIf, dTest, dBin, dVar, dC, dAsg, dStore, dRet, dB, dCons, dNil, dTup, dLst, dLstM, dDrop, dM, dCall, dCallK, dTru, dNotT, dAndT, dOrT, dAndE, dOrE, dNotE, dIfE, dChain, dChain3, dNeg, dFor, dPar, dSlice, dPart, dNoPart, z_fld, dSetF, dRaise, dRz, dNext, dBreak, dCont, dRetN, dYes, dComp, iSeq, iRange1, iRange2, DL.iZip, DL.iEnum, startD, retD, asg, asgs, asT, gMod, gMul, DL.gSub, gGt, gGe, gFdiv, gPow, wipeD, finF, finM, perm,
    List.map_cons, List.map_nil, List.length_cons, List.length_nil, List.replicate, List.cons_append, List.nil_append, List.getElem?_cons_zero, List.getElem?_cons_succ, List.set, List.getD_cons_zero, List.getD_cons_succ, Option.some.injEq, exists_eq_left', exists_eq_left, D.int.injEq, D.bl.injEq, D.ref.injEq, D.str.injEq, List.cons.injEq, and_true, true_and, exists_and_left, exists_and_right, decide_eq_true_eq, Bool.false_eq_true, if_true, if_false, ite_true, ite_false, Nat.zero_add, Nat.reduceAdd, Nat.reduceSub,
    z_gI, z_add, z_lt, z_le, z_int, z_intb, z_ixr, z_ixt, z_ixk, z_ixs, z_ixl, z_asQ, z_asQt, z_asQk, z_asQs, z_asQl, z_asL, z_asLl, z_at0, z_at1, z_at2, z_store, z_i20, z_i21, z_eq, z_ne, z_max2, z_min2, z_addt, z_sl, z_trb, z_trt, z_trk, z_trl, z_trs, List.isEmpty_cons, List.isEmpty_nil, Bool.not_true, Bool.not_false, z_len, z_lenl, z_lenk, z_lenr, z_lens, MS.set_set, MS.set_same]; exact hq
    · simp only [dSeq, dIf, dTest, dBin, dVar, dC, dAsg, dStore, dRet, dB, dCons, dNil, dTup, dLst, dLstM, dDrop, dM, dCall, dCallK, dTru, dNotT, dAndT, dOrT, dAndE, dOrE, dNotE, dIfE, dChain, dChain3, dNeg, dFor, dPar, dSlice, dPart, dNoPart, z_fld, dSetF, dRaise, dRz, dNext, dBreak, dCont, dRetN, dYes, dComp, iSeq, iRange1, iRange2, DL.iZip, DL.iEnum, startD, retD, asg, asgs, asT, gMod, gMul, DL.gSub, gGt, gGe, gFdiv, gPow, wipeD, finF, finM, perm,
    List.map_cons, List.map_nil, List.length_cons, List.length_nil, List.replicate, List.cons_append, List.nil_append, List.getElem?_cons_zero, List.getElem?_cons_succ, List.set, List.getD_cons_zero, List.getD_cons_succ, Option.some.injEq, exists_eq_left', exists_eq_left, D.int.injEq, D.bl.injEq, D.ref.injEq, D.str.injEq, List.cons.injEq, and_true, true_and, exists_and_left, exists_and_right, decide_eq_true_eq, Bool.false_eq_true, if_true, if_false, ite_true, ite_false, Nat.zero_add, Nat.reduceAdd, Nat.reduceSub,
    z_gI, z_add, z_lt, z_le, z_int, z_intb, z_ixr, z_ixt, z_ixk, z_ixs, z_ixl, z_asQ, z_asQt, z_asQk, z_asQs, z_asQl, z_asL, z_asLl, z_at0, z_at1, z_at2, z_store, z_i20, z_i21, z_eq, z_ne, z_max2, z_min2, z_addt, z_sl, z_trb, z_trt, z_trk, z_trl, z_trs, List.isEmpty_cons, List.isEmpty_nil, Bool.not_true, Bool.not_false, z_len, z_lenl, z_lenk, z_lenr, z_lens, MS.set_set, MS.set_same]; exact ⟨by decide, hq⟩
  · rw [comp_roads (P' := fun r => decide (r.getD 1 0 = x)) (f' := fun r => [r.getD 0 0, r.getD 2 0]) (fun r => by rw [atD_tup]) (fun r => by rw [atD_tup, atD_tup]), List.nil_append]
    try simp only [dSeq, dIf, dTest, dBin, dVar, dC, dAsg, dStore, dRet, dB, dCons, dNil, dTup, dLst, dLstM, dDrop, dM, dCall, dCallK, dTru, dNotT, dAndT, dOrT, dAndE, dOrE, dNotE, dIfE, dChain, dChain3, dNeg, dFor, dPar, dSlice, dPart, dNoPart, z_fld, dSetF, dRaise, dRz, dNext, dBreak, dCont, dRetN, dYes, dComp, iSeq, iRange1, iRange2, DL.iZip, DL.iEnum, startD, retD, asg, asgs, asT, gMod, gMul, DL.gSub, gGt, gGe, gFdiv, gPow, wipeD, finF, finM, perm,
    List.map_cons, List.map_nil, List.length_cons, List.length_nil, List.replicate, List.cons_append, List.nil_append, List.getElem?_cons_zero, List.getElem?_cons_succ, List.set, List.getD_cons_zero, List.getD_cons_succ, Option.some.injEq, exists_eq_left', exists_eq_left, D.int.injEq, D.bl.injEq, D.ref.injEq, D.str.injEq, List.cons.injEq, and_true, true_and, exists_and_left, exists_and_right, decide_eq_true_eq, Bool.false_eq_true, if_true, if_false, ite_true, ite_false, Nat.zero_add, Nat.reduceAdd, Nat.reduceSub,
    z_gI, z_add, z_lt, z_le, z_int, z_intb, z_ixr, z_ixt, z_ixk, z_ixs, z_ixl, z_asQ, z_asQt, z_asQk, z_asQs, z_asQl, z_asL, z_asLl, z_at0, z_at1, z_at2, z_store, z_i20, z_i21, z_eq, z_ne, z_max2, z_min2, z_addt, z_sl, z_trb, z_trt, z_trk, z_trl, z_trs, List.isEmpty_cons, List.isEmpty_nil, Bool.not_true, Bool.not_false, z_len, z_lenl, z_lenk, z_lenr, z_lens, MS.set_set, MS.set_same]
    refine comp_map (fun d => decide (atD d 0 = x)) (fun d => tupOf [atD d 1, atD d 2]) trivial _ _ (fun d hd => ?_) (by simp; omega) ?_
    · obtain ⟨p, q, w, rfl⟩ := sh d hd
      refine ⟨_, rfl, fun Q' hq => ?_, fun _ Q' hq => ?_⟩
      · simp only [dSeq, dIf, dTest, dBin, dVar, dC, dAsg, dStore, dRet, dB, dCons, dNil, dTup, dLst, dLstM, dDrop, dM, dCall, dCallK, dTru, dNotT, dAndT, dOrT, dAndE, dOrE, dNotE, dIfE, dChain, dChain3, dNeg, dFor, dPar, dSlice, dPart, dNoPart, z_fld, dSetF, dRaise, dRz, dNext, dBreak, dCont, dRetN, dYes, dComp, iSeq, iRange1, iRange2, DL.iZip, DL.iEnum, startD, retD, asg, asgs, asT, gMod, gMul, DL.gSub, gGt, gGe, gFdiv, gPow, wipeD, finF, finM, perm,
    List.map_cons, List.map_nil, List.length_cons, List.length_nil, List.replicate, List.cons_append, List.nil_append, List.getElem?_cons_zero, List.getElem?_cons_succ, List.set, List.getD_cons_zero, List.getD_cons_succ, Option.some.injEq, exists_eq_left', exists_eq_left, D.int.injEq, D.bl.injEq, D.ref.injEq, D.str.injEq, List.cons.injEq, and_true, true_and, exists_and_left, exists_and_right, decide_eq_true_eq, Bool.false_eq_true, if_true, if_false, ite_true, ite_false, Nat.zero_add, Nat.reduceAdd, Nat.reduceSub,
    z_gI, z_add, z_lt, z_le, z_int, z_intb, z_ixr, z_ixt, z_ixk, z_ixs, z_ixl, z_asQ, z_asQt, z_asQk, z_asQs, z_asQl, z_asL, z_asLl, z_at0, z_at1, z_at2, z_store, z_i20, z_i21, z_eq, z_ne, z_max2, z_min2, z_addt, z_sl, z_trb, z_trt, z_trk, z_trl, z_trs, List.isEmpty_cons, List.isEmpty_nil, Bool.not_true, Bool.not_false, z_len, z_lenl, z_lenk, z_lenr, z_lens, MS.set_set, MS.set_same]; exact hq
      · simp only [dSeq, dIf, dTest, dBin, dVar, dC, dAsg, dStore, dRet, dB, dCons, dNil, dTup, dLst, dLstM, dDrop, dM, dCall, dCallK, dTru, dNotT, dAndT, dOrT, dAndE, dOrE, dNotE, dIfE, dChain, dChain3, dNeg, dFor, dPar, dSlice, dPart, dNoPart, z_fld, dSetF, dRaise, dRz, dNext, dBreak, dCont, dRetN, dYes, dComp, iSeq, iRange1, iRange2, DL.iZip, DL.iEnum, startD, retD, asg, asgs, asT, gMod, gMul, DL.gSub, gGt, gGe, gFdiv, gPow, wipeD, finF, finM, perm,
    List.map_cons, List.map_nil, List.length_cons, List.length_nil, List.replicate, List.cons_append, List.nil_append, List.getElem?_cons_zero, List.getElem?_cons_succ, List.set, List.getD_cons_zero, List.getD_cons_succ, Option.some.injEq, exists_eq_left', exists_eq_left, D.int.injEq, D.bl.injEq, D.ref.injEq, D.str.injEq, List.cons.injEq, and_true, true_and, exists_and_left, exists_and_right, decide_eq_true_eq, Bool.false_eq_true, if_true, if_false, ite_true, ite_false, Nat.zero_add, Nat.reduceAdd, Nat.reduceSub,
    z_gI, z_add, z_lt, z_le, z_int, z_intb, z_ixr, z_ixt, z_ixk, z_ixs, z_ixl, z_asQ, z_asQt, z_asQk, z_asQs, z_asQl, z_asL, z_asLl, z_at0, z_at1, z_at2, z_store, z_i20, z_i21, z_eq, z_ne, z_max2, z_min2, z_addt, z_sl, z_trb, z_trt, z_trk, z_trl, z_trs, List.isEmpty_cons, List.isEmpty_nil, Bool.not_true, Bool.not_false, z_len, z_lenl, z_lenk, z_lenr, z_lens, MS.set_set, MS.set_same]; exact ⟨by decide, hq⟩
    · rw [comp_roads (P' := fun r => decide (r.getD 0 0 = x)) (f' := fun r => [r.getD 1 0, r.getD 2 0]) (fun r => by rw [atD_tup]) (fun r => by rw [atD_tup, atD_tup]), List.nil_append]
      try simp only [dSeq, dIf, dTest, dBin, dVar, dC, dAsg, dStore, dRet, dB, dCons, dNil, dTup, dLst, dLstM, dDrop, dM, dCall, dCallK, dTru, dNotT, dAndT, dOrT, dAndE, dOrE, dNotE, dIfE, dChain, dChain3, dNeg, dFor, dPar, dSlice, dPart, dNoPart, z_fld, dSetF, dRaise, dRz, dNext, dBreak, dCont, dRetN, dYes, dComp, iSeq, iRange1, iRange2, DL.iZip, DL.iEnum, startD, retD, asg, asgs, asT, gMod, gMul, DL.gSub, gGt, gGe, gFdiv, gPow, wipeD, finF, finM, perm,
    List.map_cons, List.map_nil, List.length_cons, List.length_nil, List.replicate, List.cons_append, List.nil_append, List.getElem?_cons_zero, List.getElem?_cons_succ, List.set, List.getD_cons_zero, List.getD_cons_succ, Option.some.injEq, exists_eq_left', exists_eq_left, D.int.injEq, D.bl.injEq, D.ref.injEq, D.str.injEq, List.cons.injEq, and_true, true_and, exists_and_left, exists_and_right, decide_eq_true_eq, Bool.false_eq_true, if_true, if_false, ite_true, ite_false, Nat.zero_add, Nat.reduceAdd, Nat.reduceSub,
    z_gI, z_add, z_lt, z_le, z_int, z_intb, z_ixr, z_ixt, z_ixk, z_ixs, z_ixl, z_asQ, z_asQt, z_asQk, z_asQs, z_asQl, z_asL, z_asLl, z_at0, z_at1, z_at2, z_store, z_i20, z_i21, z_eq, z_ne, z_max2, z_min2, z_addt, z_sl, z_trb, z_trt, z_trk, z_trl, z_trs, List.isEmpty_cons, List.isEmpty_nil, Bool.not_true, Bool.not_false, z_len, z_lenl, z_lenk, z_lenr, z_lens, MS.set_set, MS.set_same]
      refine ⟨_, _, rfl, rfl, ?_, ?_⟩
      · rw [List.length_map, List.length_map, List.length_map, List.length_map, sizeLine_eq]
        have a1 := List.length_filter_le (fun r => decide (r.getD 1 0 = x)) l
        have a2 := List.length_filter_le (fun r => decide (r.getD 0 0 = x)) l
        omega
      · refine ⟨_, rfl, .inr ⟨_, rfl, RetOk.of ?_⟩⟩
        rw [← List.map_append]
        exact k
end LW

set_option Elab.async false
set_option maxRecDepth 100000
set_option maxHeartbeats 4000000
namespace DL
open PySem PySem.Spec L2
theorem while_inv {c : TTD} {tb : TSD} {D0 : EndsD} (Inv : Nat → Rho → MS → Prop)
    (step : ∀ m ρ M, Inv m ρ M → ∀ K : Rho → MS → Prop, (∀ m' ρ' M', m' < m → Inv m' ρ' M' → K ρ' M') → c ρ M (fun b M1 => if b = true then tb { D0 with nx := K, ct := K, bk := D0.nx } ρ M1 else D0.nx ρ M1) (dRz D0 ρ))
    {m : Nat} {ρ : Rho} {M : MS} (h : Inv m ρ M) : dWhile c tb D0 ρ M := by
  have go : ∀ (n m : Nat) (ρ : Rho) (M : MS), m < n → Inv m ρ M → dWhGo c tb D0 n ρ M := by
    intro n
    induction n with
    | zero => intro m ρ M h; omega
    | succ n ih =>
      intro m ρ M hm h
      exact step m ρ M h (dWhGo c tb D0 n) fun m' ρ' M' hm' h' => ih m' ρ' M' (by omega) h'
  exact ⟨m + 1, go (m + 1) m ρ M (Nat.lt_succ_self m) h⟩
theorem filter_lt {α : Type} {p q : α → Bool} {a : α} : ∀ {l : List α}, (∀ x ∈ l, q x = true → p x = true) → a ∈ l → p a = true → q a = false → (l.filter q).length < (l.filter p).length
  | x :: l, h, ha, hp, hq => by
    have hle : ∀ (l : List α), (∀ x ∈ l, q x = true → p x = true) → (l.filter q).length ≤ (l.filter p).length := by
      intro l
      induction l with
      | nil => intro _; exact Nat.le_refl _
      | cons y l ih =>
        intro h
        have z := ih fun x hx => h x (List.mem_cons_of_mem _ hx)
        by_cases c : q y = true
        · rw [List.filter_cons_of_pos c, List.filter_cons_of_pos (h y List.mem_cons_self c)]
          simpa using z
        · rw [List.filter_cons_of_neg c]
          by_cases d : p y = true
          · rw [List.filter_cons_of_pos d, List.length_cons]; omega
          · rw [List.filter_cons_of_neg d]; exact z
    by_cases e : x = a
    · subst e
      rw [List.filter_cons_of_neg (by rw [hq]; exact Bool.false_ne_true), List.filter_cons_of_pos hp, List.length_cons]
      have := hle l fun y hy => h y (List.mem_cons_of_mem _ hy)
      omega
    · have hal : a ∈ l := (List.mem_cons.mp ha).resolve_left (Ne.symm e)
      have z := filter_lt (l := l) (fun y hy => h y (List.mem_cons_of_mem _ hy)) hal hp hq
      by_cases c : q x = true
      · rw [List.filter_cons_of_pos c, List.filter_cons_of_pos (h x List.mem_cons_self c), List.length_cons, List.length_cons]; omega
      · rw [List.filter_cons_of_neg c]
        by_cases d : p x = true
        · rw [List.filter_cons_of_pos d, List.length_cons]; omega
        · rw [List.filter_cons_of_neg d]; exact z
/-- a dict of ints -/
abbrev ik (fs : List Int) : List Key := fs.map Sum.inl
theorem dGet_some {x : Int} : ∀ {fs : List Int} {ds : List D}, ds.length = fs.length → (dGet (ik fs) ds (Sum.inl x)).isSome = decide (x ∈ fs)
  | [], _, _ => by simp [dGet]
  | f :: fs, [], h => by simp at h
  | f :: fs, d :: ds, h => by
    show (if (Sum.inl f : Key) = Sum.inl x then some d else dGet (ik fs) ds (Sum.inl x)).isSome = _
    by_cases e : f = x
    · subst e; simp
    · rw [if_neg (fun z => e (Sum.inl.inj z)), dGet_some (by simpa using h)]
      simp [Ne.symm e]
theorem in_dict {M : MS} {x : Int} {fs : List Int} {ds : List D} {y : D} {Q : QD} (h : asDK M y = some (ik fs, ds)) (hl : ds.length = fs.length) (q : Q (.bl (!decide (x ∈ fs))) M) : gIn true (.int x) y M Q :=
  .inr ⟨_, .k h rfl, by rw [if_pos rfl, dGet_some hl]; exact q⟩
/-- unvisited -/
def unv (fs : List Int) : Nat := ((List.range 10).filter fun (i : Nat) => !decide ((i : Int) ∈ fs)).length
theorem unv_lt {fs : List Int} {p : Int} (h0 : 0 ≤ p) (h1 : p < 10) (h : p ∉ fs) : unv (fs ++ [p]) < unv fs := by
  refine filter_lt (a := p.toNat) (fun x _ hx => ?_) (List.mem_range.mpr (by omega)) ?_ ?_
  · simp only [List.mem_append, List.mem_singleton, not_or, Bool.not_eq_true', decide_eq_false_iff_not] at hx ⊢
    exact hx.1
  · rw [Int.toNat_of_nonneg h0]; simp [h]
  · rw [Int.toNat_of_nonneg h0]; simp
theorem nb_mem {l : List (List Int)} {x : Int} {many : Int} (h : ∀ r ∈ l, IsRd many r) {e : List Int} (he : e ∈ nb l x) : ∃ v w, e = [v, w] ∧ 0 ≤ v ∧ v < many := by
  rcases List.mem_append.mp he with z | z
  · obtain ⟨r, hr, rfl⟩ := List.mem_map.mp z
    obtain ⟨p, q, w, rfl, h1, h2, h3, _⟩ := h r (List.mem_filter.mp hr).1
    exact ⟨p, w, rfl, h1, by omega⟩
  · obtain ⟨r, hr, rfl⟩ := List.mem_map.mp z
    obtain ⟨p, q, w, rfl, h1, h2, h3, _⟩ := h r (List.mem_filter.mp hr).1
    exact ⟨q, w, rfl, by omega, h3⟩
theorem nb_par {l : List (List Int)} {p x w : Int} (h : [p, x, w] ∈ l) : [x, w] ∈ nb l p :=
  List.mem_append_right _ (List.mem_map.mpr ⟨[p, x, w], List.mem_filter.mpr ⟨h, by simp⟩, rfl⟩)
theorem nb_len {l : List (List Int)} {x : Int} (h : l.length ≤ 100) : (nb l x).length ≤ 200 := by
  unfold nb nbB nbA
  rw [List.length_append, List.length_map, List.length_map]
  have a1 := List.length_filter_le (fun r => decide (r.getD 1 0 = x)) l
  have a2 := List.length_filter_le (fun r => decide (r.getD 0 0 = x)) l
  omega
/-- all places come to by parents -/
theorem all_of_par {many : Int} {l : List (List Int)} {fs : List Int} (h : Par many l) (h0 : (0 : Int) ∈ fs) (cl : ∀ u ∈ fs, ∀ e ∈ nb l u, ∃ v w, e = [v, w] ∧ v ∈ fs) : ∀ n : Nat, (n : Int) < many → (n : Int) ∈ fs := by
  intro n
  induction n using Nat.strongRecOn with
  | _ n ih =>
    intro hn
    by_cases e : n = 0
    · subst e; exact h0
    · obtain ⟨p, w, hm, p0, p1⟩ := h n (by omega) hn
      have hp := ih p.toNat (by omega) (by omega)
      rw [Int.toNat_of_nonneg p0] at hp
      obtain ⟨v, w', e', hv⟩ := cl p hp _ (nb_par hm)
      injection e' with e1 _
      rw [e1]; exact hv
end DL
namespace LW
open PySem PySem.Spec L2 DL
open PySem.HQ (HeapOk)
variable {G : GEnv} {M : MS} {Q : QD} {R : RK}
theorem reach_spec {many : Int} {l : List (List Int)} (h : Rds many l) (hl : l.length ≤ 100) (h1 : 1 ≤ many) (h2 : many ≤ 10) (k : ∀ fs ds, ds.length = fs.length → (∀ n : Nat, (n : Int) < many → (n : Int) ∈ fs) → Q (.dk (ik fs) ds) M) : sp_lengths_from G [.tup (l.map tupOf), .int 0] M Q R := by
  refine ⟨rfl, ?_⟩
  simp only [T_lengths_from, dDictK0, dSeq, dIf, dTest, dBin, dVar, dC, dAsg, dStore, dRet, dB, dCons, dNil, dTup, dLst, dLstM, dDrop, dM, dCall, dCallK, dTru, dNotT, dAndT, dOrT, dAndE, dOrE, dNotE, dIfE, dChain, dChain3, dNeg, dFor, dPar, dSlice, dPart, dNoPart, z_fld, dSetF, dRaise, dRz, dNext, dBreak, dCont, dRetN, dYes, dComp, iSeq, iRange1, iRange2, DL.iZip, DL.iEnum, startD, retD, asg, asgs, asT, gMod, gMul, DL.gSub, gGt, gGe, gFdiv, gPow, wipeD, finF, finM, perm,
    List.map_cons, List.map_nil, List.length_cons, List.length_nil, List.replicate, List.cons_append, List.nil_append, List.getElem?_cons_zero, List.getElem?_cons_succ, List.set, List.getD_cons_zero, List.getD_cons_succ, Option.some.injEq, exists_eq_left', exists_eq_left, D.int.injEq, D.bl.injEq, D.ref.injEq, D.str.injEq, List.cons.injEq, and_true, true_and, exists_and_left, exists_and_right, decide_eq_true_eq, Bool.false_eq_true, if_true, if_false, ite_true, ite_false, Nat.zero_add, Nat.reduceAdd, Nat.reduceSub,
    z_gI, z_add, z_lt, z_le, z_int, z_intb, z_ixr, z_ixt, z_ixk, z_ixs, z_ixl, z_asQ, z_asQt, z_asQk, z_asQs, z_asQl, z_asL, z_asLl, z_at0, z_at1, z_at2, z_store, z_i20, z_i21, z_eq, z_ne, z_max2, z_min2, z_addt, z_sl, z_trb, z_trt, z_trk, z_trl, z_trs, List.isEmpty_cons, List.isEmpty_nil, Bool.not_true, Bool.not_false, z_len, z_lenl, z_lenk, z_lenr, z_lens, MS.set_set, MS.set_same]
  intro fd hfd
  refine ⟨by decide, by decide, fun qd hqd => ?_⟩
  have hne : qd ≠ fd := fun z => by rw [z, MS.set_same] at hqd; cases hqd
  have hqd0 : M qd = none := by rw [MS.set_ne hne] at hqd; exact hqd
  refine while_inv (fun m ρ M' => ∃ (fs : List Int) (ds : List D) (q : List (List Int)) (o4 o5 o6 o7 : Option D), ρ = [some (.tup (l.map tupOf)), some (.int 0), some (.ref fd), some (.ref qd), o4, o5, o6, o7] ∧ M' = (M.set fd (.dk (ik fs) ds)).set qd (.lst (q.map tupOf)) ∧
    ds.length = fs.length ∧ HeapOk LeI q ∧ (∀ e ∈ q, ∃ len p, e = [len, p] ∧ 0 ≤ p ∧ p < many) ∧ (∀ u ∈ fs, ∀ e ∈ nb l u, ∃ v w, e = [v, w] ∧ (v ∈ fs ∨ ∃ len, [len, v] ∈ q)) ∧ ((0 : Int) ∈ fs ∨ ∃ len, [len, 0] ∈ q) ∧ q.length + unv fs * 201 ≤ m ∧ fs.length + m ≤ 3000) (m := 3000) ?_
    ⟨[], [], [[0, 0]], none, none, none, none, rfl, rfl, rfl, fun i x y hi hx hy => ?_, ?_, fun u hu => (by cases hu), .inr ⟨0, List.mem_singleton.mpr rfl⟩, by decide, by decide⟩
  · rintro m ρ M' ⟨fs, ds, q, o4, o5, o6, o7, rfl, rfl, hds, hH, hq, hcl, h0, hm, hfm⟩ K hK
    simp only [dSeq, dIf, dTest, dBin, dVar, dC, dAsg, dStore, dRet, dB, dCons, dNil, dTup, dLst, dLstM, dDrop, dM, dCall, dCallK, dTru, dNotT, dAndT, dOrT, dAndE, dOrE, dNotE, dIfE, dChain, dChain3, dNeg, dFor, dPar, dSlice, dPart, dNoPart, z_fld, dSetF, dRaise, dRz, dNext, dBreak, dCont, dRetN, dYes, dComp, iSeq, iRange1, iRange2, DL.iZip, DL.iEnum, startD, retD, asg, asgs, asT, gMod, gMul, DL.gSub, gGt, gGe, gFdiv, gPow, wipeD, finF, finM, perm,
    List.map_cons, List.map_nil, List.length_cons, List.length_nil, List.replicate, List.cons_append, List.nil_append, List.getElem?_cons_zero, List.getElem?_cons_succ, List.set, List.getD_cons_zero, List.getD_cons_succ, Option.some.injEq, exists_eq_left', exists_eq_left, D.int.injEq, D.bl.injEq, D.ref.injEq, D.str.injEq, List.cons.injEq, and_true, true_and, exists_and_left, exists_and_right, decide_eq_true_eq, Bool.false_eq_true, if_true, if_false, ite_true, ite_false, Nat.zero_add, Nat.reduceAdd, Nat.reduceSub,
    z_gI, z_add, z_lt, z_le, z_int, z_intb, z_ixr, z_ixt, z_ixk, z_ixs, z_ixl, z_asQ, z_asQt, z_asQk, z_asQs, z_asQl, z_asL, z_asLl, z_at0, z_at1, z_at2, z_store, z_i20, z_i21, z_eq, z_ne, z_max2, z_min2, z_addt, z_sl, z_trb, z_trt, z_trk, z_trl, z_trs, List.isEmpty_cons, List.isEmpty_nil, Bool.not_true, Bool.not_false, z_len, z_lenl, z_lenk, z_lenr, z_lens, MS.set_set, MS.set_same]
    have hqg : ∀ A L, ((M.set fd A).set qd (.lst L)) qd = some (.lst L) := fun A L => MS.set_same
    rw [List.length_map]
    by_cases hq0 : (0 : Int) < (q.length : Int)
    · rw [if_pos (by simpa using hq0)]
      have hqne : q ≠ [] := fun z => by rw [z] at hq0; simp at hq0
      refine ⟨qd, _, q, rfl, hqg _ _, tupsI_of q, hqne, hH, fun ms q' pm hH' hmin => ?_⟩
      obtain ⟨len, p, rfl, p0, p1⟩ := hq ms (pm.mem_iff.mp List.mem_cons_self)
      rw [MS.set_set]
      refine ⟨_, rfl, ?_⟩
      simp only [dSeq, dIf, dTest, dBin, dVar, dC, dAsg, dStore, dRet, dB, dCons, dNil, dTup, dLst, dLstM, dDrop, dM, dCall, dCallK, dTru, dNotT, dAndT, dOrT, dAndE, dOrE, dNotE, dIfE, dChain, dChain3, dNeg, dFor, dPar, dSlice, dPart, dNoPart, z_fld, dSetF, dRaise, dRz, dNext, dBreak, dCont, dRetN, dYes, dComp, iSeq, iRange1, iRange2, DL.iZip, DL.iEnum, startD, retD, asg, asgs, asT, gMod, gMul, DL.gSub, gGt, gGe, gFdiv, gPow, wipeD, finF, finM, perm,
    List.map_cons, List.map_nil, List.length_cons, List.length_nil, List.replicate, List.cons_append, List.nil_append, List.getElem?_cons_zero, List.getElem?_cons_succ, List.set, List.getD_cons_zero, List.getD_cons_succ, Option.some.injEq, exists_eq_left', exists_eq_left, D.int.injEq, D.bl.injEq, D.ref.injEq, D.str.injEq, List.cons.injEq, and_true, true_and, exists_and_left, exists_and_right, decide_eq_true_eq, Bool.false_eq_true, if_true, if_false, ite_true, ite_false, Nat.zero_add, Nat.reduceAdd, Nat.reduceSub,
    z_gI, z_add, z_lt, z_le, z_int, z_intb, z_ixr, z_ixt, z_ixk, z_ixs, z_ixl, z_asQ, z_asQt, z_asQk, z_asQs, z_asQl, z_asL, z_asLl, z_at0, z_at1, z_at2, z_store, z_i20, z_i21, z_eq, z_ne, z_max2, z_min2, z_addt, z_sl, z_trb, z_trt, z_trk, z_trl, z_trs, List.isEmpty_cons, List.isEmpty_nil, Bool.not_true, Bool.not_false, z_len, z_lenl, z_lenk, z_lenr, z_lens, MS.set_set, MS.set_same]
      have hlen : q'.length + 1 = q.length := by have := pm.length_eq; simpa using this
      have hq' : ∀ e ∈ q', ∃ len p, e = [len, p] ∧ 0 ≤ p ∧ p < many := fun e he => hq e (pm.mem_iff.mp (List.mem_cons_of_mem _ he))
      have inq : ∀ v, (∃ len, [len, v] ∈ q) → v = p ∨ ∃ len, [len, v] ∈ q' := fun v ⟨len', hv⟩ => by
        rcases List.mem_cons.mp (pm.mem_iff.mpr hv) with z | z
        · injection z with _ z; injection z with z _; exact .inl z
        · exact .inr ⟨len', z⟩
      have hfg : asDK ((M.set fd (.dk (ik fs) ds)).set qd (.lst (q'.map tupOf))) (.ref fd) = some (ik fs, ds) := by simp [asDK, MS.set_ne (Ne.symm hne), MS.set_same]
      refine in_dict hfg hds ?_
      refine ⟨_, rfl, ?_⟩
      by_cases hp : p ∈ fs
      · rw [if_neg (by simp [hp])]
        refine hK (m - 1) _ _ (by omega) ⟨fs, ds, q', _, _, _, _, rfl, rfl, hds, hH', hq', fun u hu e he => ?_, ?_, by omega, by omega⟩
        · obtain ⟨v, w, e1, z⟩ := hcl u hu e he
          refine ⟨v, w, e1, ?_⟩
          rcases z with z | z
          · exact .inl z
          · rcases inq v z with z | z
            · rw [z]; exact .inl hp
            · exact .inr z
        · rcases h0 with z | z
          · exact .inl z
          · rcases inq 0 z with z | z
            · rw [z]; exact .inl hp
            · exact .inr z
      · rw [if_pos (by simp [hp])]
        have hnk : ¬ (Sum.inl p : Key) ∈ ik fs := fun z => by
          obtain ⟨x, hx, ex⟩ := List.mem_map.mp z
          rw [← Sum.inl.inj ex] at hp
          exact hp hx
        refine .inr (.inl ⟨fd, ik fs, ds, Sum.inl p, rfl, rfl, by rw [MS.set_ne (Ne.symm hne), MS.set_same], by rw [List.length_map, sizeLine_eq]; omega, ?_⟩)
        have ek : dPutK (ik fs) (Sum.inl p) = ik (fs ++ [p]) := by unfold dPutK; rw [if_neg hnk]; simp [ik]
        have ev : dPutV (ik fs) ds (Sum.inl p) (.int len) = ds ++ [.int len] := by unfold dPutV; rw [if_neg hnk]
        rw [ek, ev, MS.comm (Ne.symm hne), MS.set_set]
        refine tied_spec h.rd hl ?_
        refine ⟨_, rfl, ?_⟩
        have hun := unv_lt p0 (by omega) hp
        have hds' : (ds ++ [D.int len]).length = (fs ++ [p]).length := by simp [hds]
        generalize ds ++ [D.int len] = ds' at hds'
        refine for_inv (fun i ρ M' => ∃ (q2 : List (List Int)) (o6 o7 : Option D), ρ = [some (.tup (l.map tupOf)), some (.int 0), some (.ref fd), some (.ref qd), some (.int len), some (.int p), o6, o7] ∧ M' = (M.set fd (.dk (ik (fs ++ [p])) ds')).set qd (.lst (q2.map tupOf)) ∧
          HeapOk LeI q2 ∧ q2.length = q'.length + i ∧ (∀ e ∈ q2, ∃ len p, e = [len, p] ∧ 0 ≤ p ∧ p < many) ∧ (∀ e ∈ q', e ∈ q2) ∧ ∀ j, j < i → ∀ v w, (nb l p)[j]? = some [v, w] → ∃ len, [len, v] ∈ q2) (fun _ _ _ _ => rfl) ?_ ?_
          ⟨q', o6, o7, rfl, rfl, hH', rfl, hq', fun e he => he, fun j hj => absurd hj (Nat.not_lt_zero j)⟩
        · rintro i d ρ M' hd ⟨q2, o6, o7, rfl, rfl, g1, g2, g3, g4, g5⟩
          rw [List.getElem?_map] at hd
          obtain ⟨r, hr, rfl⟩ := Option.map_eq_some_iff.mp hd
          obtain ⟨v, w, rfl, v0, v1⟩ := nb_mem h.rd (List.mem_of_getElem? hr)
          have hi : i < (nb l p).length := (List.getElem?_eq_some_iff.mp hr).1
          have hnl := nb_len (x := p) hl
          refine ⟨_, rfl, fun K' hK' => ?_⟩
          simp only [dSeq, dIf, dTest, dBin, dVar, dC, dAsg, dStore, dRet, dB, dCons, dNil, dTup, dLst, dLstM, dDrop, dM, dCall, dCallK, dTru, dNotT, dAndT, dOrT, dAndE, dOrE, dNotE, dIfE, dChain, dChain3, dNeg, dFor, dPar, dSlice, dPart, dNoPart, z_fld, dSetF, dRaise, dRz, dNext, dBreak, dCont, dRetN, dYes, dComp, iSeq, iRange1, iRange2, DL.iZip, DL.iEnum, startD, retD, asg, asgs, asT, gMod, gMul, DL.gSub, gGt, gGe, gFdiv, gPow, wipeD, finF, finM, perm,
    List.map_cons, List.map_nil, List.length_cons, List.length_nil, List.replicate, List.cons_append, List.nil_append, List.getElem?_cons_zero, List.getElem?_cons_succ, List.set, List.getD_cons_zero, List.getD_cons_succ, Option.some.injEq, exists_eq_left', exists_eq_left, D.int.injEq, D.bl.injEq, D.ref.injEq, D.str.injEq, List.cons.injEq, and_true, true_and, exists_and_left, exists_and_right, decide_eq_true_eq, Bool.false_eq_true, if_true, if_false, ite_true, ite_false, Nat.zero_add, Nat.reduceAdd, Nat.reduceSub,
    z_gI, z_add, z_lt, z_le, z_int, z_intb, z_ixr, z_ixt, z_ixk, z_ixs, z_ixl, z_asQ, z_asQt, z_asQk, z_asQs, z_asQl, z_asL, z_asLl, z_at0, z_at1, z_at2, z_store, z_i20, z_i21, z_eq, z_ne, z_max2, z_min2, z_addt, z_sl, z_trb, z_trt, z_trk, z_trl, z_trs, List.isEmpty_cons, List.isEmpty_nil, Bool.not_true, Bool.not_false, z_len, z_lenl, z_lenk, z_lenr, z_lens, MS.set_set, MS.set_same]
          refine ⟨by decide, qd, [len + w, v], _, q2, rfl, MS.set_same, tupsI_of q2, by rw [sizeLine_eq]; omega, g1, fun q3 pm3 hH3 => ?_⟩
          rw [MS.set_set]
          refine hK' _ _ ⟨q3, _, _, rfl, rfl, hH3, by have := pm3.length_eq; rw [List.length_cons] at this; omega, fun e he => ?_, fun e he => pm3.mem_iff.mpr (List.mem_cons_of_mem _ (g4 e he)), fun j hj x y hxy => ?_⟩
          · rcases List.mem_cons.mp (pm3.mem_iff.mp he) with z | z
            · exact ⟨_, _, z, v0, v1⟩
            · exact g3 e z
          · by_cases hji : j = i
            · subst hji
              rw [hr] at hxy
              injection hxy with hxy
              injection hxy with hx _
              exact ⟨len + w, by rw [← hx]; exact pm3.mem_iff.mpr List.mem_cons_self⟩
            · obtain ⟨len', z⟩ := g5 j (by omega) x y hxy
              exact ⟨len', pm3.mem_iff.mpr (List.mem_cons_of_mem _ z)⟩
        · rintro ρ M' ⟨q2, o6, o7, rfl, rfl, g1, g2, g3, g4, g5⟩
          have hnl := nb_len (x := p) hl
          rw [List.length_map] at g2 g5
          have step : ∀ v, v = p ∨ (∃ len, [len, v] ∈ q') → v ∈ fs ++ [p] ∨ ∃ len, [len, v] ∈ q2 := fun v z => by
            rcases z with z | ⟨len', z⟩
            · exact .inl (List.mem_append_right _ (List.mem_singleton.mpr z))
            · exact .inr ⟨len', g4 _ z⟩
          refine hK (m - 1) _ _ (by omega) ⟨fs ++ [p], ds', q2, _, _, _, _, rfl, rfl, hds', g1, g3, fun u hu e he => ?_, ?_, by omega, by rw [List.length_append, List.length_singleton]; omega⟩
          · rcases List.mem_append.mp hu with hu | hu
            · obtain ⟨v, w, e1, z⟩ := hcl u hu e he
              refine ⟨v, w, e1, ?_⟩
              rcases z with z | z
              · exact .inl (List.mem_append_left _ z)
              · exact step v (inq v z)
            · rw [List.mem_singleton.mp hu] at he
              obtain ⟨v, w, rfl, _⟩ := nb_mem h.rd he
              obtain ⟨j, hj⟩ := List.getElem?_of_mem he
              exact ⟨v, w, rfl, .inr (g5 j ((List.getElem?_eq_some_iff.mp hj).1) v w hj)⟩
          · rcases h0 with z | z
            · exact .inl (List.mem_append_left _ z)
            · exact step 0 (inq 0 z)
    · rw [if_neg (by simpa using hq0)]
      have e : q = [] := List.eq_nil_of_length_eq_zero (by omega)
      subst e
      simp only [dSeq, dIf, dTest, dBin, dVar, dC, dAsg, dStore, dRet, dB, dCons, dNil, dTup, dLst, dLstM, dDrop, dM, dCall, dCallK, dTru, dNotT, dAndT, dOrT, dAndE, dOrE, dNotE, dIfE, dChain, dChain3, dNeg, dFor, dPar, dSlice, dPart, dNoPart, z_fld, dSetF, dRaise, dRz, dNext, dBreak, dCont, dRetN, dYes, dComp, iSeq, iRange1, iRange2, DL.iZip, DL.iEnum, startD, retD, asg, asgs, asT, gMod, gMul, DL.gSub, gGt, gGe, gFdiv, gPow, wipeD, finF, finM, perm,
    List.map_cons, List.map_nil, List.length_cons, List.length_nil, List.replicate, List.cons_append, List.nil_append, List.getElem?_cons_zero, List.getElem?_cons_succ, List.set, List.getD_cons_zero, List.getD_cons_succ, Option.some.injEq, exists_eq_left', exists_eq_left, D.int.injEq, D.bl.injEq, D.ref.injEq, D.str.injEq, List.cons.injEq, and_true, true_and, exists_and_left, exists_and_right, decide_eq_true_eq, Bool.false_eq_true, if_true, if_false, ite_true, ite_false, Nat.zero_add, Nat.reduceAdd, Nat.reduceSub,
    z_gI, z_add, z_lt, z_le, z_int, z_intb, z_ixr, z_ixt, z_ixk, z_ixs, z_ixl, z_asQ, z_asQt, z_asQk, z_asQs, z_asQl, z_asL, z_asLl, z_at0, z_at1, z_at2, z_store, z_i20, z_i21, z_eq, z_ne, z_max2, z_min2, z_addt, z_sl, z_trb, z_trt, z_trk, z_trl, z_trs, List.isEmpty_cons, List.isEmpty_nil, Bool.not_true, Bool.not_false, z_len, z_lenl, z_lenk, z_lenr, z_lens, MS.set_set, MS.set_same]
      have c0 : (0 : Int) ∈ fs := h0.resolve_right fun ⟨_, z⟩ => by cases z
      refine ⟨.dk (ik fs) ds, M, fun c o ec => ?_, ?_, k fs ds hds (all_of_par h.par c0 fun u hu e he => ?_)⟩
      · rw [MS.set_ne (fun z => by rw [z, hqd0] at ec; cases ec), MS.set_ne (fun z => by rw [z, hfd] at ec; cases ec)]; exact ec
      · exact .dk (by rw [MS.set_ne (Ne.symm hne), MS.set_same]) hfd (Fzs.refl ds)
      · obtain ⟨v, w, e1, z⟩ := hcl u hu e he
        exact ⟨v, w, e1, z.resolve_right fun ⟨_, z⟩ => by cases z⟩
  · have := (List.getElem?_eq_some_iff.mp hy).1
    rw [List.length_singleton] at this
    omega
  · intro e he
    rw [List.mem_singleton.mp he]
    exact ⟨0, 0, rfl, by decide, by omega⟩
end LW

set_option Elab.async false
set_option maxRecDepth 100000
set_option maxHeartbeats 4000000
namespace DL
open PySem PySem.Spec L2
abbrev sMany : Str := "many"
abbrev sRoads : Str := "roads"
abbrev sLamps : Str := "lamps"
theorem ne_mr : sMany ≠ sRoads := by decide +kernel
theorem ne_ml : sMany ≠ sLamps := by decide +kernel
theorem ne_rl : sRoads ≠ sLamps := by decide +kernel
abbrev rdsD (l : List (List Int)) : D := .tup (l.map tupOf)
/-- a web, a land, as they are held -/
def webV (G : GEnv) (w : Lamp) : D := .ins (G.cls 22) [sMany, sRoads] [.int w.1, rdsD w.2]
def landV (G : GEnv) (n : Int) (rs : List (List Int)) (ws : List Lamp) : D := .ins (G.cls 23) [sMany, sRoads, sLamps] [.int n, rdsD rs, .tup (ws.map (webV G))]
section
variable {G : GEnv} {M : MS} {Q : QD} {w : Lamp} {n : Int} {rs : List (List Int)} {ws : List Lamp}
theorem fl_wm (F : GF G) (q : Q (.int w.1) M) : FL G.isCls "many" M (webV G w) Q := ⟨_, _, _, .int w.1, rfl, F.cw, if_pos rfl, q⟩
theorem fl_lm (F : GF G) (q : Q (.int n) M) : FL G.isCls "many" M (landV G n rs ws) Q := ⟨_, _, _, .int n, rfl, F.cl, if_pos rfl, q⟩
theorem fl_ll (F : GF G) (q : Q (.tup (ws.map (webV G))) M) : FL G.isCls "lamps" M (landV G n rs ws) Q :=
  ⟨_, _, _, .tup (ws.map (webV G)), rfl, F.cl, (if_neg ne_ml).trans ((if_neg ne_rl).trans (if_pos rfl)), q⟩
end
theorem MS.del_set {M : MS} {p : Addr} {o : MO} (h : M p = none) : (M.set p o).del p = M := by
  funext b
  unfold MS.del MS.set
  by_cases e : b = p
  · rw [if_pos e, e, h]
  · rw [if_neg e, if_neg e]
theorem RetX.of' {R : RK} {C : Addr} {d : D} {M : MS} (q : R C d M) : RetX R C d M := RetX.of q
end DL
namespace LW
open PySem PySem.Spec L2 DL
variable {G : GEnv} {M : MS} {Q : QD} {R : RK}
theorem together_spec {many : Int} {l : List (List Int)} (h : Rds many l) (hl : l.length ≤ 100) (h1 : 1 ≤ many) (h2 : many ≤ 10) (k : Q .non M) : sp_check_together G [.int many, rdsD l] M Q R := by
  refine ⟨rfl, ?_⟩
  simp only [T_check_together, dSeq, dIf, dTest, dBin, dVar, dC, dAsg, dStore, dRet, dB, dCons, dNil, dTup, dLst, dLstM, dDrop, dM, dCall, dCallK, dTru, dNotT, dAndT, dOrT, dAndE, dOrE, dNotE, dIfE, dChain, dChain3, dNeg, dFor, dPar, dSlice, dPart, dNoPart, z_fld, dSetF, dRaise, dRz, dNext, dBreak, dCont, dRetN, dYes, dComp, iSeq, iRange1, iRange2, DL.iZip, DL.iEnum, startD, retD, asg, asgs, asT, gMod, gMul, DL.gSub, gGt, gGe, gFdiv, gPow, wipeD, finF, finM, perm,
    List.map_cons, List.map_nil, List.length_cons, List.length_nil, List.replicate, List.cons_append, List.nil_append, List.getElem?_cons_zero, List.getElem?_cons_succ, List.set, List.getD_cons_zero, List.getD_cons_succ, Option.some.injEq, exists_eq_left', exists_eq_left, D.int.injEq, D.bl.injEq, D.ref.injEq, D.str.injEq, List.cons.injEq, and_true, true_and, exists_and_left, exists_and_right, decide_eq_true_eq, Bool.false_eq_true, if_true, if_false, ite_true, ite_false, Nat.zero_add, Nat.reduceAdd, Nat.reduceSub,
    z_gI, z_add, z_lt, z_le, z_int, z_intb, z_ixr, z_ixt, z_ixk, z_ixs, z_ixl, z_asQ, z_asQt, z_asQk, z_asQs, z_asQl, z_asL, z_asLl, z_at0, z_at1, z_at2, z_store, z_i20, z_i21, z_eq, z_ne, z_max2, z_min2, z_addt, z_sl, z_trb, z_trt, z_trk, z_trl, z_trs, List.isEmpty_cons, List.isEmpty_nil, Bool.not_true, Bool.not_false, z_len, z_lenl, z_lenk, z_lenr, z_lens, MS.set_set, MS.set_same]
  refine reach_spec h hl h1 h2 fun fs ds hds hall => ?_
  refine ⟨by omega, by omega, ?_⟩
  refine for_inv (fun i ρ M' => M' = M ∧ ∃ o, ρ = [some (.int many), some (rdsD l), some (.dk (ik fs) ds), o]) (fun _ _ _ _ => trivial) ?_ ?_ ⟨rfl, none, rfl⟩
  · rintro i d ρ M' hd ⟨rfl, o, rfl⟩
    obtain ⟨hi, rfl⟩ := rangeD_get hd
    refine ⟨_, rfl, fun K hK => ?_⟩
    simp only [Int.zero_add, dSeq, dIf, dTest, dBin, dVar, dC, dAsg, dStore, dRet, dB, dCons, dNil, dTup, dLst, dLstM, dDrop, dM, dCall, dCallK, dTru, dNotT, dAndT, dOrT, dAndE, dOrE, dNotE, dIfE, dChain, dChain3, dNeg, dFor, dPar, dSlice, dPart, dNoPart, z_fld, dSetF, dRaise, dRz, dNext, dBreak, dCont, dRetN, dYes, dComp, iSeq, iRange1, iRange2, DL.iZip, DL.iEnum, startD, retD, asg, asgs, asT, gMod, gMul, DL.gSub, gGt, gGe, gFdiv, gPow, wipeD, finF, finM, perm,
    List.map_cons, List.map_nil, List.length_cons, List.length_nil, List.replicate, List.cons_append, List.nil_append, List.getElem?_cons_zero, List.getElem?_cons_succ, List.set, List.getD_cons_zero, List.getD_cons_succ, Option.some.injEq, exists_eq_left', exists_eq_left, D.int.injEq, D.bl.injEq, D.ref.injEq, D.str.injEq, List.cons.injEq, and_true, true_and, exists_and_left, exists_and_right, decide_eq_true_eq, Bool.false_eq_true, if_true, if_false, ite_true, ite_false, Nat.zero_add, Nat.reduceAdd, Nat.reduceSub,
    z_gI, z_add, z_lt, z_le, z_int, z_intb, z_ixr, z_ixt, z_ixk, z_ixs, z_ixl, z_asQ, z_asQt, z_asQk, z_asQs, z_asQl, z_asL, z_asLl, z_at0, z_at1, z_at2, z_store, z_i20, z_i21, z_eq, z_ne, z_max2, z_min2, z_addt, z_sl, z_trb, z_trt, z_trk, z_trl, z_trs, List.isEmpty_cons, List.isEmpty_nil, Bool.not_true, Bool.not_false, z_len, z_lenl, z_lenk, z_lenr, z_lens, MS.set_set, MS.set_same]
    refine in_dict rfl hds ?_
    rw [decide_eq_true (hall i (by omega))]
    refine ⟨_, rfl, ?_⟩
    rw [if_neg (by decide)]
    exact hK _ _ ⟨rfl, _, rfl⟩
  · rintro ρ M' ⟨rfl, o, rfl⟩
    exact RetOk.of k
theorem size_spec {m : Int} (h1 : 1 ≤ m) (h2 : m ≤ 6) (k : Q .non M) : sp_check_size G [.int m, .int 1] M Q R := by
  refine ⟨rfl, ?_⟩
  simp only [T_check_size, dSeq, dIf, dTest, dBin, dVar, dC, dAsg, dStore, dRet, dB, dCons, dNil, dTup, dLst, dLstM, dDrop, dM, dCall, dCallK, dTru, dNotT, dAndT, dOrT, dAndE, dOrE, dNotE, dIfE, dChain, dChain3, dNeg, dFor, dPar, dSlice, dPart, dNoPart, z_fld, dSetF, dRaise, dRz, dNext, dBreak, dCont, dRetN, dYes, dComp, iSeq, iRange1, iRange2, DL.iZip, DL.iEnum, startD, retD, asg, asgs, asT, gMod, gMul, DL.gSub, gGt, gGe, gFdiv, gPow, wipeD, finF, finM, perm,
    List.map_cons, List.map_nil, List.length_cons, List.length_nil, List.replicate, List.cons_append, List.nil_append, List.getElem?_cons_zero, List.getElem?_cons_succ, List.set, List.getD_cons_zero, List.getD_cons_succ, Option.some.injEq, exists_eq_left', exists_eq_left, D.int.injEq, D.bl.injEq, D.ref.injEq, D.str.injEq, List.cons.injEq, and_true, true_and, exists_and_left, exists_and_right, decide_eq_true_eq, Bool.false_eq_true, if_true, if_false, ite_true, ite_false, Nat.zero_add, Nat.reduceAdd, Nat.reduceSub,
    z_gI, z_add, z_lt, z_le, z_int, z_intb, z_ixr, z_ixt, z_ixk, z_ixs, z_ixl, z_asQ, z_asQt, z_asQk, z_asQs, z_asQl, z_asL, z_asLl, z_at0, z_at1, z_at2, z_store, z_i20, z_i21, z_eq, z_ne, z_max2, z_min2, z_addt, z_sl, z_trb, z_trt, z_trk, z_trl, z_trs, List.isEmpty_cons, List.isEmpty_nil, Bool.not_true, Bool.not_false, z_len, z_lenl, z_lenk, z_lenr, z_lens, MS.set_set, MS.set_same]
  rw [if_pos h1]
  rw [decide_eq_true h2, if_neg (by decide)]
  exact RetOk.of k
theorem webInit_spec (F : GF G) {w : Lamp} {p : Addr} (hp : M p = none) (k : Q (webV G w) M) :
    sp_Web_init G [.ref p, .int w.1, rdsD w.2] (M.set p (.ins (G.cls 22) [] [])) (fun d M2 => d = .non ∧ ∃ fs vs, M2 p = some (.ins (G.cls 22) fs vs) ∧ Q (.ins (G.cls 22) fs vs) (M2.del p)) NoR := by
  refine ⟨rfl, ?_⟩
  simp only [T_Web_init, dSeq, dIf, dTest, dBin, dVar, dC, dAsg, dStore, dRet, dB, dCons, dNil, dTup, dLst, dLstM, dDrop, dM, dCall, dCallK, dTru, dNotT, dAndT, dOrT, dAndE, dOrE, dNotE, dIfE, dChain, dChain3, dNeg, dFor, dPar, dSlice, dPart, dNoPart, z_fld, dSetF, dRaise, dRz, dNext, dBreak, dCont, dRetN, dYes, dComp, iSeq, iRange1, iRange2, DL.iZip, DL.iEnum, startD, retD, asg, asgs, asT, gMod, gMul, DL.gSub, gGt, gGe, gFdiv, gPow, wipeD, finF, finM, perm,
    List.map_cons, List.map_nil, List.length_cons, List.length_nil, List.replicate, List.cons_append, List.nil_append, List.getElem?_cons_zero, List.getElem?_cons_succ, List.set, List.getD_cons_zero, List.getD_cons_succ, Option.some.injEq, exists_eq_left', exists_eq_left, D.int.injEq, D.bl.injEq, D.ref.injEq, D.str.injEq, List.cons.injEq, and_true, true_and, exists_and_left, exists_and_right, decide_eq_true_eq, Bool.false_eq_true, if_true, if_false, ite_true, ite_false, Nat.zero_add, Nat.reduceAdd, Nat.reduceSub,
    z_gI, z_add, z_lt, z_le, z_int, z_intb, z_ixr, z_ixt, z_ixk, z_ixs, z_ixl, z_asQ, z_asQt, z_asQk, z_asQs, z_asQl, z_asL, z_asLl, z_at0, z_at1, z_at2, z_store, z_i20, z_i21, z_eq, z_ne, z_max2, z_min2, z_addt, z_sl, z_trb, z_trt, z_trk, z_trl, z_trs, List.isEmpty_cons, List.isEmpty_nil, Bool.not_true, Bool.not_false, z_len, z_lenl, z_lenk, z_lenr, z_lens, MS.set_set, MS.set_same]
  refine ⟨_, _, _, rfl, F.cw, by decide, _, _, _, rfl, F.cw, by decide, RetOk.of ⟨rfl, _, _, MS.set_same, ?_⟩⟩
  rw [MS.del_set hp]
  have e1 : dPutF [sMany] sRoads = [sMany, sRoads] := if_neg ne_mr
  have e2 : ∀ x y : D, dPutG [sMany] [x] sRoads y = [x, y] := fun x y => if_neg ne_mr
  show Q (.ins (G.cls 22) (dPutF [sMany] sRoads) (dPutG [sMany] [.int w.1] sRoads (rdsD w.2))) M
  rw [e1, e2]
  exact k
theorem web_made (F : GF G) {w : Lamp} (h : LampOk w) (k : Q (webV G w) M) : sp_made_web G [.int w.1, rdsD w.2] M Q R := by
  obtain ⟨h1, h2, h3, h4⟩ := h
  refine ⟨rfl, ?_⟩
  simp only [T_made_web, dMake, dSeq, dIf, dTest, dBin, dVar, dC, dAsg, dStore, dRet, dB, dCons, dNil, dTup, dLst, dLstM, dDrop, dM, dCall, dCallK, dTru, dNotT, dAndT, dOrT, dAndE, dOrE, dNotE, dIfE, dChain, dChain3, dNeg, dFor, dPar, dSlice, dPart, dNoPart, z_fld, dSetF, dRaise, dRz, dNext, dBreak, dCont, dRetN, dYes, dComp, iSeq, iRange1, iRange2, DL.iZip, DL.iEnum, startD, retD, asg, asgs, asT, gMod, gMul, DL.gSub, gGt, gGe, gFdiv, gPow, wipeD, finF, finM, perm,
    List.map_cons, List.map_nil, List.length_cons, List.length_nil, List.replicate, List.cons_append, List.nil_append, List.getElem?_cons_zero, List.getElem?_cons_succ, List.set, List.getD_cons_zero, List.getD_cons_succ, Option.some.injEq, exists_eq_left', exists_eq_left, D.int.injEq, D.bl.injEq, D.ref.injEq, D.str.injEq, List.cons.injEq, and_true, true_and, exists_and_left, exists_and_right, decide_eq_true_eq, Bool.false_eq_true, if_true, if_false, ite_true, ite_false, Nat.zero_add, Nat.reduceAdd, Nat.reduceSub,
    z_gI, z_add, z_lt, z_le, z_int, z_intb, z_ixr, z_ixt, z_ixk, z_ixs, z_ixl, z_asQ, z_asQt, z_asQk, z_asQs, z_asQl, z_asL, z_asLl, z_at0, z_at1, z_at2, z_store, z_i20, z_i21, z_eq, z_ne, z_max2, z_min2, z_addt, z_sl, z_trb, z_trt, z_trk, z_trl, z_trs, List.isEmpty_cons, List.isEmpty_nil, Bool.not_true, Bool.not_false, z_len, z_lenl, z_lenk, z_lenr, z_lens, MS.set_set, MS.set_same]
  refine size_spec h1 h2 ?_
  refine roads_spec F h3 (by omega) ?_
  refine together_spec h3.toRds (by omega) h1 (by omega) ?_
  intro p hp
  exact webInit_spec F hp (RetOk.of k)
theorem lamps_spec (F : GF G) {n : Int} {ws : List Lamp} (hn : (ws.length : Int) = n) (k : Q .non M) : sp__check_lamps G [.int n, .tup (ws.map (webV G))] M Q R := by
  refine ⟨rfl, ?_⟩
  simp only [T__check_lamps, dSeq, dIf, dTest, dBin, dVar, dC, dAsg, dStore, dRet, dB, dCons, dNil, dTup, dLst, dLstM, dDrop, dM, dCall, dCallK, dTru, dNotT, dAndT, dOrT, dAndE, dOrE, dNotE, dIfE, dChain, dChain3, dNeg, dFor, dPar, dSlice, dPart, dNoPart, z_fld, dSetF, dRaise, dRz, dNext, dBreak, dCont, dRetN, dYes, dComp, iSeq, iRange1, iRange2, DL.iZip, DL.iEnum, startD, retD, asg, asgs, asT, gMod, gMul, DL.gSub, gGt, gGe, gFdiv, gPow, wipeD, finF, finM, perm,
    List.map_cons, List.map_nil, List.length_cons, List.length_nil, List.replicate, List.cons_append, List.nil_append, List.getElem?_cons_zero, List.getElem?_cons_succ, List.set, List.getD_cons_zero, List.getD_cons_succ, Option.some.injEq, exists_eq_left', exists_eq_left, D.int.injEq, D.bl.injEq, D.ref.injEq, D.str.injEq, List.cons.injEq, and_true, true_and, exists_and_left, exists_and_right, decide_eq_true_eq, Bool.false_eq_true, if_true, if_false, ite_true, ite_false, Nat.zero_add, Nat.reduceAdd, Nat.reduceSub,
    z_gI, z_add, z_lt, z_le, z_int, z_intb, z_ixr, z_ixt, z_ixk, z_ixs, z_ixl, z_asQ, z_asQt, z_asQk, z_asQs, z_asQl, z_asL, z_asLl, z_at0, z_at1, z_at2, z_store, z_i20, z_i21, z_eq, z_ne, z_max2, z_min2, z_addt, z_sl, z_trb, z_trt, z_trk, z_trl, z_trs, List.isEmpty_cons, List.isEmpty_nil, Bool.not_true, Bool.not_false, z_len, z_lenl, z_lenk, z_lenr, z_lens, MS.set_set, MS.set_same]
  rw [List.length_map, decide_eq_true hn]
  try rw [if_neg (by decide)]
  refine for_inv (fun i ρ M' => M' = M ∧ ∃ o o', ρ = [some (.int n), some (.tup (ws.map (webV G))), o, o']) (fun _ _ _ _ => trivial) ?_ ?_ ⟨rfl, none, none, rfl⟩
  · rintro i d ρ M' hd ⟨rfl, o, o', rfl⟩
    obtain ⟨y, hy, rfl⟩ := enumD_get2 hd
    rw [List.getElem?_map] at hy
    obtain ⟨w, hw, rfl⟩ := Option.map_eq_some_iff.mp hy
    refine ⟨_, rfl, fun K hK => ?_⟩
    simp only [dSeq, dIf, dTest, dBin, dVar, dC, dAsg, dStore, dRet, dB, dCons, dNil, dTup, dLst, dLstM, dDrop, dM, dCall, dCallK, dTru, dNotT, dAndT, dOrT, dAndE, dOrE, dNotE, dIfE, dChain, dChain3, dNeg, dFor, dPar, dSlice, dPart, dNoPart, z_fld, dSetF, dRaise, dRz, dNext, dBreak, dCont, dRetN, dYes, dComp, iSeq, iRange1, iRange2, DL.iZip, DL.iEnum, startD, retD, asg, asgs, asT, gMod, gMul, DL.gSub, gGt, gGe, gFdiv, gPow, wipeD, finF, finM, perm,
    List.map_cons, List.map_nil, List.length_cons, List.length_nil, List.replicate, List.cons_append, List.nil_append, List.getElem?_cons_zero, List.getElem?_cons_succ, List.set, List.getD_cons_zero, List.getD_cons_succ, Option.some.injEq, exists_eq_left', exists_eq_left, D.int.injEq, D.bl.injEq, D.ref.injEq, D.str.injEq, List.cons.injEq, and_true, true_and, exists_and_left, exists_and_right, decide_eq_true_eq, Bool.false_eq_true, if_true, if_false, ite_true, ite_false, Nat.zero_add, Nat.reduceAdd, Nat.reduceSub,
    z_gI, z_add, z_lt, z_le, z_int, z_intb, z_ixr, z_ixt, z_ixk, z_ixs, z_ixl, z_asQ, z_asQt, z_asQk, z_asQs, z_asQl, z_asL, z_asLl, z_at0, z_at1, z_at2, z_store, z_i20, z_i21, z_eq, z_ne, z_max2, z_min2, z_addt, z_sl, z_trb, z_trt, z_trk, z_trl, z_trs, List.isEmpty_cons, List.isEmpty_nil, Bool.not_true, Bool.not_false, z_len, z_lenl, z_lenk, z_lenr, z_lens, MS.set_set, MS.set_same]
    refine isi_of (x := webV G w) rfl rfl (fun C e => by cases e; exact F.cw) F.ww ⟨_, rfl, ?_⟩
    rw [if_neg (by decide)]
    exact hK _ _ ⟨rfl, _, _, rfl⟩
  · rintro ρ M' ⟨rfl, o, o', rfl⟩
    exact RetOk.of k
theorem landInit_spec (F : GF G) {n : Int} {rs : List (List Int)} {ws : List Lamp} {p : Addr} (hp : M p = none) (k : Q (landV G n rs ws) M) :
    sp_Land_init G [.ref p, .int n, rdsD rs, .tup (ws.map (webV G))] (M.set p (.ins (G.cls 23) [] [])) (fun d M2 => d = .non ∧ ∃ fs vs, M2 p = some (.ins (G.cls 23) fs vs) ∧ Q (.ins (G.cls 23) fs vs) (M2.del p)) NoR := by
  refine ⟨rfl, ?_⟩
  simp only [T_Land_init, dSeq, dIf, dTest, dBin, dVar, dC, dAsg, dStore, dRet, dB, dCons, dNil, dTup, dLst, dLstM, dDrop, dM, dCall, dCallK, dTru, dNotT, dAndT, dOrT, dAndE, dOrE, dNotE, dIfE, dChain, dChain3, dNeg, dFor, dPar, dSlice, dPart, dNoPart, z_fld, dSetF, dRaise, dRz, dNext, dBreak, dCont, dRetN, dYes, dComp, iSeq, iRange1, iRange2, DL.iZip, DL.iEnum, startD, retD, asg, asgs, asT, gMod, gMul, DL.gSub, gGt, gGe, gFdiv, gPow, wipeD, finF, finM, perm,
    List.map_cons, List.map_nil, List.length_cons, List.length_nil, List.replicate, List.cons_append, List.nil_append, List.getElem?_cons_zero, List.getElem?_cons_succ, List.set, List.getD_cons_zero, List.getD_cons_succ, Option.some.injEq, exists_eq_left', exists_eq_left, D.int.injEq, D.bl.injEq, D.ref.injEq, D.str.injEq, List.cons.injEq, and_true, true_and, exists_and_left, exists_and_right, decide_eq_true_eq, Bool.false_eq_true, if_true, if_false, ite_true, ite_false, Nat.zero_add, Nat.reduceAdd, Nat.reduceSub,
    z_gI, z_add, z_lt, z_le, z_int, z_intb, z_ixr, z_ixt, z_ixk, z_ixs, z_ixl, z_asQ, z_asQt, z_asQk, z_asQs, z_asQl, z_asL, z_asLl, z_at0, z_at1, z_at2, z_store, z_i20, z_i21, z_eq, z_ne, z_max2, z_min2, z_addt, z_sl, z_trb, z_trt, z_trk, z_trl, z_trs, List.isEmpty_cons, List.isEmpty_nil, Bool.not_true, Bool.not_false, z_len, z_lenl, z_lenk, z_lenr, z_lens, MS.set_set, MS.set_same]
  have e1 : dPutF [sMany] sRoads = [sMany, sRoads] := if_neg ne_mr
  have e2 : ∀ x y : D, dPutG [sMany] [x] sRoads y = [x, y] := fun x y => if_neg ne_mr
  have e0 : MO.ins (G.cls 23) (dPutF (dPutF [] sMany) sRoads) (dPutG (dPutF [] sMany) (dPutG [] [] sMany (D.int n)) sRoads (rdsD rs)) = MO.ins (G.cls 23) [sMany, sRoads] [.int n, rdsD rs] := by
    show MO.ins (G.cls 23) (dPutF [sMany] sRoads) (dPutG [sMany] [D.int n] sRoads (rdsD rs)) = _
    rw [e1, e2]
  refine ⟨_, _, _, rfl, F.cl, by decide, _, _, _, rfl, F.cl, by decide, _, _, _, e0, F.cl, by decide, RetOk.of ⟨rfl, _, _, MS.set_same, ?_⟩⟩
  · rw [MS.del_set hp]
    have e3 : dPutF [sMany, sRoads] sLamps = [sMany, sRoads, sLamps] := by
      show (if sMany = sLamps then _ else sMany :: (if sRoads = sLamps then _ else [sRoads, sLamps])) = _
      rw [if_neg ne_ml, if_neg ne_rl]
    have e4 : ∀ x y z : D, dPutG [sMany, sRoads] [x, y] sLamps z = [x, y, z] := fun x y z => by
      show (if sMany = sLamps then _ else x :: (if sRoads = sLamps then _ else [y, z])) = _
      rw [if_neg ne_ml, if_neg ne_rl]
    show Q (.ins (G.cls 23) (dPutF [sMany, sRoads] sLamps) (dPutG [sMany, sRoads] [.int n, rdsD rs] sLamps (.tup (ws.map (webV G))))) M
    rw [e3, e4]
    exact k
theorem land_made (F : GF G) {n : Int} {rs : List (List Int)} {ws : List Lamp} (h : LandOk n rs ws) (k : Q (landV G n rs ws) M) : sp_made_land G [.int n, rdsD rs, .tup (ws.map (webV G))] M Q R := by
  have h4 := h.few
  have h5 := h.lo
  have h6 := h.hi
  refine ⟨rfl, ?_⟩
  simp only [T_made_land, dMake, dSeq, dIf, dTest, dBin, dVar, dC, dAsg, dStore, dRet, dB, dCons, dNil, dTup, dLst, dLstM, dDrop, dM, dCall, dCallK, dTru, dNotT, dAndT, dOrT, dAndE, dOrE, dNotE, dIfE, dChain, dChain3, dNeg, dFor, dPar, dSlice, dPart, dNoPart, z_fld, dSetF, dRaise, dRz, dNext, dBreak, dCont, dRetN, dYes, dComp, iSeq, iRange1, iRange2, DL.iZip, DL.iEnum, startD, retD, asg, asgs, asT, gMod, gMul, DL.gSub, gGt, gGe, gFdiv, gPow, wipeD, finF, finM, perm,
    List.map_cons, List.map_nil, List.length_cons, List.length_nil, List.replicate, List.cons_append, List.nil_append, List.getElem?_cons_zero, List.getElem?_cons_succ, List.set, List.getD_cons_zero, List.getD_cons_succ, Option.some.injEq, exists_eq_left', exists_eq_left, D.int.injEq, D.bl.injEq, D.ref.injEq, D.str.injEq, List.cons.injEq, and_true, true_and, exists_and_left, exists_and_right, decide_eq_true_eq, Bool.false_eq_true, if_true, if_false, ite_true, ite_false, Nat.zero_add, Nat.reduceAdd, Nat.reduceSub,
    z_gI, z_add, z_lt, z_le, z_int, z_intb, z_ixr, z_ixt, z_ixk, z_ixs, z_ixl, z_asQ, z_asQt, z_asQk, z_asQs, z_asQl, z_asL, z_asLl, z_at0, z_at1, z_at2, z_store, z_i20, z_i21, z_eq, z_ne, z_max2, z_min2, z_addt, z_sl, z_trb, z_trt, z_trk, z_trl, z_trs, List.isEmpty_cons, List.isEmpty_nil, Bool.not_true, Bool.not_false, z_len, z_lenl, z_lenk, z_lenr, z_lens, MS.set_set, MS.set_same]
  rw [if_pos h5]
  rw [decide_eq_true h6, if_neg (by decide)]
  refine roads_spec F h.rd (by omega) ?_
  rw [List.length_map, if_neg (by omega)]
  refine together_spec h.rd.toRds (by omega) h5 h6 ?_
  refine lamps_spec F h.all ?_
  intro p hp
  exact landInit_spec F hp (RetOk.of k)
end LW

set_option Elab.async false
set_option maxRecDepth 100000
set_option maxHeartbeats 4000000
namespace DL
open PySem PySem.Spec L2
/-- a walk from x, with its length -/
inductive Wk (l : List (List Int)) (x : Int) : Int → Int → Prop
  | nil : Wk l x x 0
  | step {u v w L : Int} : Wk l x u L → [v, w] ∈ nb l u → Wk l x v (L + w)
theorem nb_w {l : List (List Int)} {x : Int} {many : Int} (h : ∀ r ∈ l, IsRd many r) {v w : Int} (he : [v, w] ∈ nb l x) : 1 ≤ w := by
  rcases List.mem_append.mp he with z | z
  · obtain ⟨r, hr, e⟩ := List.mem_map.mp z
    obtain ⟨p, q, w', rfl, h1, h2, h3, h4, _⟩ := h r (List.mem_filter.mp hr).1
    injection e with _ e; injection e with e _
    rw [← e]; exact h4
  · obtain ⟨r, hr, e⟩ := List.mem_map.mp z
    obtain ⟨p, q, w', rfl, h1, h2, h3, h4, _⟩ := h r (List.mem_filter.mp hr).1
    injection e with _ e; injection e with e _
    rw [← e]; exact h4
theorem le_head {a b c d : Int} (h : LeI [a, b] [c, d]) : a ≤ c := by
  have h' : HT.lexLt [c, d] [a, b] = false := h
  rw [HT.lexLt_cons] at h'
  by_cases e : c = a
  · omega
  · rw [if_neg e] at h'
    have := of_decide_eq_false h'
    omega
end DL
namespace LW
open PySem PySem.Spec L2 DL
open PySem.HQ (HeapOk)
variable {G : GEnv} {M : MS} {Q : QD} {R : RK}
theorem least_spec {many x : Int} {l : List (List Int)} (h : ∀ r ∈ l, IsRd many r) (hl : l.length ≤ 100) (hx0 : 0 ≤ x) (hx1 : x < many) (h2 : many ≤ 10) (k : ∀ ps : List (Int × Int), (ps.map (·.1)).Nodup → (∀ z ∈ ps, Wk l x z.1 z.2) → (∀ v L, Wk l x v L → ∃ d, (v, d) ∈ ps ∧ d ≤ L) → Q (.dk (ik (ps.map (·.1))) (ps.map fun z => D.int z.2)) M) : sp_lengths_from G [.tup (l.map tupOf), .int x] M Q R := by
  refine ⟨rfl, ?_⟩
  simp only [T_lengths_from, dDictK0, dSeq, dIf, dTest, dBin, dVar, dC, dAsg, dStore, dRet, dB, dCons, dNil, dTup, dLst, dLstM, dDrop, dM, dCall, dCallK, dTru, dNotT, dAndT, dOrT, dAndE, dOrE, dNotE, dIfE, dChain, dChain3, dNeg, dFor, dPar, dSlice, dPart, dNoPart, z_fld, dSetF, dRaise, dRz, dNext, dBreak, dCont, dRetN, dYes, dComp, iSeq, iRange1, iRange2, DL.iZip, DL.iEnum, startD, retD, asg, asgs, asT, gMod, gMul, DL.gSub, gGt, gGe, gFdiv, gPow, wipeD, finF, finM, perm,
    List.map_cons, List.map_nil, List.length_cons, List.length_nil, List.replicate, List.cons_append, List.nil_append, List.getElem?_cons_zero, List.getElem?_cons_succ, List.set, List.getD_cons_zero, List.getD_cons_succ, Option.some.injEq, exists_eq_left', exists_eq_left, D.int.injEq, D.bl.injEq, D.ref.injEq, D.str.injEq, List.cons.injEq, and_true, true_and, exists_and_left, exists_and_right, decide_eq_true_eq, Bool.false_eq_true, if_true, if_false, ite_true, ite_false, Nat.zero_add, Nat.reduceAdd, Nat.reduceSub,
    z_gI, z_add, z_lt, z_le, z_int, z_intb, z_ixr, z_ixt, z_ixk, z_ixs, z_ixl, z_asQ, z_asQt, z_asQk, z_asQs, z_asQl, z_asL, z_asLl, z_at0, z_at1, z_at2, z_store, z_i20, z_i21, z_eq, z_ne, z_max2, z_min2, z_addt, z_sl, z_trb, z_trt, z_trk, z_trl, z_trs, List.isEmpty_cons, List.isEmpty_nil, Bool.not_true, Bool.not_false, z_len, z_lenl, z_lenk, z_lenr, z_lens, MS.set_set, MS.set_same]
  intro fd hfd
  refine ⟨by decide, by decide, fun qd hqd => ?_⟩
  have hne : qd ≠ fd := fun z => by rw [z, MS.set_same] at hqd; cases hqd
  have hqd0 : M qd = none := by rw [MS.set_ne hne] at hqd; exact hqd
  refine while_inv (fun m ρ M' => ∃ (ps : List (Int × Int)) (q : List (List Int)) (o4 o5 o6 o7 : Option D), ρ = [some (.tup (l.map tupOf)), some (.int x), some (.ref fd), some (.ref qd), o4, o5, o6, o7] ∧ M' = (M.set fd (.dk (ik (ps.map (·.1))) (ps.map fun z => D.int z.2))).set qd (.lst (q.map tupOf)) ∧
    (ps.map (·.1)).Nodup ∧ HeapOk LeI q ∧ (∀ e ∈ q, ∃ len p, e = [len, p] ∧ Wk l x p len ∧ 0 ≤ p ∧ p < many) ∧ (∀ z ∈ ps, Wk l x z.1 z.2) ∧
    (∀ u d, (u, d) ∈ ps → ∀ v w, [v, w] ∈ nb l u → (∃ d', (v, d') ∈ ps ∧ d' ≤ d + w) ∨ ∃ len, [len, v] ∈ q ∧ len ≤ d + w) ∧ ((∃ d, (x, d) ∈ ps ∧ d ≤ 0) ∨ ∃ len, [len, x] ∈ q ∧ len ≤ 0) ∧ (∀ z ∈ ps, ∀ len v, [len, v] ∈ q → z.2 ≤ len) ∧ q.length + unv (ps.map (·.1)) * 201 ≤ m ∧ ps.length + m ≤ 3000) (m := 3000) ?_
    ⟨[], [[0, x]], none, none, none, none, rfl, rfl, List.Pairwise.nil, fun i a b hi ha hb => ?_, ?_, fun z hz => (by cases hz), fun u d hu => (by cases hu), .inr ⟨0, List.mem_singleton.mpr rfl, Int.le_refl _⟩, fun z hz => (by cases hz), (by show 1 + unv [] * 201 ≤ 3000; decide), by decide⟩
  · rintro m ρ M' ⟨ps, q, o4, o5, o6, o7, rfl, rfl, hnd, hH, hq, hps, hcl, h0, hge, hm, hfm⟩ K hK
    simp only [dSeq, dIf, dTest, dBin, dVar, dC, dAsg, dStore, dRet, dB, dCons, dNil, dTup, dLst, dLstM, dDrop, dM, dCall, dCallK, dTru, dNotT, dAndT, dOrT, dAndE, dOrE, dNotE, dIfE, dChain, dChain3, dNeg, dFor, dPar, dSlice, dPart, dNoPart, z_fld, dSetF, dRaise, dRz, dNext, dBreak, dCont, dRetN, dYes, dComp, iSeq, iRange1, iRange2, DL.iZip, DL.iEnum, startD, retD, asg, asgs, asT, gMod, gMul, DL.gSub, gGt, gGe, gFdiv, gPow, wipeD, finF, finM, perm,
    List.map_cons, List.map_nil, List.length_cons, List.length_nil, List.replicate, List.cons_append, List.nil_append, List.getElem?_cons_zero, List.getElem?_cons_succ, List.set, List.getD_cons_zero, List.getD_cons_succ, Option.some.injEq, exists_eq_left', exists_eq_left, D.int.injEq, D.bl.injEq, D.ref.injEq, D.str.injEq, List.cons.injEq, and_true, true_and, exists_and_left, exists_and_right, decide_eq_true_eq, Bool.false_eq_true, if_true, if_false, ite_true, ite_false, Nat.zero_add, Nat.reduceAdd, Nat.reduceSub,
    z_gI, z_add, z_lt, z_le, z_int, z_intb, z_ixr, z_ixt, z_ixk, z_ixs, z_ixl, z_asQ, z_asQt, z_asQk, z_asQs, z_asQl, z_asL, z_asLl, z_at0, z_at1, z_at2, z_store, z_i20, z_i21, z_eq, z_ne, z_max2, z_min2, z_addt, z_sl, z_trb, z_trt, z_trk, z_trl, z_trs, List.isEmpty_cons, List.isEmpty_nil, Bool.not_true, Bool.not_false, z_len, z_lenl, z_lenk, z_lenr, z_lens, MS.set_set, MS.set_same]
    have hqg : ∀ A L, ((M.set fd A).set qd (.lst L)) qd = some (.lst L) := fun A L => MS.set_same
    rw [List.length_map]
    by_cases hq0 : (0 : Int) < (q.length : Int)
    · rw [if_pos (by simpa using hq0)]
      have hqne : q ≠ [] := fun z => by rw [z] at hq0; simp at hq0
      refine ⟨qd, _, q, rfl, hqg _ _, tupsI_of q, hqne, hH, fun ms q' pm hH' hmin => ?_⟩
      obtain ⟨len, p, rfl, pw, p0, p1⟩ := hq ms (pm.mem_iff.mp List.mem_cons_self)
      have hmin' : ∀ len' v, [len', v] ∈ q → len ≤ len' := fun len' v hv => le_head (hmin _ hv)
      rw [MS.set_set]
      refine ⟨_, rfl, ?_⟩
      simp only [dSeq, dIf, dTest, dBin, dVar, dC, dAsg, dStore, dRet, dB, dCons, dNil, dTup, dLst, dLstM, dDrop, dM, dCall, dCallK, dTru, dNotT, dAndT, dOrT, dAndE, dOrE, dNotE, dIfE, dChain, dChain3, dNeg, dFor, dPar, dSlice, dPart, dNoPart, z_fld, dSetF, dRaise, dRz, dNext, dBreak, dCont, dRetN, dYes, dComp, iSeq, iRange1, iRange2, DL.iZip, DL.iEnum, startD, retD, asg, asgs, asT, gMod, gMul, DL.gSub, gGt, gGe, gFdiv, gPow, wipeD, finF, finM, perm,
    List.map_cons, List.map_nil, List.length_cons, List.length_nil, List.replicate, List.cons_append, List.nil_append, List.getElem?_cons_zero, List.getElem?_cons_succ, List.set, List.getD_cons_zero, List.getD_cons_succ, Option.some.injEq, exists_eq_left', exists_eq_left, D.int.injEq, D.bl.injEq, D.ref.injEq, D.str.injEq, List.cons.injEq, and_true, true_and, exists_and_left, exists_and_right, decide_eq_true_eq, Bool.false_eq_true, if_true, if_false, ite_true, ite_false, Nat.zero_add, Nat.reduceAdd, Nat.reduceSub,
    z_gI, z_add, z_lt, z_le, z_int, z_intb, z_ixr, z_ixt, z_ixk, z_ixs, z_ixl, z_asQ, z_asQt, z_asQk, z_asQs, z_asQl, z_asL, z_asLl, z_at0, z_at1, z_at2, z_store, z_i20, z_i21, z_eq, z_ne, z_max2, z_min2, z_addt, z_sl, z_trb, z_trt, z_trk, z_trl, z_trs, List.isEmpty_cons, List.isEmpty_nil, Bool.not_true, Bool.not_false, z_len, z_lenl, z_lenk, z_lenr, z_lens, MS.set_set, MS.set_same]
      have hlen : q'.length + 1 = q.length := by have := pm.length_eq; simpa using this
      have sub : ∀ e, e ∈ q' → e ∈ q := fun e he => pm.mem_iff.mp (List.mem_cons_of_mem _ he)
      have inq : ∀ len' v, [len', v] ∈ q → (len' = len ∧ v = p) ∨ [len', v] ∈ q' := fun len' v hv => by
        rcases List.mem_cons.mp (pm.mem_iff.mpr hv) with z | z
        · injection z with z1 z; injection z with z _; exact .inl ⟨z1, z⟩
        · exact .inr z
      have hds : (ps.map fun z => D.int z.2).length = (ps.map (·.1)).length := by simp
      have hfg : asDK ((M.set fd (.dk (ik (ps.map (·.1))) (ps.map fun z => D.int z.2))).set qd (.lst (q'.map tupOf))) (.ref fd) = some (ik (ps.map (·.1)), ps.map fun z => D.int z.2) := by simp [asDK, MS.set_ne (Ne.symm hne), MS.set_same]
      refine in_dict hfg hds ?_
      refine ⟨_, rfl, ?_⟩
      by_cases hp : p ∈ ps.map (·.1)
      · rw [if_neg (by simp only [hp]; decide)]
        obtain ⟨⟨p', dp⟩, hpm, e⟩ := List.mem_map.mp hp
        have e' : p' = p := e
        subst e'
        have hdl : dp ≤ len := hge _ hpm len p' (pm.mem_iff.mp List.mem_cons_self)
        refine hK (m - 1) _ _ (by omega) ⟨ps, q', _, _, _, _, rfl, rfl, hnd, hH', fun e he => hq e (sub e he), hps, fun u d hu v w hv => ?_, ?_, fun z hz len' v hv => hge z hz len' v (sub _ hv), by omega, by omega⟩
        · rcases hcl u d hu v w hv with z | ⟨len', z1, z2⟩
          · exact .inl z
          · rcases inq len' v z1 with ⟨e1, e2⟩ | z
            · subst e2; exact .inl ⟨dp, hpm, by omega⟩
            · exact .inr ⟨len', z, z2⟩
        · rcases h0 with z | ⟨len', z1, z2⟩
          · exact .inl z
          · rcases inq len' x z1 with ⟨e1, e2⟩ | z
            · subst e2; exact .inl ⟨dp, hpm, by omega⟩
            · exact .inr ⟨len', z, z2⟩
      · rw [if_pos (by simp only [hp]; decide)]
        have hnk : ¬ (Sum.inl p : Key) ∈ ik (ps.map (·.1)) := fun z => by
          obtain ⟨y, hy, ey⟩ := List.mem_map.mp z
          rw [← Sum.inl.inj ey] at hp
          exact hp hy
        refine .inr (.inl ⟨fd, ik (ps.map (·.1)), _, Sum.inl p, rfl, rfl, by rw [MS.set_ne (Ne.symm hne), MS.set_same], by rw [List.length_map, List.length_map, sizeLine_eq]; omega, ?_⟩)
        have ek : dPutK (ik (ps.map (·.1))) (Sum.inl p) = ik ((ps ++ [(p, len)]).map (·.1)) := by unfold dPutK; rw [if_neg hnk]; simp [ik]
        have ev : dPutV (ik (ps.map (·.1))) (ps.map fun z => D.int z.2) (Sum.inl p) (.int len) = (ps ++ [(p, len)]).map fun z => D.int z.2 := by unfold dPutV; rw [if_neg hnk]; simp
        rw [ek, ev, MS.comm (Ne.symm hne), MS.set_set]
        refine tied_spec h hl ?_
        refine ⟨_, rfl, ?_⟩
        have hun := unv_lt p0 (by omega) hp
        refine for_inv (fun i ρ M' => ∃ (q2 : List (List Int)) (o6 o7 : Option D), ρ = [some (.tup (l.map tupOf)), some (.int x), some (.ref fd), some (.ref qd), some (.int len), some (.int p), o6, o7] ∧ M' = (M.set fd (.dk (ik ((ps ++ [(p, len)]).map (·.1))) ((ps ++ [(p, len)]).map fun z => D.int z.2))).set qd (.lst (q2.map tupOf)) ∧
          HeapOk LeI q2 ∧ q2.length = q'.length + i ∧ (∀ e ∈ q2, ∃ len p, e = [len, p] ∧ Wk l x p len ∧ 0 ≤ p ∧ p < many) ∧ (∀ e ∈ q', e ∈ q2) ∧ (∀ len' v, [len', v] ∈ q2 → len ≤ len') ∧ ∀ j, j < i → ∀ v w, (nb l p)[j]? = some [v, w] → [len + w, v] ∈ q2) (fun _ _ _ _ => rfl) ?_ ?_
          ⟨q', o6, o7, rfl, rfl, hH', rfl, fun e he => hq e (sub e he), fun e he => he, fun len' v hv => hmin' len' v (sub _ hv), fun j hj => absurd hj (Nat.not_lt_zero j)⟩
        · rintro i d ρ M' hd ⟨q2, o6, o7, rfl, rfl, g1, g2, g3, g4, g6, g5⟩
          rw [List.getElem?_map] at hd
          obtain ⟨r, hr, rfl⟩ := Option.map_eq_some_iff.mp hd
          have hrm := List.mem_of_getElem? hr
          obtain ⟨v, w, rfl, v0, v1⟩ := nb_mem h hrm
          have hw1 := nb_w h hrm
          have hi : i < (nb l p).length := (List.getElem?_eq_some_iff.mp hr).1
          have hnl := nb_len (x := p) hl
          refine ⟨_, rfl, fun K' hK' => ?_⟩
          simp only [dSeq, dIf, dTest, dBin, dVar, dC, dAsg, dStore, dRet, dB, dCons, dNil, dTup, dLst, dLstM, dDrop, dM, dCall, dCallK, dTru, dNotT, dAndT, dOrT, dAndE, dOrE, dNotE, dIfE, dChain, dChain3, dNeg, dFor, dPar, dSlice, dPart, dNoPart, z_fld, dSetF, dRaise, dRz, dNext, dBreak, dCont, dRetN, dYes, dComp, iSeq, iRange1, iRange2, DL.iZip, DL.iEnum, startD, retD, asg, asgs, asT, gMod, gMul, DL.gSub, gGt, gGe, gFdiv, gPow, wipeD, finF, finM, perm,
    List.map_cons, List.map_nil, List.length_cons, List.length_nil, List.replicate, List.cons_append, List.nil_append, List.getElem?_cons_zero, List.getElem?_cons_succ, List.set, List.getD_cons_zero, List.getD_cons_succ, Option.some.injEq, exists_eq_left', exists_eq_left, D.int.injEq, D.bl.injEq, D.ref.injEq, D.str.injEq, List.cons.injEq, and_true, true_and, exists_and_left, exists_and_right, decide_eq_true_eq, Bool.false_eq_true, if_true, if_false, ite_true, ite_false, Nat.zero_add, Nat.reduceAdd, Nat.reduceSub,
    z_gI, z_add, z_lt, z_le, z_int, z_intb, z_ixr, z_ixt, z_ixk, z_ixs, z_ixl, z_asQ, z_asQt, z_asQk, z_asQs, z_asQl, z_asL, z_asLl, z_at0, z_at1, z_at2, z_store, z_i20, z_i21, z_eq, z_ne, z_max2, z_min2, z_addt, z_sl, z_trb, z_trt, z_trk, z_trl, z_trs, List.isEmpty_cons, List.isEmpty_nil, Bool.not_true, Bool.not_false, z_len, z_lenl, z_lenk, z_lenr, z_lens, MS.set_set, MS.set_same]
          refine ⟨by decide, qd, [len + w, v], _, q2, rfl, MS.set_same, tupsI_of q2, by rw [sizeLine_eq]; omega, g1, fun q3 pm3 hH3 => ?_⟩
          rw [MS.set_set]
          refine hK' _ _ ⟨q3, _, _, rfl, rfl, hH3, by have := pm3.length_eq; rw [List.length_cons] at this; omega, fun e he => ?_, fun e he => pm3.mem_iff.mpr (List.mem_cons_of_mem _ (g4 e he)), fun len' v' hv' => ?_, fun j hj a b hab => ?_⟩
          · rcases List.mem_cons.mp (pm3.mem_iff.mp he) with z | z
            · exact ⟨_, _, z, .step pw hrm, v0, v1⟩
            · exact g3 e z
          · rcases List.mem_cons.mp (pm3.mem_iff.mp hv') with z | z
            · injection z with z _; omega
            · exact g6 _ _ z
          · by_cases hji : j = i
            · subst hji
              rw [hr] at hab
              injection hab with hab
              injection hab with ha hb
              injection hb with hb _
              rw [← ha, ← hb]
              exact pm3.mem_iff.mpr List.mem_cons_self
            · exact pm3.mem_iff.mpr (List.mem_cons_of_mem _ (g5 j (by omega) a b hab))
        · rintro ρ M' ⟨q2, o6, o7, rfl, rfl, g1, g2, g3, g4, g6, g5⟩
          have hnl := nb_len (x := p) hl
          rw [List.length_map] at g2 g5
          have hpsl : ∀ z ∈ ps, z.2 ≤ len := fun z hz => hge z hz len p (pm.mem_iff.mp List.mem_cons_self)
          have e1 : unv ((ps ++ [(p, len)]).map (·.1)) = unv (ps.map (·.1) ++ [p]) := by rw [List.map_append]; rfl
          refine hK (m - 1) _ _ (by omega) ⟨ps ++ [(p, len)], q2, _, _, _, _, rfl, rfl, ?_, g1, g3, fun z hz => ?_, fun u d hu v w hv => ?_, ?_, fun z hz len' v hv => ?_, by rw [e1]; omega, by rw [List.length_append, List.length_singleton]; omega⟩
          · rw [List.map_append, List.nodup_append]
            exact ⟨hnd, by simp, fun a ha b hb e => hp (by rw [← show b = p by simpa using hb, ← e]; exact ha)⟩
          · rcases List.mem_append.mp hz with z1 | z1
            · exact hps z z1
            · rw [List.mem_singleton.mp z1]; exact pw
          · rcases List.mem_append.mp hu with z1 | z1
            · rcases hcl u d z1 v w hv with ⟨d', z2, z3⟩ | ⟨len', z2, z3⟩
              · exact .inl ⟨d', List.mem_append_left _ z2, z3⟩
              · rcases inq len' v z2 with ⟨e2, e3⟩ | z4
                · subst e3; exact .inl ⟨len, List.mem_append_right _ (List.mem_singleton.mpr rfl), by omega⟩
                · exact .inr ⟨len', g4 _ z4, z3⟩
            · have e2 := List.mem_singleton.mp z1
              injection e2 with e2 e3
              subst e2; subst e3
              obtain ⟨j, hj⟩ := List.getElem?_of_mem hv
              exact .inr ⟨_, g5 j ((List.getElem?_eq_some_iff.mp hj).1) v w hj, Int.le_refl _⟩
          · rcases h0 with ⟨d, z2, z3⟩ | ⟨len', z2, z3⟩
            · exact .inl ⟨d, List.mem_append_left _ z2, z3⟩
            · rcases inq len' x z2 with ⟨e2, e3⟩ | z4
              · subst e3; exact .inl ⟨len, List.mem_append_right _ (List.mem_singleton.mpr rfl), by omega⟩
              · exact .inr ⟨len', g4 _ z4, z3⟩
          · have z5 := g6 len' v hv
            rcases List.mem_append.mp hz with z1 | z1
            · have := hpsl z z1; omega
            · rw [List.mem_singleton.mp z1]; exact z5
    · rw [if_neg (by simpa using hq0)]
      have e : q = [] := List.eq_nil_of_length_eq_zero (by omega)
      subst e
      simp only [dSeq, dIf, dTest, dBin, dVar, dC, dAsg, dStore, dRet, dB, dCons, dNil, dTup, dLst, dLstM, dDrop, dM, dCall, dCallK, dTru, dNotT, dAndT, dOrT, dAndE, dOrE, dNotE, dIfE, dChain, dChain3, dNeg, dFor, dPar, dSlice, dPart, dNoPart, z_fld, dSetF, dRaise, dRz, dNext, dBreak, dCont, dRetN, dYes, dComp, iSeq, iRange1, iRange2, DL.iZip, DL.iEnum, startD, retD, asg, asgs, asT, gMod, gMul, DL.gSub, gGt, gGe, gFdiv, gPow, wipeD, finF, finM, perm,
    List.map_cons, List.map_nil, List.length_cons, List.length_nil, List.replicate, List.cons_append, List.nil_append, List.getElem?_cons_zero, List.getElem?_cons_succ, List.set, List.getD_cons_zero, List.getD_cons_succ, Option.some.injEq, exists_eq_left', exists_eq_left, D.int.injEq, D.bl.injEq, D.ref.injEq, D.str.injEq, List.cons.injEq, and_true, true_and, exists_and_left, exists_and_right, decide_eq_true_eq, Bool.false_eq_true, if_true, if_false, ite_true, ite_false, Nat.zero_add, Nat.reduceAdd, Nat.reduceSub,
    z_gI, z_add, z_lt, z_le, z_int, z_intb, z_ixr, z_ixt, z_ixk, z_ixs, z_ixl, z_asQ, z_asQt, z_asQk, z_asQs, z_asQl, z_asL, z_asLl, z_at0, z_at1, z_at2, z_store, z_i20, z_i21, z_eq, z_ne, z_max2, z_min2, z_addt, z_sl, z_trb, z_trt, z_trk, z_trl, z_trs, List.isEmpty_cons, List.isEmpty_nil, Bool.not_true, Bool.not_false, z_len, z_lenl, z_lenk, z_lenr, z_lens, MS.set_set, MS.set_same]
      have all : ∀ v L, Wk l x v L → ∃ d, (v, d) ∈ ps ∧ d ≤ L := fun v L hw => by
        induction hw with
        | nil => exact h0.resolve_right fun ⟨_, z, _⟩ => by cases z
        | step _ hn ih =>
          obtain ⟨d, z1, z2⟩ := ih
          obtain ⟨d', z3, z4⟩ := (hcl _ d z1 _ _ hn).resolve_right fun ⟨_, z, _⟩ => by cases z
          exact ⟨d', z3, by omega⟩
      refine ⟨.dk (ik (ps.map (·.1))) (ps.map fun z => D.int z.2), M, fun c o ec => ?_, ?_, k ps hnd hps all⟩
      · rw [MS.set_ne (fun z => by rw [z, hqd0] at ec; cases ec), MS.set_ne (fun z => by rw [z, hfd] at ec; cases ec)]; exact ec
      · exact .dk (by rw [MS.set_ne (Ne.symm hne), MS.set_same]) hfd (Fzs.refl _)
  · have := (List.getElem?_eq_some_iff.mp hb).1
    rw [List.length_singleton] at this
    omega
  · intro e he
    rw [List.mem_singleton.mp he]
    exact ⟨0, x, rfl, .nil, hx0, hx1⟩
end LW

set_option Elab.async false
set_option maxRecDepth 100000
set_option maxHeartbeats 4000000
namespace DL
open PySem PySem.Spec L2
/-- what may be asked about: an int, a text, a tuple -/
inductive Odd : D → Prop
  | int (i : Int) : Odd (.int i)
  | str (x : Str) : Odd (.str x)
  | tup (l : List D) : Odd (.tup l)
def isIdx (n : Int) : D → Bool
  | .int i => decide (0 ≤ i ∧ i < n)
  | _ => false
def isRow (ws : List Lamp) : D → Bool
  | .tup xs => decide (xs.length = ws.length) && (xs.zip ws).all fun z => isIdx z.2.1 z.1
  | _ => false
theorem blsD_map : ∀ bs : List Bool, blsD (bs.map D.bl) = some bs
  | [] => rfl
  | b :: bs => by simp only [List.map_cons, blsD, blsD_map bs, Option.map_some]
theorem zip_get {G : GEnv} : ∀ {l : List D} {ws : List Lamp} {i : Nat} {d : D}, (zipD l (ws.map (webV G)))[i]? = some d → ∃ y w, (l.zip ws)[i]? = some (y, w) ∧ l[i]? = some y ∧ d = .tup [y, webV G w]
  | [], _, _, _, h => by simp [zipD] at h
  | _ :: _, [], _, _, h => by simp [zipD] at h
  | y :: l, w :: ws, 0, d, h => by
    simp [zipD] at h
    exact ⟨y, w, rfl, rfl, h.symm⟩
  | y :: l, w :: ws, i + 1, d, h => by
    have h' : (zipD l (ws.map (webV G)))[i]? = some d := by simpa [zipD] using h
    obtain ⟨y', w', h1, h2, h3⟩ := zip_get h'
    exact ⟨y', w', by simpa using h1, by simpa using h2, h3⟩
theorem zip_len2 {G : GEnv} {l : List D} {ws : List Lamp} : (zipD l (ws.map (webV G))).length = (l.zip ws).length := by rw [zipD_len, List.length_map, List.length_zip]
end DL
namespace LW
open PySem PySem.Spec L2 DL
variable {G : GEnv} {M : MS} {Q : QD} {R : RK}
/-- whether it is a state -/
def isSt (n : Int) (ws : List Lamp) : D → Bool
  | .tup [a, b] => isIdx n a && isRow ws b
  | _ => false
end LW

set_option Elab.async false
set_option maxRecDepth 100000
set_option maxHeartbeats 4000000
namespace DL
open PySem PySem.Spec L2
def okAt (ws : List Lamp) (row : List Int) (i : Nat) : Bool := decide (0 ≤ row.getD i 0 ∧ row.getD i 0 < (ws.getD i (0, [])).1)
def badAt (ws : List Lamp) (row : List Int) : Option Nat := (List.range row.length).find? fun i => !okAt ws row i
/-- what is due: none, or the class of the error and what it keeps -/
def due (n : Int) (ws : List Lamp) (place : Int) (row : List Int) : Option (Nat × D) :=
  if 0 ≤ place ∧ place < n then (if (row.length : Int) = n then (badAt ws row).map fun i => (7, .tup [.int (i : Nat)]) else some (7, .int row.length)) else some (6, .int place)
def outD (n : Int) (ws : List Lamp) (place : Int) (row : List Int) : D := match due n ws place row with
  | none => .tup [.str "told", .tup [.int place, .tup (row.map D.int)]]
  | some (6, v) => .tup [.str "place", v]
  | some (_, v) => .tup [.str "state", v]
theorem lamp_len {ws : List Lamp} {row : List Int} {i : Nat} {w : Lamp} {q : Int} (h1 : ws[i]? = some w) (h2 : row[i]? = some q) : okAt ws row i = decide (0 ≤ q ∧ q < w.1) := by
  unfold okAt
  rw [List.getD_eq_getElem?_getD, List.getD_eq_getElem?_getD, h1, h2]
  rfl
end DL
namespace LW
open PySem PySem.Spec L2 DL
variable {G : GEnv} {M : MS} {Q : QD} {R : RK}
theorem place_spec {n place : Int} (k : if 0 ≤ place ∧ place < n then Q .non M else R (G.cls 6) (.int place) M) : sp_check_place G [.int n, .int place] M Q R := by
  refine ⟨rfl, ?_⟩
  simp only [T_check_place, dSeq, dIf, dTest, dBin, dVar, dC, dAsg, dStore, dRet, dB, dCons, dNil, dTup, dLst, dLstM, dDrop, dM, dCall, dCallK, dTru, dNotT, dAndT, dOrT, dAndE, dOrE, dNotE, dIfE, dChain, dChain3, dNeg, dFor, dPar, dSlice, dPart, dNoPart, z_fld, dSetF, dRaise, dRz, dNext, dBreak, dCont, dRetN, dYes, dComp, iSeq, iRange1, iRange2, DL.iZip, DL.iEnum, startD, retD, asg, asgs, asT, gMod, gMul, DL.gSub, gGt, gGe, gFdiv, gPow, wipeD, finF, finM, perm,
    List.map_cons, List.map_nil, List.length_cons, List.length_nil, List.replicate, List.cons_append, List.nil_append, List.getElem?_cons_zero, List.getElem?_cons_succ, List.set, List.getD_cons_zero, List.getD_cons_succ, Option.some.injEq, exists_eq_left', exists_eq_left, D.int.injEq, D.bl.injEq, D.ref.injEq, D.str.injEq, List.cons.injEq, and_true, true_and, exists_and_left, exists_and_right, decide_eq_true_eq, Bool.false_eq_true, if_true, if_false, ite_true, ite_false, Nat.zero_add, Nat.reduceAdd, Nat.reduceSub,
    z_gI, z_add, z_lt, z_le, z_int, z_intb, z_ixr, z_ixt, z_ixk, z_ixs, z_ixl, z_asQ, z_asQt, z_asQk, z_asQs, z_asQl, z_asL, z_asLl, z_at0, z_at1, z_at2, z_store, z_i20, z_i21, z_eq, z_ne, z_max2, z_min2, z_addt, z_sl, z_trb, z_trt, z_trk, z_trl, z_trs, List.isEmpty_cons, List.isEmpty_nil, Bool.not_true, Bool.not_false, z_len, z_lenl, z_lenk, z_lenr, z_lens, MS.set_set, MS.set_same]
  by_cases h0 : 0 ≤ place
  · rw [if_pos h0]
    by_cases h1 : place < n
    · rw [if_pos ⟨h0, h1⟩] at k
      rw [decide_eq_true h1, if_neg (by decide)]
      exact RetOk.of k
    · rw [if_neg (fun z => h1 z.2)] at k
      rw [decide_eq_false h1, if_pos (by decide)]
      exact RetX.of k
  · rw [if_neg (fun z => h0 z.1)] at k
    rw [if_neg h0]
    try rw [if_pos (by decide)]
    exact RetX.of k
theorem row_check (F : GF G) {n : Int} {rs : List (List Int)} {ws : List Lamp} (hn : (ws.length : Int) = n) {row : List Int} (hr : row.length ≤ 1000)
    (k : if (row.length : Int) = n then (match badAt ws row with | none => Q .non M | some i => R (G.cls 7) (.tup [.int (i : Nat)]) M) else R (G.cls 7) (.int row.length) M) : sp_check_row G [landV G n rs ws, .tup (row.map D.int)] M Q R := by
  refine ⟨rfl, ?_⟩
  simp only [T_check_row, dSeq, dIf, dTest, dBin, dVar, dC, dAsg, dStore, dRet, dB, dCons, dNil, dTup, dLst, dLstM, dDrop, dM, dCall, dCallK, dTru, dNotT, dAndT, dOrT, dAndE, dOrE, dNotE, dIfE, dChain, dChain3, dNeg, dFor, dPar, dSlice, dPart, dNoPart, z_fld, dSetF, dRaise, dRz, dNext, dBreak, dCont, dRetN, dYes, dComp, iSeq, iRange1, iRange2, DL.iZip, DL.iEnum, startD, retD, asg, asgs, asT, gMod, gMul, DL.gSub, gGt, gGe, gFdiv, gPow, wipeD, finF, finM, perm,
    List.map_cons, List.map_nil, List.length_cons, List.length_nil, List.replicate, List.cons_append, List.nil_append, List.getElem?_cons_zero, List.getElem?_cons_succ, List.set, List.getD_cons_zero, List.getD_cons_succ, Option.some.injEq, exists_eq_left', exists_eq_left, D.int.injEq, D.bl.injEq, D.ref.injEq, D.str.injEq, List.cons.injEq, and_true, true_and, exists_and_left, exists_and_right, decide_eq_true_eq, Bool.false_eq_true, if_true, if_false, ite_true, ite_false, Nat.zero_add, Nat.reduceAdd, Nat.reduceSub,
    z_gI, z_add, z_lt, z_le, z_int, z_intb, z_ixr, z_ixt, z_ixk, z_ixs, z_ixl, z_asQ, z_asQt, z_asQk, z_asQs, z_asQl, z_asL, z_asLl, z_at0, z_at1, z_at2, z_store, z_i20, z_i21, z_eq, z_ne, z_max2, z_min2, z_addt, z_sl, z_trb, z_trt, z_trk, z_trl, z_trs, List.isEmpty_cons, List.isEmpty_nil, Bool.not_true, Bool.not_false, z_len, z_lenl, z_lenk, z_lenr, z_lens, MS.set_set, MS.set_same]
  refine fl_lm F ?_
  simp only [dSeq, dIf, dTest, dBin, dVar, dC, dAsg, dStore, dRet, dB, dCons, dNil, dTup, dLst, dLstM, dDrop, dM, dCall, dCallK, dTru, dNotT, dAndT, dOrT, dAndE, dOrE, dNotE, dIfE, dChain, dChain3, dNeg, dFor, dPar, dSlice, dPart, dNoPart, z_fld, dSetF, dRaise, dRz, dNext, dBreak, dCont, dRetN, dYes, dComp, iSeq, iRange1, iRange2, DL.iZip, DL.iEnum, startD, retD, asg, asgs, asT, gMod, gMul, DL.gSub, gGt, gGe, gFdiv, gPow, wipeD, finF, finM, perm,
    List.map_cons, List.map_nil, List.length_cons, List.length_nil, List.replicate, List.cons_append, List.nil_append, List.getElem?_cons_zero, List.getElem?_cons_succ, List.set, List.getD_cons_zero, List.getD_cons_succ, Option.some.injEq, exists_eq_left', exists_eq_left, D.int.injEq, D.bl.injEq, D.ref.injEq, D.str.injEq, List.cons.injEq, and_true, true_and, exists_and_left, exists_and_right, decide_eq_true_eq, Bool.false_eq_true, if_true, if_false, ite_true, ite_false, Nat.zero_add, Nat.reduceAdd, Nat.reduceSub,
    z_gI, z_add, z_lt, z_le, z_int, z_intb, z_ixr, z_ixt, z_ixk, z_ixs, z_ixl, z_asQ, z_asQt, z_asQk, z_asQs, z_asQl, z_asL, z_asLl, z_at0, z_at1, z_at2, z_store, z_i20, z_i21, z_eq, z_ne, z_max2, z_min2, z_addt, z_sl, z_trb, z_trt, z_trk, z_trl, z_trs, List.isEmpty_cons, List.isEmpty_nil, Bool.not_true, Bool.not_false, z_len, z_lenl, z_lenk, z_lenr, z_lens, MS.set_set, MS.set_same]
  rw [List.length_map]
  by_cases hl : (row.length : Int) = n
  · rw [if_pos hl] at k
    rw [decide_eq_true hl, if_neg (by decide)]
    refine for_inv (fun i ρ M' => M' = M ∧ (∀ j, j < i → okAt ws row j = true) ∧ ∃ o o', ρ = [some (landV G n rs ws), some (.tup (row.map D.int)), o, o']) (fun _ _ _ _ => trivial) ?_ ?_ ⟨rfl, fun j hj => absurd hj (Nat.not_lt_zero j), none, none, rfl⟩
    · rintro i d ρ M' hd ⟨rfl, hok, o, o', rfl⟩
      obtain ⟨y, hy, rfl⟩ := enumD_get2 hd
      rw [List.getElem?_map] at hy
      obtain ⟨q, hq, rfl⟩ := Option.map_eq_some_iff.mp hy
      have hi : i < row.length := (List.getElem?_eq_some_iff.mp hq).1
      have hiw : i < ws.length := by omega
      have hw : ws[i]? = some ws[i] := List.getElem?_eq_getElem hiw
      have ho := lamp_len hw hq
      refine ⟨_, rfl, fun K hK => ?_⟩
      have bad : okAt ws row i = false → RetX R (G.cls 7) (.tup [.int (i : Nat)]) M' := fun hb => by
        have e : badAt ws row = some i := List.find?_range_eq_some.mpr ⟨by rw [hb]; rfl, List.mem_range.mpr hi, fun j hj => by rw [hok j hj]; rfl⟩
        rw [e] at k
        exact RetX.of k
      simp only [dSeq, dIf, dTest, dBin, dVar, dC, dAsg, dStore, dRet, dB, dCons, dNil, dTup, dLst, dLstM, dDrop, dM, dCall, dCallK, dTru, dNotT, dAndT, dOrT, dAndE, dOrE, dNotE, dIfE, dChain, dChain3, dNeg, dFor, dPar, dSlice, dPart, dNoPart, z_fld, dSetF, dRaise, dRz, dNext, dBreak, dCont, dRetN, dYes, dComp, iSeq, iRange1, iRange2, DL.iZip, DL.iEnum, startD, retD, asg, asgs, asT, gMod, gMul, DL.gSub, gGt, gGe, gFdiv, gPow, wipeD, finF, finM, perm,
    List.map_cons, List.map_nil, List.length_cons, List.length_nil, List.replicate, List.cons_append, List.nil_append, List.getElem?_cons_zero, List.getElem?_cons_succ, List.set, List.getD_cons_zero, List.getD_cons_succ, Option.some.injEq, exists_eq_left', exists_eq_left, D.int.injEq, D.bl.injEq, D.ref.injEq, D.str.injEq, List.cons.injEq, and_true, true_and, exists_and_left, exists_and_right, decide_eq_true_eq, Bool.false_eq_true, if_true, if_false, ite_true, ite_false, Nat.zero_add, Nat.reduceAdd, Nat.reduceSub,
    z_gI, z_add, z_lt, z_le, z_int, z_intb, z_ixr, z_ixt, z_ixk, z_ixs, z_ixl, z_asQ, z_asQt, z_asQk, z_asQs, z_asQl, z_asL, z_asLl, z_at0, z_at1, z_at2, z_store, z_i20, z_i21, z_eq, z_ne, z_max2, z_min2, z_addt, z_sl, z_trb, z_trt, z_trk, z_trl, z_trs, List.isEmpty_cons, List.isEmpty_nil, Bool.not_true, Bool.not_false, z_len, z_lenl, z_lenk, z_lenr, z_lens, MS.set_set, MS.set_same]
      by_cases h0 : 0 ≤ q
      · rw [if_pos h0]
        refine fl_ll F ?_
        have hiw' : i < (ws.map (webV G)).length := by rw [List.length_map]; exact hiw
        rw [z_ixt]
        refine ⟨_, (at_nat hiw').trans (List.getElem?_eq_getElem hiw'), ?_⟩
        rw [List.getElem_map]
        refine fl_wm F ?_
        simp only [dSeq, dIf, dTest, dBin, dVar, dC, dAsg, dStore, dRet, dB, dCons, dNil, dTup, dLst, dLstM, dDrop, dM, dCall, dCallK, dTru, dNotT, dAndT, dOrT, dAndE, dOrE, dNotE, dIfE, dChain, dChain3, dNeg, dFor, dPar, dSlice, dPart, dNoPart, z_fld, dSetF, dRaise, dRz, dNext, dBreak, dCont, dRetN, dYes, dComp, iSeq, iRange1, iRange2, DL.iZip, DL.iEnum, startD, retD, asg, asgs, asT, gMod, gMul, DL.gSub, gGt, gGe, gFdiv, gPow, wipeD, finF, finM, perm,
    List.map_cons, List.map_nil, List.length_cons, List.length_nil, List.replicate, List.cons_append, List.nil_append, List.getElem?_cons_zero, List.getElem?_cons_succ, List.set, List.getD_cons_zero, List.getD_cons_succ, Option.some.injEq, exists_eq_left', exists_eq_left, D.int.injEq, D.bl.injEq, D.ref.injEq, D.str.injEq, List.cons.injEq, and_true, true_and, exists_and_left, exists_and_right, decide_eq_true_eq, Bool.false_eq_true, if_true, if_false, ite_true, ite_false, Nat.zero_add, Nat.reduceAdd, Nat.reduceSub,
    z_gI, z_add, z_lt, z_le, z_int, z_intb, z_ixr, z_ixt, z_ixk, z_ixs, z_ixl, z_asQ, z_asQt, z_asQk, z_asQs, z_asQl, z_asL, z_asLl, z_at0, z_at1, z_at2, z_store, z_i20, z_i21, z_eq, z_ne, z_max2, z_min2, z_addt, z_sl, z_trb, z_trt, z_trk, z_trl, z_trs, List.isEmpty_cons, List.isEmpty_nil, Bool.not_true, Bool.not_false, z_len, z_lenl, z_lenk, z_lenr, z_lens, MS.set_set, MS.set_same]
        by_cases h1 : q < ws[i].1
        · have e : okAt ws row i = true := by rw [ho]; exact decide_eq_true ⟨h0, h1⟩
          rw [decide_eq_true h1, if_neg (by decide)]
          refine hK _ _ ⟨rfl, fun j hj => ?_, _, _, rfl⟩
          by_cases hji : j = i
          · rw [hji]; exact e
          · exact hok j (by omega)
        · have e : okAt ws row i = false := by rw [ho]; exact decide_eq_false fun z => h1 z.2
          rw [decide_eq_false h1, if_pos (by decide)]
          exact ⟨by decide, bad e⟩
      · rw [if_neg h0]
        have e : okAt ws row i = false := by rw [ho]; exact decide_eq_false fun z => h0 z.1
        try rw [if_pos (by decide)]
        exact ⟨by decide, bad e⟩
    · rintro ρ M' ⟨rfl, hok, o, o', rfl⟩
      rw [enumD_len, List.length_map] at hok
      have e : badAt ws row = none := List.find?_eq_none.mpr fun i hi => by rw [hok i (List.mem_range.mp hi)]; decide
      rw [e] at k
      exact RetOk.of k
  · rw [if_neg hl] at k
    rw [decide_eq_false hl, if_pos (by decide)]
    exact RetX.of k
end LW

set_option Elab.async false
set_option maxRecDepth 100000
set_option maxHeartbeats 4000000
namespace DL
open PySem PySem.Spec L2
/-- the roads without the j-th -/
def cutR (l : List (List Int)) (j : Nat) : List (List Int) := l.take j ++ l.drop (j + 1)
def Conn (l : List (List Int)) (x y : Int) : Prop := ∃ L, Wk l x y L
theorem cut_to {α : Type} {f : α → D} {l : List α} {j : Nat} (h : j ≤ l.length) : cutD (l.map f) none (some (j : Int)) = (l.take j).map f := by
  unfold cutD
  rw [HT.sIx_none, HT.sIx_nat, List.length_map, Nat.min_eq_left h, List.drop_zero, Nat.sub_zero, List.map_take]
theorem cut_from {α : Type} {f : α → D} {l : List α} {j : Nat} (h : j ≤ l.length) : cutD (l.map f) (some (j : Int)) none = (l.drop j).map f := by
  unfold cutD
  rw [HT.sIx_none, HT.sIx_nat, List.length_map, Nat.min_eq_left h, List.map_drop]
  exact List.take_of_length_le (by rw [List.length_drop, List.length_map]; exact Nat.le_refl _)
theorem cutR_len {l : List (List Int)} {j : Nat} : (cutR l j).length ≤ l.length := by
  unfold cutR
  rw [List.length_append, List.length_take, List.length_drop]
  omega
theorem cutR_mem {l : List (List Int)} {j : Nat} {r : List Int} (h : r ∈ cutR l j) : r ∈ l := by
  rcases List.mem_append.mp h with z | z
  · exact List.mem_of_mem_take z
  · exact List.mem_of_mem_drop z
theorem toPs_ints : ∀ ns : List Int, toPs (ns.map D.int) = some (ns.map PyData.int)
  | [] => rfl
  | n :: ns => by simp only [List.map_cons, toPs, toP, toPs_ints ns]
theorem lay_ints : ∀ ns : List Int, PyData.canLayAll0 (ns.map PyData.int) = true
  | [] => rfl
  | n :: ns => by simp only [List.map_cons, PyData.canLayAll0, PyData.canLay0, lay_ints ns, Bool.and_self]
theorem dep_ints : ∀ ns : List Int, PyData.depthAll (ns.map PyData.int) = 0
  | [] => rfl
  | n :: ns => by simp only [List.map_cons, PyData.depthAll, PyData.depth, dep_ints ns, Nat.max_self]
theorem blsD_map' : ∀ {bs : List Bool}, blsD (bs.map D.bl) = some bs
  | [] => rfl
  | b :: bs => by simp only [List.map_cons, blsD, blsD_map', Option.map_some]
theorem any_int {x : Int} : ∀ {l : List Int}, ((l.map PyData.int).any fun z => PyData.eqv z (.int x)) = decide (x ∈ l)
  | [] => rfl
  | y :: l => by
    rw [List.map_cons, List.any_cons, any_int]
    have e : PyData.eqv (.int y) (.int x) = decide (y = x) := rfl
    rw [e]
    by_cases h : y = x
    · subst h; simp
    · simp [h, Ne.symm h]
theorem in_ints {M : MS} {neg : Bool} {x : Int} {l : List Int} {d : D} {Q : QD} (hd : asQ M d = some (l.map D.int)) (q : Q (.bl (if neg = true then !decide (x ∈ l) else decide (x ∈ l))) M) : gIn neg (.int x) d M Q := by
  refine .inl ⟨_, .int x, _, hd, rfl, toPs_ints l, rfl, ?_, ?_⟩
  · simp only [SeqAt.shaped, PyData.canLay0, lay_ints, PyData.depth, dep_ints, Bool.true_and]
    decide
  · rw [any_int]; exact q
def notP (fs : List Int) (d : D) : Bool := match d with
  | .int y => !decide (y ∈ fs)
  | _ => false
def notL (fs : List Int) (m : Nat) : List Int := ((List.range m).map fun (i : Nat) => (i : Int)).filter fun y => !decide (y ∈ fs)
theorem not_list (fs : List Int) (m : Nat) : ((rangeD 0 m).filter (notP fs)).map id = (notL fs m).map D.int := by
  unfold rangeD notL
  rw [List.map_id, List.filter_map, List.filter_map, List.map_map]
  have e : (notP fs ∘ fun i : Nat => D.int (0 + (i : Int))) = ((fun y => !decide (y ∈ fs)) ∘ fun i : Nat => (i : Int)) := by
    funext i; simp [notP, Function.comp]
  rw [e]
  refine List.map_congr_left fun i _ => ?_
  simp [Function.comp]
theorem notL_mem {fs : List Int} {n y : Int} : y ∈ notL fs n.toNat ↔ (0 ≤ y ∧ y < n) ∧ y ∉ fs := by
  unfold notL
  rw [List.mem_filter, List.mem_map]
  constructor
  · rintro ⟨⟨i, hi, rfl⟩, h⟩
    have := List.mem_range.mp hi
    exact ⟨by omega, by simpa using h⟩
  · rintro ⟨⟨h0, h1⟩, h⟩
    exact ⟨⟨y.toNat, List.mem_range.mpr (by omega), Int.toNat_of_nonneg h0⟩, by simpa using h⟩
theorem fl_lr {G : GEnv} {M : MS} {Q : QD} {n : Int} {rs : List (List Int)} {ws : List Lamp} (F : GF G) (q : Q (rdsD rs) M) : FL G.isCls "roads" M (landV G n rs ws) Q :=
  ⟨_, _, _, rdsD rs, rfl, F.cl, (if_neg ne_mr).trans (if_pos rfl), q⟩
end DL
namespace LW
open PySem PySem.Spec L2 DL
variable {G : GEnv} {M : MS} {Q : QD} {R : RK}
theorem tree_ok (F : GF G) {n : Int} {rs : List (List Int)} {ws : List Lamp} (h : (rs.length : Int) = n - 1) (k : Q .non M) : sp_check_tree G [landV G n rs ws] M Q R := by
  refine ⟨rfl, ?_⟩
  simp only [T_check_tree, dSeq, dIf, dTest, dBin, dVar, dC, dAsg, dStore, dRet, dB, dCons, dNil, dTup, dLst, dLstM, dDrop, dM, dCall, dCallK, dTru, dNotT, dAndT, dOrT, dAndE, dOrE, dNotE, dIfE, dChain, dChain3, dNeg, dFor, dPar, dSlice, dPart, dNoPart, z_fld, dSetF, dRaise, dRz, dNext, dBreak, dCont, dRetN, dYes, dComp, iSeq, iRange1, iRange2, DL.iZip, DL.iEnum, startD, retD, asg, asgs, asT, gMod, gMul, DL.gSub, gGt, gGe, gFdiv, gPow, wipeD, finF, finM, perm,
    List.map_cons, List.map_nil, List.length_cons, List.length_nil, List.replicate, List.cons_append, List.nil_append, List.getElem?_cons_zero, List.getElem?_cons_succ, List.set, List.getD_cons_zero, List.getD_cons_succ, Option.some.injEq, exists_eq_left', exists_eq_left, D.int.injEq, D.bl.injEq, D.ref.injEq, D.str.injEq, List.cons.injEq, and_true, true_and, exists_and_left, exists_and_right, decide_eq_true_eq, Bool.false_eq_true, if_true, if_false, ite_true, ite_false, Nat.zero_add, Nat.reduceAdd, Nat.reduceSub,
    z_gI, z_add, z_lt, z_le, z_int, z_intb, z_ixr, z_ixt, z_ixk, z_ixs, z_ixl, z_asQ, z_asQt, z_asQk, z_asQs, z_asQl, z_asL, z_asLl, z_at0, z_at1, z_at2, z_store, z_i20, z_i21, z_eq, z_ne, z_max2, z_min2, z_addt, z_sl, z_trb, z_trt, z_trk, z_trl, z_trs, List.isEmpty_cons, List.isEmpty_nil, Bool.not_true, Bool.not_false, z_len, z_lenl, z_lenk, z_lenr, z_lens, MS.set_set, MS.set_same]
  refine ⟨rfl, ?_⟩
  simp only [T_is_tree, dSeq, dIf, dTest, dBin, dVar, dC, dAsg, dStore, dRet, dB, dCons, dNil, dTup, dLst, dLstM, dDrop, dM, dCall, dCallK, dTru, dNotT, dAndT, dOrT, dAndE, dOrE, dNotE, dIfE, dChain, dChain3, dNeg, dFor, dPar, dSlice, dPart, dNoPart, z_fld, dSetF, dRaise, dRz, dNext, dBreak, dCont, dRetN, dYes, dComp, iSeq, iRange1, iRange2, DL.iZip, DL.iEnum, startD, retD, asg, asgs, asT, gMod, gMul, DL.gSub, gGt, gGe, gFdiv, gPow, wipeD, finF, finM, perm,
    List.map_cons, List.map_nil, List.length_cons, List.length_nil, List.replicate, List.cons_append, List.nil_append, List.getElem?_cons_zero, List.getElem?_cons_succ, List.set, List.getD_cons_zero, List.getD_cons_succ, Option.some.injEq, exists_eq_left', exists_eq_left, D.int.injEq, D.bl.injEq, D.ref.injEq, D.str.injEq, List.cons.injEq, and_true, true_and, exists_and_left, exists_and_right, decide_eq_true_eq, Bool.false_eq_true, if_true, if_false, ite_true, ite_false, Nat.zero_add, Nat.reduceAdd, Nat.reduceSub,
    z_gI, z_add, z_lt, z_le, z_int, z_intb, z_ixr, z_ixt, z_ixk, z_ixs, z_ixl, z_asQ, z_asQt, z_asQk, z_asQs, z_asQl, z_asL, z_asLl, z_at0, z_at1, z_at2, z_store, z_i20, z_i21, z_eq, z_ne, z_max2, z_min2, z_addt, z_sl, z_trb, z_trt, z_trk, z_trl, z_trs, List.isEmpty_cons, List.isEmpty_nil, Bool.not_true, Bool.not_false, z_len, z_lenl, z_lenk, z_lenr, z_lens, MS.set_set, MS.set_same]
  refine fl_lr F ?_
  rw [z_len, List.length_map]
  refine fl_lm F ?_
  simp only [dSeq, dIf, dTest, dBin, dVar, dC, dAsg, dStore, dRet, dB, dCons, dNil, dTup, dLst, dLstM, dDrop, dM, dCall, dCallK, dTru, dNotT, dAndT, dOrT, dAndE, dOrE, dNotE, dIfE, dChain, dChain3, dNeg, dFor, dPar, dSlice, dPart, dNoPart, z_fld, dSetF, dRaise, dRz, dNext, dBreak, dCont, dRetN, dYes, dComp, iSeq, iRange1, iRange2, DL.iZip, DL.iEnum, startD, retD, asg, asgs, asT, gMod, gMul, DL.gSub, gGt, gGe, gFdiv, gPow, wipeD, finF, finM, perm,
    List.map_cons, List.map_nil, List.length_cons, List.length_nil, List.replicate, List.cons_append, List.nil_append, List.getElem?_cons_zero, List.getElem?_cons_succ, List.set, List.getD_cons_zero, List.getD_cons_succ, Option.some.injEq, exists_eq_left', exists_eq_left, D.int.injEq, D.bl.injEq, D.ref.injEq, D.str.injEq, List.cons.injEq, and_true, true_and, exists_and_left, exists_and_right, decide_eq_true_eq, Bool.false_eq_true, if_true, if_false, ite_true, ite_false, Nat.zero_add, Nat.reduceAdd, Nat.reduceSub,
    z_gI, z_add, z_lt, z_le, z_int, z_intb, z_ixr, z_ixt, z_ixk, z_ixs, z_ixl, z_asQ, z_asQt, z_asQk, z_asQs, z_asQl, z_asL, z_asLl, z_at0, z_at1, z_at2, z_store, z_i20, z_i21, z_eq, z_ne, z_max2, z_min2, z_addt, z_sl, z_trb, z_trt, z_trk, z_trl, z_trs, List.isEmpty_cons, List.isEmpty_nil, Bool.not_true, Bool.not_false, z_len, z_lenl, z_lenk, z_lenr, z_lens, MS.set_set, MS.set_same]
  rw [decide_eq_true h]
  refine RetOk.of ⟨true, rfl, ?_⟩
  rw [if_neg (by decide)]
  exact RetOk.of k
theorem parted_spec (F : GF G) {n x : Int} {rs : List (List Int)} {ws : List Lamp} (h : ∀ r ∈ rs, IsRd n r) (hl : rs.length ≤ 100) {j : Nat} (hj : j < rs.length) (hx0 : 0 ≤ x) (hx1 : x < n) (h2 : n ≤ 10)
    (k : ∀ S : List Int, (∀ y, y ∈ S ↔ (0 ≤ y ∧ y < n) ∧ ¬ Conn (cutR rs j) x y) → Q (.tup (S.map D.int)) M) : sp_parted G [landV G n rs ws, .int (j : Nat), .int x] M Q R := by
  refine ⟨rfl, ?_⟩
  simp only [T_parted, dSeq, dIf, dTest, dBin, dVar, dC, dAsg, dStore, dRet, dB, dCons, dNil, dTup, dLst, dLstM, dDrop, dM, dCall, dCallK, dTru, dNotT, dAndT, dOrT, dAndE, dOrE, dNotE, dIfE, dChain, dChain3, dNeg, dFor, dPar, dSlice, dPart, dNoPart, z_fld, dSetF, dRaise, dRz, dNext, dBreak, dCont, dRetN, dYes, dComp, iSeq, iRange1, iRange2, DL.iZip, DL.iEnum, startD, retD, asg, asgs, asT, gMod, gMul, DL.gSub, gGt, gGe, gFdiv, gPow, wipeD, finF, finM, perm,
    List.map_cons, List.map_nil, List.length_cons, List.length_nil, List.replicate, List.cons_append, List.nil_append, List.getElem?_cons_zero, List.getElem?_cons_succ, List.set, List.getD_cons_zero, List.getD_cons_succ, Option.some.injEq, exists_eq_left', exists_eq_left, D.int.injEq, D.bl.injEq, D.ref.injEq, D.str.injEq, List.cons.injEq, and_true, true_and, exists_and_left, exists_and_right, decide_eq_true_eq, Bool.false_eq_true, if_true, if_false, ite_true, ite_false, Nat.zero_add, Nat.reduceAdd, Nat.reduceSub,
    z_gI, z_add, z_lt, z_le, z_int, z_intb, z_ixr, z_ixt, z_ixk, z_ixs, z_ixl, z_asQ, z_asQt, z_asQk, z_asQs, z_asQl, z_asL, z_asLl, z_at0, z_at1, z_at2, z_store, z_i20, z_i21, z_eq, z_ne, z_max2, z_min2, z_addt, z_sl, z_trb, z_trt, z_trk, z_trl, z_trs, List.isEmpty_cons, List.isEmpty_nil, Bool.not_true, Bool.not_false, z_len, z_lenl, z_lenk, z_lenr, z_lens, MS.set_set, MS.set_same]
  refine fl_lr F ?_
  rw [z_sl]
  refine fl_lr F ?_
  rw [z_sl]
  have e1 : cutD (rs.map tupOf) none (some (j : Int)) = (rs.take j).map tupOf := cut_to (by omega)
  have e2 : cutD (rs.map tupOf) (some ((j : Int) + 1)) none = (rs.drop (j + 1)).map tupOf := cut_from (j := j + 1) (by omega)
  rw [e1, e2, z_addt]
  refine ⟨by rw [sizeLine_eq, List.length_map, List.length_map, List.length_take, List.length_drop]; omega, ?_⟩
  rw [← List.map_append]
  show sp_lengths_from G [.tup ((cutR rs j).map tupOf), .int x] M _ _
  have hc := cutR_len (l := rs) (j := j)
  refine least_spec (fun r hr => h r (cutR_mem hr)) (by omega) hx0 hx1 h2 fun ps hnd hps hall => ?_
  refine fl_lm F ⟨n, rfl, by omega, by omega, ?_⟩
  have hds : (ps.map fun z => D.int z.2).length = (ps.map (·.1)).length := by simp
  refine comp_map (notP (ps.map (·.1))) id trivial _ _ (fun d hd => ?_) (by rw [rangeD_len]; simp; omega) ?_
  · obtain ⟨i, hi⟩ := List.getElem?_of_mem hd
    obtain ⟨hi1, rfl⟩ := rangeD_get hi
    refine ⟨_, rfl, fun Q' hq => ?_, fun _ Q' hq => ?_⟩
    · simp only [dSeq, dIf, dTest, dBin, dVar, dC, dAsg, dStore, dRet, dB, dCons, dNil, dTup, dLst, dLstM, dDrop, dM, dCall, dCallK, dTru, dNotT, dAndT, dOrT, dAndE, dOrE, dNotE, dIfE, dChain, dChain3, dNeg, dFor, dPar, dSlice, dPart, dNoPart, z_fld, dSetF, dRaise, dRz, dNext, dBreak, dCont, dRetN, dYes, dComp, iSeq, iRange1, iRange2, DL.iZip, DL.iEnum, startD, retD, asg, asgs, asT, gMod, gMul, DL.gSub, gGt, gGe, gFdiv, gPow, wipeD, finF, finM, perm,
    List.map_cons, List.map_nil, List.length_cons, List.length_nil, List.replicate, List.cons_append, List.nil_append, List.getElem?_cons_zero, List.getElem?_cons_succ, List.set, List.getD_cons_zero, List.getD_cons_succ, Option.some.injEq, exists_eq_left', exists_eq_left, D.int.injEq, D.bl.injEq, D.ref.injEq, D.str.injEq, List.cons.injEq, and_true, true_and, exists_and_left, exists_and_right, decide_eq_true_eq, Bool.false_eq_true, if_true, if_false, ite_true, ite_false, Nat.zero_add, Nat.reduceAdd, Nat.reduceSub,
    z_gI, z_add, z_lt, z_le, z_int, z_intb, z_ixr, z_ixt, z_ixk, z_ixs, z_ixl, z_asQ, z_asQt, z_asQk, z_asQs, z_asQl, z_asL, z_asLl, z_at0, z_at1, z_at2, z_store, z_i20, z_i21, z_eq, z_ne, z_max2, z_min2, z_addt, z_sl, z_trb, z_trt, z_trk, z_trl, z_trs, List.isEmpty_cons, List.isEmpty_nil, Bool.not_true, Bool.not_false, z_len, z_lenl, z_lenk, z_lenr, z_lens, MS.set_set, MS.set_same]
      exact in_dict rfl hds ⟨_, rfl, hq⟩
    · simp only [dSeq, dIf, dTest, dBin, dVar, dC, dAsg, dStore, dRet, dB, dCons, dNil, dTup, dLst, dLstM, dDrop, dM, dCall, dCallK, dTru, dNotT, dAndT, dOrT, dAndE, dOrE, dNotE, dIfE, dChain, dChain3, dNeg, dFor, dPar, dSlice, dPart, dNoPart, z_fld, dSetF, dRaise, dRz, dNext, dBreak, dCont, dRetN, dYes, dComp, iSeq, iRange1, iRange2, DL.iZip, DL.iEnum, startD, retD, asg, asgs, asT, gMod, gMul, DL.gSub, gGt, gGe, gFdiv, gPow, wipeD, finF, finM, perm,
    List.map_cons, List.map_nil, List.length_cons, List.length_nil, List.replicate, List.cons_append, List.nil_append, List.getElem?_cons_zero, List.getElem?_cons_succ, List.set, List.getD_cons_zero, List.getD_cons_succ, Option.some.injEq, exists_eq_left', exists_eq_left, D.int.injEq, D.bl.injEq, D.ref.injEq, D.str.injEq, List.cons.injEq, and_true, true_and, exists_and_left, exists_and_right, decide_eq_true_eq, Bool.false_eq_true, if_true, if_false, ite_true, ite_false, Nat.zero_add, Nat.reduceAdd, Nat.reduceSub,
    z_gI, z_add, z_lt, z_le, z_int, z_intb, z_ixr, z_ixt, z_ixk, z_ixs, z_ixl, z_asQ, z_asQt, z_asQk, z_asQs, z_asQl, z_asL, z_asLl, z_at0, z_at1, z_at2, z_store, z_i20, z_i21, z_eq, z_ne, z_max2, z_min2, z_addt, z_sl, z_trb, z_trt, z_trk, z_trl, z_trs, List.isEmpty_cons, List.isEmpty_nil, Bool.not_true, Bool.not_false, z_len, z_lenl, z_lenk, z_lenr, z_lens, MS.set_set, MS.set_same]
      exact hq
  · rw [not_list, List.nil_append]
    refine ⟨_, rfl, .inr ⟨_, rfl, RetOk.of (k _ fun y => ?_)⟩⟩
    rw [notL_mem]
    constructor
    · rintro ⟨h1, h2⟩
      refine ⟨h1, fun ⟨L, hw⟩ => ?_⟩
      obtain ⟨d, z, _⟩ := hall y L hw
      exact h2 (List.mem_map.mpr ⟨_, z, rfl⟩)
    · rintro ⟨h1, h2⟩
      refine ⟨h1, fun z => ?_⟩
      obtain ⟨⟨a, b⟩, hz, rfl⟩ := List.mem_map.mp z
      exact h2 ⟨b, hps _ hz⟩
open Classical in
/-- how often a road is crossed: far tells what lies beyond -/
noncomputable def crossV (far : Int → Prop) (e : Int) (ps : List Int) : Int := if far e then 1 else if ∃ p ∈ ps, far p then 2 else 0
end LW

set_option Elab.async false
set_option maxRecDepth 100000
set_option maxHeartbeats 4000000
namespace DL
open PySem PySem.Spec L2
abbrev stD (place : Int) (row : List Int) : D := .tup [.int place, .tup (row.map D.int)]
/-- the places whose lamps differ -/
def chg (ra rb : List Int) : List Int := ((List.range ra.length).filter fun i => !decide (ra.getD i 0 = rb.getD i 0)).map fun i : Nat => (i : Int)
def chgP (ra rb : List Int) (d : D) : Bool := match d with
  | .int i => !decide (ra.getD i.toNat 0 = rb.getD i.toNat 0)
  | _ => false
theorem chg_list (ra rb : List Int) : ((rangeD 0 ra.length).filter (chgP ra rb)).map id = (chg ra rb).map D.int := by
  unfold rangeD chg
  rw [List.map_id, List.filter_map, List.map_map]
  have e : (chgP ra rb ∘ fun i : Nat => D.int (0 + (i : Int))) = fun i => !decide (ra.getD i 0 = rb.getD i 0) := by
    funext i; simp [chgP, Function.comp]
  rw [e]
  refine List.map_congr_left fun i _ => ?_
  simp [Function.comp]
theorem chg_mem {ra rb : List Int} {y : Int} (h : y ∈ chg ra rb) : 0 ≤ y ∧ y < ra.length := by
  obtain ⟨i, hi, rfl⟩ := List.mem_map.mp h
  have := List.mem_range.mp (List.mem_filter.mp hi).1
  omega
theorem chg_len {ra rb : List Int} : (chg ra rb).length ≤ ra.length := by
  unfold chg
  rw [List.length_map]
  exact Nat.le_trans (List.length_filter_le _ _) (by simp)
end DL
namespace LW
open PySem PySem.Spec L2 DL
variable {G : GEnv} {M : MS} {Q : QD} {R : RK}
/-- the crossings from (pa, ra) to (pb, rb) -/
noncomputable def crossL (n : Int) (rs : List (List Int)) (pa : Int) (ra : List Int) (pb : Int) (rb : List Int) : List Int := (List.range rs.length).map fun j => crossV (fun y => ¬ Conn (cutR rs j) pa y) pb (chg ra rb)
theorem state_check (F : GF G) {n : Int} {rs : List (List Int)} {ws : List Lamp} (hn : (ws.length : Int) = n) {place : Int} {row : List Int} (hr : row.length ≤ 1000)
    (k : match due n ws place row with | none => Q .non M | some (c, v) => R (G.cls c) v M) : sp_check_state G [landV G n rs ws, stD place row] M Q R := by
  refine ⟨rfl, ?_⟩
  simp only [T_check_state, dSeq, dIf, dTest, dBin, dVar, dC, dAsg, dStore, dRet, dB, dCons, dNil, dTup, dLst, dLstM, dDrop, dM, dCall, dCallK, dTru, dNotT, dAndT, dOrT, dAndE, dOrE, dNotE, dIfE, dChain, dChain3, dNeg, dFor, dPar, dSlice, dPart, dNoPart, z_fld, dSetF, dRaise, dRz, dNext, dBreak, dCont, dRetN, dYes, dComp, iSeq, iRange1, iRange2, DL.iZip, DL.iEnum, startD, retD, asg, asgs, asT, gMod, gMul, DL.gSub, gGt, gGe, gFdiv, gPow, wipeD, finF, finM, perm,
    List.map_cons, List.map_nil, List.length_cons, List.length_nil, List.replicate, List.cons_append, List.nil_append, List.getElem?_cons_zero, List.getElem?_cons_succ, List.set, List.getD_cons_zero, List.getD_cons_succ, Option.some.injEq, exists_eq_left', exists_eq_left, D.int.injEq, D.bl.injEq, D.ref.injEq, D.str.injEq, List.cons.injEq, and_true, true_and, exists_and_left, exists_and_right, decide_eq_true_eq, Bool.false_eq_true, if_true, if_false, ite_true, ite_false, Nat.zero_add, Nat.reduceAdd, Nat.reduceSub,
    z_gI, z_add, z_lt, z_le, z_int, z_intb, z_ixr, z_ixt, z_ixk, z_ixs, z_ixl, z_asQ, z_asQt, z_asQk, z_asQs, z_asQl, z_asL, z_asLl, z_at0, z_at1, z_at2, z_store, z_i20, z_i21, z_eq, z_ne, z_max2, z_min2, z_addt, z_sl, z_trb, z_trt, z_trk, z_trl, z_trs, List.isEmpty_cons, List.isEmpty_nil, Bool.not_true, Bool.not_false, z_len, z_lenl, z_lenk, z_lenr, z_lens, MS.set_set, MS.set_same]
  refine fl_lm F ?_
  refine place_spec ?_
  unfold due at k
  by_cases hp : 0 ≤ place ∧ place < n
  · rw [if_pos hp] at k ⊢
    refine row_check F hn hr ?_
    by_cases hl : (row.length : Int) = n
    · rw [if_pos hl] at k ⊢
      cases hb : badAt ws row with
      | none => rw [hb] at k; exact RetOk.of k
      | some i => rw [hb] at k; exact RetX.of k
    · rw [if_neg hl] at k ⊢
      exact RetX.of k
  · rw [if_neg hp] at k ⊢
    exact RetX.of k
end LW

set_option Elab.async false
set_option maxRecDepth 100000
set_option maxHeartbeats 4000000
namespace LW
open PySem PySem.Spec L2 DL
variable {G : GEnv} {M : MS} {Q : QD} {R : RK}
theorem law_made_spec13 (F : GF G) {n : Int} {rs : List (List Int)} {ws : List Lamp} (h : LandOk n rs ws) (k : Q (landV G n rs ws) M) : sp__law_made G [landD rs ws] M Q R := by
  have h6 := h.hi
  have h7 := h.all
  refine ⟨rfl, ?_⟩
  simp only [T__law_made, dSeq, dIf, dTest, dBin, dVar, dC, dAsg, dStore, dRet, dB, dCons, dNil, dTup, dLst, dLstM, dDrop, dM, dCall, dCallK, dTru, dNotT, dAndT, dOrT, dAndE, dOrE, dNotE, dIfE, dChain, dChain3, dNeg, dFor, dPar, dSlice, dPart, dNoPart, z_fld, dSetF, dRaise, dRz, dNext, dBreak, dCont, dRetN, dYes, dComp, iSeq, iRange1, iRange2, DL.iZip, DL.iEnum, startD, retD, asg, asgs, asT, gMod, gMul, DL.gSub, gGt, gGe, gFdiv, gPow, wipeD, finF, finM, perm,
    List.map_cons, List.map_nil, List.length_cons, List.length_nil, List.replicate, List.cons_append, List.nil_append, List.getElem?_cons_zero, List.getElem?_cons_succ, List.set, List.getD_cons_zero, List.getD_cons_succ, Option.some.injEq, exists_eq_left', exists_eq_left, D.int.injEq, D.bl.injEq, D.ref.injEq, D.str.injEq, List.cons.injEq, and_true, true_and, exists_and_left, exists_and_right, decide_eq_true_eq, Bool.false_eq_true, if_true, if_false, ite_true, ite_false, Nat.zero_add, Nat.reduceAdd, Nat.reduceSub,
    z_gI, z_add, z_lt, z_le, z_int, z_intb, z_ixr, z_ixt, z_ixk, z_ixs, z_ixl, z_asQ, z_asQt, z_asQk, z_asQs, z_asQl, z_asL, z_asLl, z_at0, z_at1, z_at2, z_store, z_i20, z_i21, z_eq, z_ne, z_max2, z_min2, z_addt, z_sl, z_trb, z_trt, z_trk, z_trl, z_trs, List.isEmpty_cons, List.isEmpty_nil, Bool.not_true, Bool.not_false, z_len, z_lenl, z_lenk, z_lenr, z_lens, MS.set_set, MS.set_same]
  refine comp_inv (fun i acc M' => M' = M ∧ acc = (ws.take i).map (webV G)) (fun _ _ _ _ => trivial) ?_ ?_ ⟨rfl, rfl⟩
  · rintro i d acc M' hd ⟨rfl, rfl⟩
    rw [List.getElem?_map] at hd
    obtain ⟨w, hw, rfl⟩ := Option.map_eq_some_iff.mp hd
    have hi : i < ws.length := (List.getElem?_eq_some_iff.mp hw).1
    refine ⟨_, rfl, fun K hK => ?_⟩
    simp only [dSeq, dIf, dTest, dBin, dVar, dC, dAsg, dStore, dRet, dB, dCons, dNil, dTup, dLst, dLstM, dDrop, dM, dCall, dCallK, dTru, dNotT, dAndT, dOrT, dAndE, dOrE, dNotE, dIfE, dChain, dChain3, dNeg, dFor, dPar, dSlice, dPart, dNoPart, z_fld, dSetF, dRaise, dRz, dNext, dBreak, dCont, dRetN, dYes, dComp, iSeq, iRange1, iRange2, DL.iZip, DL.iEnum, startD, retD, asg, asgs, asT, gMod, gMul, DL.gSub, gGt, gGe, gFdiv, gPow, wipeD, finF, finM, perm,
    List.map_cons, List.map_nil, List.length_cons, List.length_nil, List.replicate, List.cons_append, List.nil_append, List.getElem?_cons_zero, List.getElem?_cons_succ, List.set, List.getD_cons_zero, List.getD_cons_succ, Option.some.injEq, exists_eq_left', exists_eq_left, D.int.injEq, D.bl.injEq, D.ref.injEq, D.str.injEq, List.cons.injEq, and_true, true_and, exists_and_left, exists_and_right, decide_eq_true_eq, Bool.false_eq_true, if_true, if_false, ite_true, ite_false, Nat.zero_add, Nat.reduceAdd, Nat.reduceSub,
    z_gI, z_add, z_lt, z_le, z_int, z_intb, z_ixr, z_ixt, z_ixk, z_ixs, z_ixl, z_asQ, z_asQt, z_asQk, z_asQs, z_asQl, z_asL, z_asLl, z_at0, z_at1, z_at2, z_store, z_i20, z_i21, z_eq, z_ne, z_max2, z_min2, z_addt, z_sl, z_trb, z_trt, z_trk, z_trl, z_trs, List.isEmpty_cons, List.isEmpty_nil, Bool.not_true, Bool.not_false, z_len, z_lenl, z_lenk, z_lenr, z_lens, MS.set_set, MS.set_same]
    refine web_made F (h.ok w (List.mem_of_getElem? hw)) ?_
    refine ⟨by rw [sizeLine_eq, List.length_map, List.length_take]; omega, hK _ _ ⟨rfl, ?_⟩⟩
    rw [List.take_succ, hw, List.map_append]
    rfl
  · rintro acc M' ⟨rfl, rfl⟩
    rw [List.length_map, List.take_length]
    refine ⟨_, rfl, .inr ⟨_, rfl, ?_⟩⟩
    show sp_made_land G [.int ws.length, rdsD rs, .tup (ws.map (webV G))] _ _ _
    rw [h7]
    exact land_made F h (RetOk.of k)
theorem nb_bd {l : List (List Int)} {x n : Int} (h : ∀ r ∈ l, IsRd n r) (hn : n ≤ 1000) {e : List Int} (he : e ∈ nb l x) : e.length = 2 ∧ TS.Bd 4294967296 e := by
  have bd : ∀ r ∈ l, ∃ p q w, r = [p, q, w] ∧ 0 ≤ p ∧ p < q ∧ q < n ∧ 1 ≤ w ∧ w ≤ 100 := h
  rcases List.mem_append.mp he with z | z
  · obtain ⟨r, hr, rfl⟩ := List.mem_map.mp z
    obtain ⟨p, q, w, rfl, h1, h2, h3, h4, h5⟩ := bd r (List.mem_filter.mp hr).1
    refine ⟨rfl, fun m hm => ?_⟩
    have hm' : m = p ∨ m = w := by simpa using hm
    rcases hm' with rfl | rfl <;> omega
  · obtain ⟨r, hr, rfl⟩ := List.mem_map.mp z
    obtain ⟨p, q, w, rfl, h1, h2, h3, h4, h5⟩ := bd r (List.mem_filter.mp hr).1
    refine ⟨rfl, fun m hm => ?_⟩
    have hm' : m = q ∨ m = w := by simpa using hm
    rcases hm' with rfl | rfl <;> omega
/-- the law's own neighbours: the same ones, in some order -/
theorem lawtied_spec {n x : Int} {l : List (List Int)} (h : ∀ r ∈ l, IsRd n r) (hn : n ≤ 1000) (hl : l.length ≤ 30) (k : ∀ e : List (List Int), e.Perm (nbA l x ++ nbB l x) → Q (.lst (e.map tupOf)) M) : sp__law_tied G [.tup (l.map tupOf), .int x] M Q R := by
  refine ⟨rfl, ?_⟩
  simp only [T__law_tied, dSeq, dIf, dTest, dBin, dVar, dC, dAsg, dStore, dRet, dB, dCons, dNil, dTup, dLst, dLstM, dDrop, dM, dCall, dCallK, dTru, dNotT, dAndT, dOrT, dAndE, dOrE, dNotE, dIfE, dChain, dChain3, dNeg, dFor, dPar, dSlice, dPart, dNoPart, z_fld, dSetF, dRaise, dRz, dNext, dBreak, dCont, dRetN, dYes, dComp, iSeq, iRange1, iRange2, DL.iZip, DL.iEnum, startD, retD, asg, asgs, asT, gMod, gMul, DL.gSub, gGt, gGe, gFdiv, gPow, wipeD, finF, finM, perm,
    List.map_cons, List.map_nil, List.length_cons, List.length_nil, List.replicate, List.cons_append, List.nil_append, List.getElem?_cons_zero, List.getElem?_cons_succ, List.set, List.getD_cons_zero, List.getD_cons_succ, Option.some.injEq, exists_eq_left', exists_eq_left, D.int.injEq, D.bl.injEq, D.ref.injEq, D.str.injEq, List.cons.injEq, and_true, true_and, exists_and_left, exists_and_right, decide_eq_true_eq, Bool.false_eq_true, if_true, if_false, ite_true, ite_false, Nat.zero_add, Nat.reduceAdd, Nat.reduceSub,
    z_gI, z_add, z_lt, z_le, z_int, z_intb, z_ixr, z_ixt, z_ixk, z_ixs, z_ixl, z_asQ, z_asQt, z_asQk, z_asQs, z_asQl, z_asL, z_asLl, z_at0, z_at1, z_at2, z_store, z_i20, z_i21, z_eq, z_ne, z_max2, z_min2, z_addt, z_sl, z_trb, z_trt, z_trk, z_trl, z_trs, List.isEmpty_cons, List.isEmpty_nil, Bool.not_true, Bool.not_false, z_len, z_lenl, z_lenk, z_lenr, z_lens, MS.set_set, MS.set_same]
  have sh : ∀ d ∈ l.map tupOf, ∃ p q w, d = .tup [.int p, .int q, .int w] := fun d hd => by
    obtain ⟨r, hr, rfl⟩ := List.mem_map.mp hd
    obtain ⟨p, q, w, rfl, _⟩ := h r hr
    exact ⟨p, q, w, rfl⟩
  refine comp_map (fun d => decide (atD d 0 = x)) (fun d => tupOf [atD d 1, atD d 2]) trivial _ _ (fun d hd => ?_) (by simp; omega) ?_
  · obtain ⟨p, q, w, rfl⟩ := sh d hd
    refine ⟨_, rfl, fun Q' hq => ?_, fun _ Q' hq => ?_⟩
    · simp only [dSeq, dIf, dTest, dBin, dVar, dC, dAsg, dStore, dRet, dB, dCons, dNil, dTup, dLst, dLstM, dDrop, dM, dCall, dCallK, dTru, dNotT, dAndT, dOrT, dAndE, dOrE, dNotE, dIfE, dChain, dChain3, dNeg, dFor, dPar, dSlice, dPart, dNoPart, z_fld, dSetF, dRaise, dRz, dNext, dBreak, dCont, dRetN, dYes, dComp, iSeq, iRange1, iRange2, DL.iZip, DL.iEnum, startD, retD, asg, asgs, asT, gMod, gMul, DL.gSub, gGt, gGe, gFdiv, gPow, wipeD, finF, finM, perm,
    List.map_cons, List.map_nil, List.length_cons, List.length_nil, List.replicate, List.cons_append, List.nil_append, List.getElem?_cons_zero, List.getElem?_cons_succ, List.set, List.getD_cons_zero, List.getD_cons_succ, Option.some.injEq, exists_eq_left', exists_eq_left, D.int.injEq, D.bl.injEq, D.ref.injEq, D.str.injEq, List.cons.injEq, and_true, true_and, exists_and_left, exists_and_right, decide_eq_true_eq, Bool.false_eq_true, if_true, if_false, ite_true, ite_false, Nat.zero_add, Nat.reduceAdd, Nat.reduceSub,
    z_gI, z_add, z_lt, z_le, z_int, z_intb, z_ixr, z_ixt, z_ixk, z_ixs, z_ixl, z_asQ, z_asQt, z_asQk, z_asQs, z_asQl, z_asL, z_asLl, z_at0, z_at1, z_at2, z_store, z_i20, z_i21, z_eq, z_ne, z_max2, z_min2, z_addt, z_sl, z_trb, z_trt, z_trk, z_trl, z_trs, List.isEmpty_cons, List.isEmpty_nil, Bool.not_true, Bool.not_false, z_len, z_lenl, z_lenk, z_lenr, z_lens, MS.set_set, MS.set_same]; exact hq
    · simp only [dSeq, dIf, dTest, dBin, dVar, dC, dAsg, dStore, dRet, dB, dCons, dNil, dTup, dLst, dLstM, dDrop, dM, dCall, dCallK, dTru, dNotT, dAndT, dOrT, dAndE, dOrE, dNotE, dIfE, dChain, dChain3, dNeg, dFor, dPar, dSlice, dPart, dNoPart, z_fld, dSetF, dRaise, dRz, dNext, dBreak, dCont, dRetN, dYes, dComp, iSeq, iRange1, iRange2, DL.iZip, DL.iEnum, startD, retD, asg, asgs, asT, gMod, gMul, DL.gSub, gGt, gGe, gFdiv, gPow, wipeD, finF, finM, perm,
    List.map_cons, List.map_nil, List.length_cons, List.length_nil, List.replicate, List.cons_append, List.nil_append, List.getElem?_cons_zero, List.getElem?_cons_succ, List.set, List.getD_cons_zero, List.getD_cons_succ, Option.some.injEq, exists_eq_left', exists_eq_left, D.int.injEq, D.bl.injEq, D.ref.injEq, D.str.injEq, List.cons.injEq, and_true, true_and, exists_and_left, exists_and_right, decide_eq_true_eq, Bool.false_eq_true, if_true, if_false, ite_true, ite_false, Nat.zero_add, Nat.reduceAdd, Nat.reduceSub,
    z_gI, z_add, z_lt, z_le, z_int, z_intb, z_ixr, z_ixt, z_ixk, z_ixs, z_ixl, z_asQ, z_asQt, z_asQk, z_asQs, z_asQl, z_asL, z_asLl, z_at0, z_at1, z_at2, z_store, z_i20, z_i21, z_eq, z_ne, z_max2, z_min2, z_addt, z_sl, z_trb, z_trt, z_trk, z_trl, z_trs, List.isEmpty_cons, List.isEmpty_nil, Bool.not_true, Bool.not_false, z_len, z_lenl, z_lenk, z_lenr, z_lens, MS.set_set, MS.set_same]; exact ⟨by decide, hq⟩
  · rw [comp_roads (P' := fun r => decide (r.getD 0 0 = x)) (f' := fun r => [r.getD 1 0, r.getD 2 0]) (fun r => by rw [atD_tup]) (fun r => by rw [atD_tup, atD_tup]), List.nil_append]
    try simp only [dSeq, dIf, dTest, dBin, dVar, dC, dAsg, dStore, dRet, dB, dCons, dNil, dTup, dLst, dLstM, dDrop, dM, dCall, dCallK, dTru, dNotT, dAndT, dOrT, dAndE, dOrE, dNotE, dIfE, dChain, dChain3, dNeg, dFor, dPar, dSlice, dPart, dNoPart, z_fld, dSetF, dRaise, dRz, dNext, dBreak, dCont, dRetN, dYes, dComp, iSeq, iRange1, iRange2, DL.iZip, DL.iEnum, startD, retD, asg, asgs, asT, gMod, gMul, DL.gSub, gGt, gGe, gFdiv, gPow, wipeD, finF, finM, perm,
    List.map_cons, List.map_nil, List.length_cons, List.length_nil, List.replicate, List.cons_append, List.nil_append, List.getElem?_cons_zero, List.getElem?_cons_succ, List.set, List.getD_cons_zero, List.getD_cons_succ, Option.some.injEq, exists_eq_left', exists_eq_left, D.int.injEq, D.bl.injEq, D.ref.injEq, D.str.injEq, List.cons.injEq, and_true, true_and, exists_and_left, exists_and_right, decide_eq_true_eq, Bool.false_eq_true, if_true, if_false, ite_true, ite_false, Nat.zero_add, Nat.reduceAdd, Nat.reduceSub,
    z_gI, z_add, z_lt, z_le, z_int, z_intb, z_ixr, z_ixt, z_ixk, z_ixs, z_ixl, z_asQ, z_asQt, z_asQk, z_asQs, z_asQl, z_asL, z_asLl, z_at0, z_at1, z_at2, z_store, z_i20, z_i21, z_eq, z_ne, z_max2, z_min2, z_addt, z_sl, z_trb, z_trt, z_trk, z_trl, z_trs, List.isEmpty_cons, List.isEmpty_nil, Bool.not_true, Bool.not_false, z_len, z_lenl, z_lenk, z_lenr, z_lens, MS.set_set, MS.set_same]
    refine comp_map (fun d => decide (atD d 1 = x)) (fun d => tupOf [atD d 0, atD d 2]) trivial _ _ (fun d hd => ?_) (by simp; omega) ?_
    · obtain ⟨p, q, w, rfl⟩ := sh d hd
      refine ⟨_, rfl, fun Q' hq => ?_, fun _ Q' hq => ?_⟩
      · simp only [dSeq, dIf, dTest, dBin, dVar, dC, dAsg, dStore, dRet, dB, dCons, dNil, dTup, dLst, dLstM, dDrop, dM, dCall, dCallK, dTru, dNotT, dAndT, dOrT, dAndE, dOrE, dNotE, dIfE, dChain, dChain3, dNeg, dFor, dPar, dSlice, dPart, dNoPart, z_fld, dSetF, dRaise, dRz, dNext, dBreak, dCont, dRetN, dYes, dComp, iSeq, iRange1, iRange2, DL.iZip, DL.iEnum, startD, retD, asg, asgs, asT, gMod, gMul, DL.gSub, gGt, gGe, gFdiv, gPow, wipeD, finF, finM, perm,
    List.map_cons, List.map_nil, List.length_cons, List.length_nil, List.replicate, List.cons_append, List.nil_append, List.getElem?_cons_zero, List.getElem?_cons_succ, List.set, List.getD_cons_zero, List.getD_cons_succ, Option.some.injEq, exists_eq_left', exists_eq_left, D.int.injEq, D.bl.injEq, D.ref.injEq, D.str.injEq, List.cons.injEq, and_true, true_and, exists_and_left, exists_and_right, decide_eq_true_eq, Bool.false_eq_true, if_true, if_false, ite_true, ite_false, Nat.zero_add, Nat.reduceAdd, Nat.reduceSub,
    z_gI, z_add, z_lt, z_le, z_int, z_intb, z_ixr, z_ixt, z_ixk, z_ixs, z_ixl, z_asQ, z_asQt, z_asQk, z_asQs, z_asQl, z_asL, z_asLl, z_at0, z_at1, z_at2, z_store, z_i20, z_i21, z_eq, z_ne, z_max2, z_min2, z_addt, z_sl, z_trb, z_trt, z_trk, z_trl, z_trs, List.isEmpty_cons, List.isEmpty_nil, Bool.not_true, Bool.not_false, z_len, z_lenl, z_lenk, z_lenr, z_lens, MS.set_set, MS.set_same]; exact hq
      · simp only [dSeq, dIf, dTest, dBin, dVar, dC, dAsg, dStore, dRet, dB, dCons, dNil, dTup, dLst, dLstM, dDrop, dM, dCall, dCallK, dTru, dNotT, dAndT, dOrT, dAndE, dOrE, dNotE, dIfE, dChain, dChain3, dNeg, dFor, dPar, dSlice, dPart, dNoPart, z_fld, dSetF, dRaise, dRz, dNext, dBreak, dCont, dRetN, dYes, dComp, iSeq, iRange1, iRange2, DL.iZip, DL.iEnum, startD, retD, asg, asgs, asT, gMod, gMul, DL.gSub, gGt, gGe, gFdiv, gPow, wipeD, finF, finM, perm,
    List.map_cons, List.map_nil, List.length_cons, List.length_nil, List.replicate, List.cons_append, List.nil_append, List.getElem?_cons_zero, List.getElem?_cons_succ, List.set, List.getD_cons_zero, List.getD_cons_succ, Option.some.injEq, exists_eq_left', exists_eq_left, D.int.injEq, D.bl.injEq, D.ref.injEq, D.str.injEq, List.cons.injEq, and_true, true_and, exists_and_left, exists_and_right, decide_eq_true_eq, Bool.false_eq_true, if_true, if_false, ite_true, ite_false, Nat.zero_add, Nat.reduceAdd, Nat.reduceSub,
    z_gI, z_add, z_lt, z_le, z_int, z_intb, z_ixr, z_ixt, z_ixk, z_ixs, z_ixl, z_asQ, z_asQt, z_asQk, z_asQs, z_asQl, z_asL, z_asLl, z_at0, z_at1, z_at2, z_store, z_i20, z_i21, z_eq, z_ne, z_max2, z_min2, z_addt, z_sl, z_trb, z_trt, z_trk, z_trl, z_trs, List.isEmpty_cons, List.isEmpty_nil, Bool.not_true, Bool.not_false, z_len, z_lenl, z_lenk, z_lenr, z_lens, MS.set_set, MS.set_same]; exact ⟨by decide, hq⟩
    · rw [comp_roads (P' := fun r => decide (r.getD 1 0 = x)) (f' := fun r => [r.getD 0 0, r.getD 2 0]) (fun r => by rw [atD_tup]) (fun r => by rw [atD_tup, atD_tup]), List.nil_append]
      have a1 := List.length_filter_le (fun r : List Int => decide (r.getD 0 0 = x)) l
      have a2 := List.length_filter_le (fun r : List Int => decide (r.getD 1 0 = x)) l
      refine ⟨_, _, rfl, rfl, by rw [List.length_map, List.length_map, List.length_map, List.length_map, sizeLine_eq]; omega, ?_⟩
      rw [← List.map_append]
      refine ⟨_, _, nbA l x ++ nbB l x, rfl, rfl, tupsI_of _, ?_, fun e he => ?_, fun e pm _ => RetOk.of (k e pm)⟩
      · unfold nbA nbB
        rw [List.length_append, List.length_map, List.length_map]
        omega
      · refine nb_bd h hn (x := x) ?_
        rcases List.mem_append.mp he with z | z
        · exact List.mem_append_right _ z
        · exact List.mem_append_left _ z
end LW

set_option Elab.async false
set_option maxRecDepth 100000
set_option maxHeartbeats 4000000
namespace LW
open PySem PySem.Spec L2 DL
/-- tree_spec, and each length is one of those drawn from -/
theorem tree_specB {G : GEnv} {a : Addr} {M0 : MS} {Q : QD} {R : RK} {many : Int} {ls : List Int} {b m : Int} (hb : 0 ≤ b) (hm : 0 ≤ m) (h1 : 1 ≤ many) (h2 : many ≤ 10) (hls : 0 < ls.length ∧ ls.length < 1000) (hw : ∀ w ∈ ls, 1 ≤ w ∧ w ≤ 100)
    (k : ∀ l b' m', 0 ≤ b' → 0 ≤ m' → RdsS many l → (∀ r ∈ l, r.getD 2 0 ∈ ls) → (l.length : Int) = many - 1 → Q (.tup (l.map tupOf)) (M0.set a (src b' m'))) :
    sp__law_tree_roads G [.ref a, .int many, .lst (ls.map D.int)] (M0.set a (src b m)) Q R := by
  refine ⟨rfl, ?_⟩
  simp only [T__law_tree_roads, dSeq, dIf, dTest, dBin, dVar, dC, dAsg, dStore, dRet, dB, dCons, dNil, dTup, dLst, dLstM, dDrop, dM, dCall, dCallK, dTru, dNotT, dAndT, dOrT, dAndE, dOrE, dNotE, dIfE, dChain, dChain3, dNeg, dFor, dPar, dSlice, dPart, dNoPart, z_fld, dSetF, dRaise, dRz, dNext, dBreak, dCont, dRetN, dYes, dComp, iSeq, iRange1, iRange2, DL.iZip, DL.iEnum, startD, retD, asg, asgs, asT, gMod, gMul, DL.gSub, gGt, gGe, gFdiv, gPow, wipeD, finF, finM, perm,
    List.map_cons, List.map_nil, List.length_cons, List.length_nil, List.replicate, List.cons_append, List.nil_append, List.getElem?_cons_zero, List.getElem?_cons_succ, List.set, List.getD_cons_zero, List.getD_cons_succ, Option.some.injEq, exists_eq_left', exists_eq_left, D.int.injEq, D.bl.injEq, D.ref.injEq, D.str.injEq, List.cons.injEq, and_true, true_and, exists_and_left, exists_and_right, decide_eq_true_eq, Bool.false_eq_true, if_true, if_false, ite_true, ite_false, Nat.zero_add, Nat.reduceAdd, Nat.reduceSub,
    z_gI, z_add, z_lt, z_le, z_int, z_intb, z_ixr, z_ixt, z_ixk, z_ixs, z_ixl, z_asQ, z_asQt, z_asQk, z_asQs, z_asQl, z_asL, z_asLl, z_at0, z_at1, z_at2, z_store, z_i20, z_i21, z_eq, z_ne, z_max2, z_min2, z_addt, z_sl, z_trb, z_trt, z_trk, z_trl, z_trs, List.isEmpty_cons, List.isEmpty_nil, Bool.not_true, Bool.not_false, z_len, z_lenl, z_lenk, z_lenr, z_lens, MS.set_set, MS.set_same]
  refine ⟨by decide, fun p hp => ?_⟩
  obtain ⟨hpa, hp0⟩ := MS.fresh hp
  rw [MS.comm hpa]
  refine ⟨1, many, ⟨rfl, rfl⟩, by omega, ?_⟩
  have bdi : ∀ r, IsRd many r → r.length = 3 ∧ TS.Bd 4294967296 r := fun r h => h.bd (by omega)
  refine for_inv (fun i ρ M => ∃ (l : List (List Int)) (b' m' : Int) (o : Option D), 0 ≤ b' ∧ 0 ≤ m' ∧ ρ = [some (.ref a), some (.int many), some (.lst (ls.map D.int)), some (.ref p), o] ∧ M = (M0.set p (.lst (l.map tupOf))).set a (src b' m') ∧
    l.length = i ∧ (∀ r ∈ l, IsRd many r ∧ (pr r).2 < 1 + (i : Nat) ∧ r.getD 2 0 ∈ ls) ∧ (l.map fun r => (pr r).2).Nodup ∧ ∀ x : Int, 0 < x → x < 1 + (i : Nat) → ∃ p w, [p, x, w] ∈ l ∧ 0 ≤ p ∧ p < x) (fun _ _ _ _ => trivial) ?_ ?_
    ⟨[], b, m, none, hb, hm, rfl, rfl, rfl, fun r hr => (by cases hr), List.Pairwise.nil, fun x h0 h1 => (by omega)⟩
  · rintro i d ρ M hd ⟨l, b', m', o, hb', hm', rfl, rfl, hl, hr, hn, hpar⟩
    obtain ⟨hi, rfl⟩ := rangeD_get hd
    refine ⟨_, rfl, fun K hK => ?_⟩
    try simp only [dSeq, dIf, dTest, dBin, dVar, dC, dAsg, dStore, dRet, dB, dCons, dNil, dTup, dLst, dLstM, dDrop, dM, dCall, dCallK, dTru, dNotT, dAndT, dOrT, dAndE, dOrE, dNotE, dIfE, dChain, dChain3, dNeg, dFor, dPar, dSlice, dPart, dNoPart, z_fld, dSetF, dRaise, dRz, dNext, dBreak, dCont, dRetN, dYes, dComp, iSeq, iRange1, iRange2, DL.iZip, DL.iEnum, startD, retD, asg, asgs, asT, gMod, gMul, DL.gSub, gGt, gGe, gFdiv, gPow, wipeD, finF, finM, perm,
    List.map_cons, List.map_nil, List.length_cons, List.length_nil, List.replicate, List.cons_append, List.nil_append, List.getElem?_cons_zero, List.getElem?_cons_succ, List.set, List.getD_cons_zero, List.getD_cons_succ, Option.some.injEq, exists_eq_left', exists_eq_left, D.int.injEq, D.bl.injEq, D.ref.injEq, D.str.injEq, List.cons.injEq, and_true, true_and, exists_and_left, exists_and_right, decide_eq_true_eq, Bool.false_eq_true, if_true, if_false, ite_true, ite_false, Nat.zero_add, Nat.reduceAdd, Nat.reduceSub,
    z_gI, z_add, z_lt, z_le, z_int, z_intb, z_ixr, z_ixt, z_ixk, z_ixs, z_ixl, z_asQ, z_asQt, z_asQk, z_asQs, z_asQl, z_asL, z_asLl, z_at0, z_at1, z_at2, z_store, z_i20, z_i21, z_eq, z_ne, z_max2, z_min2, z_addt, z_sl, z_trb, z_trt, z_trk, z_trl, z_trs, List.isEmpty_cons, List.isEmpty_nil, Bool.not_true, Bool.not_false, z_len, z_lenl, z_lenk, z_lenr, z_lens, MS.set_set, MS.set_same]
    refine ⟨z_isLU hpa, ?_⟩
    refine take_spec hb' hm' (by omega) (by omega) fun q b2 m2 q0 q1 hb2 hm2 => ?_
    try simp only [dSeq, dIf, dTest, dBin, dVar, dC, dAsg, dStore, dRet, dB, dCons, dNil, dTup, dLst, dLstM, dDrop, dM, dCall, dCallK, dTru, dNotT, dAndT, dOrT, dAndE, dOrE, dNotE, dIfE, dChain, dChain3, dNeg, dFor, dPar, dSlice, dPart, dNoPart, z_fld, dSetF, dRaise, dRz, dNext, dBreak, dCont, dRetN, dYes, dComp, iSeq, iRange1, iRange2, DL.iZip, DL.iEnum, startD, retD, asg, asgs, asT, gMod, gMul, DL.gSub, gGt, gGe, gFdiv, gPow, wipeD, finF, finM, perm,
    List.map_cons, List.map_nil, List.length_cons, List.length_nil, List.replicate, List.cons_append, List.nil_append, List.getElem?_cons_zero, List.getElem?_cons_succ, List.set, List.getD_cons_zero, List.getD_cons_succ, Option.some.injEq, exists_eq_left', exists_eq_left, D.int.injEq, D.bl.injEq, D.ref.injEq, D.str.injEq, List.cons.injEq, and_true, true_and, exists_and_left, exists_and_right, decide_eq_true_eq, Bool.false_eq_true, if_true, if_false, ite_true, ite_false, Nat.zero_add, Nat.reduceAdd, Nat.reduceSub,
    z_gI, z_add, z_lt, z_le, z_int, z_intb, z_ixr, z_ixt, z_ixk, z_ixs, z_ixl, z_asQ, z_asQt, z_asQk, z_asQs, z_asQl, z_asL, z_asLl, z_at0, z_at1, z_at2, z_store, z_i20, z_i21, z_eq, z_ne, z_max2, z_min2, z_addt, z_sl, z_trb, z_trt, z_trk, z_trl, z_trs, List.isEmpty_cons, List.isEmpty_nil, Bool.not_true, Bool.not_false, z_len, z_lenl, z_lenk, z_lenr, z_lens, MS.set_set, MS.set_same]
    refine one_spec (l := ls.map D.int) hb2 hm2 (.inr (.inl rfl)) (by simpa using hls.1) (by simp; omega) fun e he b3 m3 hb3 hm3 => ?_
    obtain ⟨w, hw', rfl⟩ := List.mem_map.mp he
    try simp only [dSeq, dIf, dTest, dBin, dVar, dC, dAsg, dStore, dRet, dB, dCons, dNil, dTup, dLst, dLstM, dDrop, dM, dCall, dCallK, dTru, dNotT, dAndT, dOrT, dAndE, dOrE, dNotE, dIfE, dChain, dChain3, dNeg, dFor, dPar, dSlice, dPart, dNoPart, z_fld, dSetF, dRaise, dRz, dNext, dBreak, dCont, dRetN, dYes, dComp, iSeq, iRange1, iRange2, DL.iZip, DL.iEnum, startD, retD, asg, asgs, asT, gMod, gMul, DL.gSub, gGt, gGe, gFdiv, gPow, wipeD, finF, finM, perm,
    List.map_cons, List.map_nil, List.length_cons, List.length_nil, List.replicate, List.cons_append, List.nil_append, List.getElem?_cons_zero, List.getElem?_cons_succ, List.set, List.getD_cons_zero, List.getD_cons_succ, Option.some.injEq, exists_eq_left', exists_eq_left, D.int.injEq, D.bl.injEq, D.ref.injEq, D.str.injEq, List.cons.injEq, and_true, true_and, exists_and_left, exists_and_right, decide_eq_true_eq, Bool.false_eq_true, if_true, if_false, ite_true, ite_false, Nat.zero_add, Nat.reduceAdd, Nat.reduceSub,
    z_gI, z_add, z_lt, z_le, z_int, z_intb, z_ixr, z_ixt, z_ixk, z_ixs, z_ixl, z_asQ, z_asQt, z_asQk, z_asQs, z_asQl, z_asL, z_asLl, z_at0, z_at1, z_at2, z_store, z_i20, z_i21, z_eq, z_ne, z_max2, z_min2, z_addt, z_sl, z_trb, z_trt, z_trk, z_trl, z_trs, List.isEmpty_cons, List.isEmpty_nil, Bool.not_true, Bool.not_false, z_len, z_lenl, z_lenk, z_lenr, z_lens, MS.set_set, MS.set_same]
    refine ⟨by decide, ?_⟩
    rw [z_appU hpa]
    refine ⟨by simp [hl]; have : sizeLine = 16777216 := sizeLine_eq; omega, ?_⟩
    refine hK _ _ ⟨l ++ [[q, 1 + (i : Nat), w]], b3, m3, _, hb3, hm3, rfl, by simp [tupOf], by simp [hl], fun r hr' => ?_, ?_, fun x x0 x1 => ?_⟩
    · rcases List.mem_append.mp hr' with z | z
      · obtain ⟨z1, z2, z3⟩ := hr r z
        exact ⟨z1, by omega, z3⟩
      · rw [List.mem_singleton.mp z]
        obtain ⟨w1, w2⟩ := hw w hw'
        exact ⟨⟨q, 1 + (i : Nat), w, rfl, q0, q1, by omega, w1, w2⟩, by show (1 + (i : Nat) : Int) < _; omega, hw'⟩
    · rw [List.map_append, List.nodup_append]
      refine ⟨hn, by simp, fun u hu v hv e => ?_⟩
      obtain ⟨r, hr1, rfl⟩ := List.mem_map.mp hu
      have hv' : v = (pr [q, 1 + (i : Nat), w]).2 := by simpa using hv
      have z := (hr r hr1).2.1
      have e' : (pr r).2 = v := e
      rw [e', hv'] at z
      exact absurd z (Int.lt_irrefl _)
    · by_cases hx : x < 1 + (i : Nat)
      · obtain ⟨p', w', z1, z2⟩ := hpar x x0 hx
        exact ⟨p', w', List.mem_append_left _ z1, z2⟩
      · have e : x = 1 + (i : Nat) := by omega
        subst e
        exact ⟨q, w, List.mem_append_right _ (List.mem_singleton.mpr rfl), q0, q1⟩
  · rintro ρ M ⟨l, b', m', o, hb', hm', rfl, rfl, hl, hr, hn, hpar⟩
    rw [rangeD_len] at hl hpar
    try simp only [dSeq, dIf, dTest, dBin, dVar, dC, dAsg, dStore, dRet, dB, dCons, dNil, dTup, dLst, dLstM, dDrop, dM, dCall, dCallK, dTru, dNotT, dAndT, dOrT, dAndE, dOrE, dNotE, dIfE, dChain, dChain3, dNeg, dFor, dPar, dSlice, dPart, dNoPart, z_fld, dSetF, dRaise, dRz, dNext, dBreak, dCont, dRetN, dYes, dComp, iSeq, iRange1, iRange2, DL.iZip, DL.iEnum, startD, retD, asg, asgs, asT, gMod, gMul, DL.gSub, gGt, gGe, gFdiv, gPow, wipeD, finF, finM, perm,
    List.map_cons, List.map_nil, List.length_cons, List.length_nil, List.replicate, List.cons_append, List.nil_append, List.getElem?_cons_zero, List.getElem?_cons_succ, List.set, List.getD_cons_zero, List.getD_cons_succ, Option.some.injEq, exists_eq_left', exists_eq_left, D.int.injEq, D.bl.injEq, D.ref.injEq, D.str.injEq, List.cons.injEq, and_true, true_and, exists_and_left, exists_and_right, decide_eq_true_eq, Bool.false_eq_true, if_true, if_false, ite_true, ite_false, Nat.zero_add, Nat.reduceAdd, Nat.reduceSub,
    z_gI, z_add, z_lt, z_le, z_int, z_intb, z_ixr, z_ixt, z_ixk, z_ixs, z_ixl, z_asQ, z_asQt, z_asQk, z_asQs, z_asQl, z_asL, z_asLl, z_at0, z_at1, z_at2, z_store, z_i20, z_i21, z_eq, z_ne, z_max2, z_min2, z_addt, z_sl, z_trb, z_trt, z_trk, z_trl, z_trs, List.isEmpty_cons, List.isEmpty_nil, Bool.not_true, Bool.not_false, z_len, z_lenl, z_lenk, z_lenr, z_lens, MS.set_set, MS.set_same]
    refine ⟨.ref p, l.map tupOf, l, rfl, asLU hpa, tupsI_of l, by omega, fun r hr' => bdi r (hr r hr').1, fun l' pm pw => ?_⟩
    refine ⟨.lst (l'.map tupOf), rfl, .inr ⟨_, rfl, ?_⟩⟩
    have hn' : (l.map pr).Nodup := List.pairwise_map.mpr ((List.pairwise_map.mp hn).imp fun h e => h (by rw [e]))
    have R0 : Rds many l := ⟨fun r hr' => (hr r hr').1, hn', fun x x0 x1 => hpar x x0 (by omega)⟩
    exact RetOk.drop hp0 hpa (k l' b' m' hb' hm' (R0.sorted (by omega) pm pw) (fun r hr' => (hr r (pm.mem_iff.mp hr')).2.2) (by rw [pm.length_eq]; omega))
/-- a land that is a tree -/
theorem land_specT {G : GEnv} {a : Addr} {M0 : MS} {Q : QD} {R : RK} {ms ls : List Int} {b m : Int} (hb : 0 ≤ b) (hm : 0 ≤ m) (hms : 0 < ms.length ∧ ms.length < 1000) (hmw : ∀ w ∈ ms, 1 ≤ w ∧ w ≤ 10) (hls : 0 < ls.length ∧ ls.length < 1000) (hw : ∀ w ∈ ls, 1 ≤ w ∧ w ≤ 100)
    (k : ∀ n roads ws b' m', 0 ≤ b' → 0 ≤ m' → LandOk n roads ws → n ∈ ms → (roads.length : Int) = n - 1 → (∀ r ∈ roads, r.getD 2 0 ∈ ls) → Q (landD roads ws) (M0.set a (src b' m'))) :
    sp__law_land G [.ref a, .lst (ms.map D.int), .lst (ls.map D.int)] (M0.set a (src b m)) Q R := by
  refine ⟨rfl, ?_⟩
  simp only [T__law_land, dSeq, dIf, dTest, dBin, dVar, dC, dAsg, dStore, dRet, dB, dCons, dNil, dTup, dLst, dLstM, dDrop, dM, dCall, dCallK, dTru, dNotT, dAndT, dOrT, dAndE, dOrE, dNotE, dIfE, dChain, dChain3, dNeg, dFor, dPar, dSlice, dPart, dNoPart, z_fld, dSetF, dRaise, dRz, dNext, dBreak, dCont, dRetN, dYes, dComp, iSeq, iRange1, iRange2, DL.iZip, DL.iEnum, startD, retD, asg, asgs, asT, gMod, gMul, DL.gSub, gGt, gGe, gFdiv, gPow, wipeD, finF, finM, perm,
    List.map_cons, List.map_nil, List.length_cons, List.length_nil, List.replicate, List.cons_append, List.nil_append, List.getElem?_cons_zero, List.getElem?_cons_succ, List.set, List.getD_cons_zero, List.getD_cons_succ, Option.some.injEq, exists_eq_left', exists_eq_left, D.int.injEq, D.bl.injEq, D.ref.injEq, D.str.injEq, List.cons.injEq, and_true, true_and, exists_and_left, exists_and_right, decide_eq_true_eq, Bool.false_eq_true, if_true, if_false, ite_true, ite_false, Nat.zero_add, Nat.reduceAdd, Nat.reduceSub,
    z_gI, z_add, z_lt, z_le, z_int, z_intb, z_ixr, z_ixt, z_ixk, z_ixs, z_ixl, z_asQ, z_asQt, z_asQk, z_asQs, z_asQl, z_asL, z_asLl, z_at0, z_at1, z_at2, z_store, z_i20, z_i21, z_eq, z_ne, z_max2, z_min2, z_addt, z_sl, z_trb, z_trt, z_trk, z_trl, z_trs, List.isEmpty_cons, List.isEmpty_nil, Bool.not_true, Bool.not_false, z_len, z_lenl, z_lenk, z_lenr, z_lens, MS.set_set, MS.set_same]
  refine one_spec (l := ms.map D.int) hb hm (.inr (.inl rfl)) (by simpa using hms.1) (by simp; omega) fun e he b1 m1 hb1 hm1 => ?_
  obtain ⟨n, hn, rfl⟩ := List.mem_map.mp he
  obtain ⟨n1, n2⟩ := hmw n hn
  refine tree_specB hb1 hm1 n1 n2 hls hw fun l b2 m2 hb2 hm2 hl hq hlen => ?_
  refine ⟨n, rfl, by omega, by omega, ?_⟩
  refine comp_inv (fun i acc M => ∃ (ws : List Lamp) (b' m' : Int), 0 ≤ b' ∧ 0 ≤ m' ∧ acc = ws.map lampD ∧ M = M0.set a (src b' m') ∧ ws.length = i ∧ ∀ w ∈ ws, LampOk w) (fun _ _ _ _ => trivial) ?_ ?_ ⟨[], b2, m2, hb2, hm2, rfl, rfl, rfl, fun w hw => (by cases hw)⟩
  · rintro i d acc M hd ⟨ws, b', m', hb', hm', rfl, rfl, hl1, hl2⟩
    obtain ⟨hi, rfl⟩ := rangeD_get hd
    refine ⟨_, rfl, fun K hK => ?_⟩
    simp only [dSeq, dIf, dTest, dBin, dVar, dC, dAsg, dStore, dRet, dB, dCons, dNil, dTup, dLst, dLstM, dDrop, dM, dCall, dCallK, dTru, dNotT, dAndT, dOrT, dAndE, dOrE, dNotE, dIfE, dChain, dChain3, dNeg, dFor, dPar, dSlice, dPart, dNoPart, z_fld, dSetF, dRaise, dRz, dNext, dBreak, dCont, dRetN, dYes, dComp, iSeq, iRange1, iRange2, DL.iZip, DL.iEnum, startD, retD, asg, asgs, asT, gMod, gMul, DL.gSub, gGt, gGe, gFdiv, gPow, wipeD, finF, finM, perm,
    List.map_cons, List.map_nil, List.length_cons, List.length_nil, List.replicate, List.cons_append, List.nil_append, List.getElem?_cons_zero, List.getElem?_cons_succ, List.set, List.getD_cons_zero, List.getD_cons_succ, Option.some.injEq, exists_eq_left', exists_eq_left, D.int.injEq, D.bl.injEq, D.ref.injEq, D.str.injEq, List.cons.injEq, and_true, true_and, exists_and_left, exists_and_right, decide_eq_true_eq, Bool.false_eq_true, if_true, if_false, ite_true, ite_false, Nat.zero_add, Nat.reduceAdd, Nat.reduceSub,
    z_gI, z_add, z_lt, z_le, z_int, z_intb, z_ixr, z_ixt, z_ixk, z_ixs, z_ixl, z_asQ, z_asQt, z_asQk, z_asQs, z_asQl, z_asL, z_asLl, z_at0, z_at1, z_at2, z_store, z_i20, z_i21, z_eq, z_ne, z_max2, z_min2, z_addt, z_sl, z_trb, z_trt, z_trk, z_trl, z_trs, List.isEmpty_cons, List.isEmpty_nil, Bool.not_true, Bool.not_false, z_len, z_lenl, z_lenk, z_lenr, z_lens, MS.set_set, MS.set_same]
    refine ⟨by decide, ?_⟩
    refine web_spec (ms := [2, 1, 2, 3]) hb' hm' (by decide) (by decide) hls hw fun many hmany l2 b3 m3 hb3 hm3 hl3 hl4 => ?_
    refine ⟨by rw [sizeLine_eq]; simp; omega, hK _ _ ⟨ws ++ [(many, l2)], b3, m3, hb3, hm3, by simp [lampD], rfl, by simp [hl1], fun w hw => ?_⟩⟩
    rcases List.mem_append.mp hw with z | z
    · exact hl2 w z
    · rw [List.mem_singleton.mp z]
      have : 1 ≤ many ∧ many ≤ 6 := by
        simp only [List.mem_cons, List.not_mem_nil, or_false] at hmany
        omega
      exact ⟨this.1, this.2, hl3, hl4⟩
  · rintro acc M ⟨ws, b', m', hb', hm', rfl, rfl, hl1, hl2⟩
    rw [rangeD_len] at hl1
    refine ⟨_, rfl, .inr ⟨_, rfl, by decide, RetOk.of (k n l ws b' m' hb' hm' ⟨n1, n2, hl, by omega, by omega, hl2⟩ hn hlen hq)⟩⟩
end LW

set_option Elab.async false
set_option maxRecDepth 100000
set_option maxHeartbeats 4000000
namespace DL
/-! walks: who lies beside whom, walked back, joined -/
theorem nb_iff {l : List (List Int)} {n u v w : Int} (h : ∀ r ∈ l, IsRd n r) : [v, w] ∈ nb l u ↔ [v, u, w] ∈ l ∨ [u, v, w] ∈ l := by
  unfold nb nbA nbB
  rw [List.mem_append, List.mem_map, List.mem_map]
  constructor
  · rintro (⟨r, hr, e⟩ | ⟨r, hr, e⟩)
    · obtain ⟨h1, h2⟩ := List.mem_filter.mp hr
      obtain ⟨p, q, w', rfl, _⟩ := h r h1
      have h2' : q = u := by simpa using h2
      have e' : p = v ∧ w' = w := by simpa using e
      rw [h2', e'.1, e'.2] at h1
      exact .inl h1
    · obtain ⟨h1, h2⟩ := List.mem_filter.mp hr
      obtain ⟨p, q, w', rfl, _⟩ := h r h1
      have h2' : p = u := by simpa using h2
      have e' : q = v ∧ w' = w := by simpa using e
      rw [h2', e'.1, e'.2] at h1
      exact .inr h1
  · rintro (h1 | h1)
    · exact .inl ⟨_, List.mem_filter.mpr ⟨h1, by simp⟩, rfl⟩
    · exact .inr ⟨_, List.mem_filter.mpr ⟨h1, by simp⟩, rfl⟩
theorem nb_sym {l : List (List Int)} {n u v w : Int} (h : ∀ r ∈ l, IsRd n r) (e : [v, w] ∈ nb l u) : [u, w] ∈ nb l v := by
  rw [nb_iff h] at e ⊢
  exact e.symm
theorem Wk.cast {l : List (List Int)} {x y L L' : Int} (h : Wk l x y L) (e : L = L') : Wk l x y L' := e ▸ h
theorem Wk.trans {l : List (List Int)} {x y z L L' : Int} (h : Wk l x y L) (h' : Wk l y z L') : Wk l x z (L + L') := by
  induction h' with
  | nil => exact h.cast (by omega)
  | step _ hn ih => exact (Wk.step ih hn).cast (by omega)
theorem Wk.sym {l : List (List Int)} {n x y L : Int} (hr : ∀ r ∈ l, IsRd n r) (h : Wk l x y L) : Wk l y x L := by
  induction h with
  | nil => exact .nil
  | step _ hn ih => exact ((Wk.step .nil (nb_sym hr hn)).trans ih).cast (by omega)
theorem Conn.sym {l : List (List Int)} {n x y : Int} (hr : ∀ r ∈ l, IsRd n r) : Conn l x y → Conn l y x := fun ⟨L, h⟩ => ⟨L, h.sym hr⟩
theorem Conn.trans {l : List (List Int)} {x y z : Int} : Conn l x y → Conn l y z → Conn l x z := fun ⟨_, h⟩ ⟨_, h'⟩ => ⟨_, h.trans h'⟩
theorem Conn.refl {l : List (List Int)} {x : Int} : Conn l x x := ⟨0, .nil⟩
theorem Conn.road {l : List (List Int)} {n p q w : Int} (hr : ∀ r ∈ l, IsRd n r) (h : [p, q, w] ∈ l) : Conn l p q := ⟨_, .step .nil ((nb_iff hr).mpr (.inr h))⟩
/-- all places come of the first one -/
theorem conn0 {l : List (List Int)} {n : Int} (hr : ∀ r ∈ l, IsRd n r) (h : Par n l) : ∀ x : Nat, (x : Int) < n → Conn l 0 x := by
  intro x
  induction x using Nat.strongRecOn with
  | _ x ih =>
    intro hx
    by_cases h0 : x = 0
    · subst h0; exact .refl
    · obtain ⟨p, w, hm, p0, p1⟩ := h x (by omega) hx
      obtain ⟨p', rfl⟩ := Int.eq_ofNat_of_zero_le p0
      exact (ih p' (by omega) (by omega)).trans (.road hr hm)
theorem conn_all {l : List (List Int)} {n x y : Int} (hr : ∀ r ∈ l, IsRd n r) (h : Par n l) (hx : 0 ≤ x ∧ x < n) (hy : 0 ≤ y ∧ y < n) : Conn l x y := by
  obtain ⟨x', rfl⟩ := Int.eq_ofNat_of_zero_le hx.1
  obtain ⟨y', rfl⟩ := Int.eq_ofNat_of_zero_le hy.1
  exact ((conn0 hr h x' hx.2).sym hr).trans (conn0 hr h y' hy.2)
/-- what is connected depends on the pairs alone -/
theorem conn_pr {l l' : List (List Int)} {n n' x y : Int} (hr : ∀ r ∈ l, IsRd n r) (hr' : ∀ r ∈ l', IsRd n' r) (e : ∀ z, z ∈ l.map pr → z ∈ l'.map pr) (h : Conn l x y) : Conn l' x y := by
  obtain ⟨L, h⟩ := h
  have key : ∀ p q w, [p, q, w] ∈ l → ∃ w', [p, q, w'] ∈ l' := fun p q w hm => by
    obtain ⟨r, hr1, hr2⟩ := List.mem_map.mp (e _ (List.mem_map_of_mem hm))
    obtain ⟨p', q', w', rfl, _⟩ := hr' r hr1
    have e1 : p' = p ∧ q' = q := by simpa [pr] using hr2
    rw [e1.1, e1.2] at hr1
    exact ⟨w', hr1⟩
  induction h with
  | nil => exact .refl
  | step _ hn ih =>
    rcases (nb_iff hr).mp hn with z | z
    · obtain ⟨w', z'⟩ := key _ _ _ z
      exact ih.trans ((Conn.road hr' z').sym hr')
    · obtain ⟨w', z'⟩ := key _ _ _ z
      exact ih.trans (.road hr' z')
theorem cut_pr {l l' : List (List Int)} (e : l.map pr = l'.map pr) (j : Nat) : (cutR l j).map pr = (cutR l' j).map pr := by
  unfold cutR
  rw [List.map_append, List.map_append, List.map_take, List.map_take, List.map_drop, List.map_drop, e]
/-! the least length -/
def IsLeast (l : List (List Int)) (x y d : Int) : Prop := Wk l x y d ∧ ∀ L, Wk l x y L → d ≤ L
open Classical in
noncomputable def dist (l : List (List Int)) (x y : Int) : Int := if h : ∃ d, IsLeast l x y d then h.choose else 0
theorem IsLeast.eq {l : List (List Int)} {x y d : Int} (h : IsLeast l x y d) : dist l x y = d := by
  have hx : ∃ d, IsLeast l x y d := ⟨d, h⟩
  unfold dist
  rw [dif_pos hx]
  have := hx.choose_spec
  have a := this.2 d h.1
  have b := h.2 _ this.1
  omega
/-! one road made longer -/
def lenR (l : List (List Int)) (j : Nat) (c : Int) : List (List Int) := l.take j ++ [[(l.getD j []).getD 0 0, (l.getD j []).getD 1 0, (l.getD j []).getD 2 0 + c]] ++ l.drop (j + 1)
theorem split_at {α : Type} {l : List α} {j : Nat} {d : α} (h : j < l.length) : l = l.take j ++ [l.getD j d] ++ l.drop (j + 1) := by
  rw [List.getD_eq_getElem?_getD, List.getElem?_eq_getElem h]
  simp
theorem lenR_pr {l : List (List Int)} {j : Nat} {c : Int} (h : j < l.length) : (lenR l j c).map pr = l.map pr := by
  conv => rhs; rw [split_at (d := []) h]
  unfold lenR
  simp only [List.map_append]
  rfl
theorem lenR_length {l : List (List Int)} {j : Nat} {c : Int} (h : j < l.length) : (lenR l j c).length = l.length := by
  have := congrArg List.length (lenR_pr (c := c) h)
  simpa using this
theorem lenR_mem {l : List (List Int)} {j : Nat} {c : Int} {r : List Int} (h : r ∈ lenR l j c) : r ∈ l ∨ r = [(l.getD j []).getD 0 0, (l.getD j []).getD 1 0, (l.getD j []).getD 2 0 + c] := by
  unfold lenR at h
  rcases List.mem_append.mp h with z | z
  · rcases List.mem_append.mp z with z | z
    · exact .inl (List.mem_of_mem_take z)
    · exact .inr (List.mem_singleton.mp z)
  · exact .inl (List.mem_of_mem_drop z)
theorem getD_mem {l : List (List Int)} {j : Nat} (h : j < l.length) : l.getD j [] ∈ l := by
  rw [List.getD_eq_getElem?_getD, List.getElem?_eq_getElem h]
  exact List.getElem_mem h
theorem asc_pr {l l' : List (List Int)} (e : l'.map pr = l.map pr) (h : l.Pairwise PrLt) : l'.Pairwise PrLt := by
  have a : (l.map pr).Pairwise fun a b => a.1 < b.1 ∨ (a.1 = b.1 ∧ a.2 < b.2) := List.pairwise_map.mpr h
  rw [← e] at a
  exact (List.pairwise_map (f := pr)).mp a
theorem lenR_ok {l : List (List Int)} {n : Int} {j : Nat} {c : Int} (h : RdsS n l) (hj : j < l.length) (h0 : 0 ≤ c) (h1 : (l.getD j []).getD 2 0 + c ≤ 100) : RdsS n (lenR l j c) := by
  have rd : ∀ r ∈ lenR l j c, IsRd n r := fun r hr => by
    rcases lenR_mem hr with z | z
    · exact h.rd r z
    · obtain ⟨p, q, w, e, a1, a2, a3, a4, a5⟩ := h.rd _ (getD_mem hj)
      rw [e] at z h1
      exact ⟨p, q, w + c, z, a1, a2, a3, by omega, by simpa using h1⟩
  refine ⟨⟨rd, by rw [lenR_pr hj]; exact h.nd, fun x x0 x1 => ?_⟩, asc_pr (lenR_pr hj) h.asc⟩
  obtain ⟨p, w, hm, p0, p1⟩ := h.par x x0 x1
  have z : (p, x) ∈ (lenR l j c).map pr := by rw [lenR_pr hj]; exact List.mem_map.mpr ⟨_, hm, rfl⟩
  obtain ⟨r, hr, e⟩ := List.mem_map.mp z
  obtain ⟨p', q', w', rfl, _⟩ := rd r hr
  have e1 : p' = p ∧ q' = x := by simpa [pr] using e
  rw [e1.1, e1.2] at hr
  exact ⟨p, w', hr, p0, p1⟩
/-- what the roads cost, with these numbers of crossings -/
def roadS (cs : List Int) (l : List (List Int)) : Int := ((cs.zip l).map fun z => z.1 * z.2.getD 2 0).sum
theorem roadS_len {cs : List Int} {l : List (List Int)} {j : Nat} {c : Int} (hc : cs.length = l.length) (hj : j < l.length) : roadS cs (lenR l j c) = roadS cs l + c * cs.getD j 0 := by
  have e1 : cs = cs.take j ++ [cs.getD j 0] ++ cs.drop (j + 1) := split_at (by omega)
  have e2 : l = l.take j ++ [l.getD j []] ++ l.drop (j + 1) := split_at hj
  have key : ∀ z : List Int, roadS cs (l.take j ++ [z] ++ l.drop (j + 1)) = (((cs.take j).zip (l.take j)).map fun z => z.1 * z.2.getD 2 0).sum + cs.getD j 0 * z.getD 2 0 + (((cs.drop (j + 1)).zip (l.drop (j + 1))).map fun z => z.1 * z.2.getD 2 0).sum := fun z => by
    unfold roadS
    conv => lhs; rw [e1]
    have hl : (cs.take j).length = (l.take j).length := by rw [List.length_take, List.length_take, hc]
    have hl2 : (cs.take j ++ [cs.getD j 0]).length = (l.take j ++ [z]).length := by rw [List.length_append, List.length_append, hl]; rfl
    rw [List.zip_append hl2, List.zip_append hl, List.map_append, List.map_append, List.sum_append, List.sum_append]
    simp
  have k1 := key (l.getD j [])
  rw [← e2] at k1
  have k2 := key [(l.getD j []).getD 0 0, (l.getD j []).getD 1 0, (l.getD j []).getD 2 0 + c]
  show roadS cs (l.take j ++ [[(l.getD j []).getD 0 0, (l.getD j []).getD 1 0, (l.getD j []).getD 2 0 + c]] ++ l.drop (j + 1)) = _
  rw [k2, k1]
  have e3 : ([(l.getD j []).getD 0 0, (l.getD j []).getD 1 0, (l.getD j []).getD 2 0 + c] : List Int).getD 2 0 = (l.getD j []).getD 2 0 + c := rfl
  rw [e3, Int.mul_add, Int.mul_comm c]
  omega
end DL

set_option Elab.async false
set_option maxRecDepth 100000
set_option maxHeartbeats 4000000
namespace DL
open PySem PySem.Spec L2
theorem dget_mem : ∀ {ps : List (Int × Int)} {v d : Int}, (ps.map (·.1)).Nodup → (v, d) ∈ ps → dGet (ik (ps.map (·.1))) (ps.map fun z => D.int z.2) (Sum.inl v) = some (D.int d)
  | (u, e) :: ps, v, d, hn, hm => by
    show (if (Sum.inl u : Key) = Sum.inl v then some (D.int e) else dGet (ik (ps.map (·.1))) (ps.map fun z => D.int z.2) (Sum.inl v)) = _
    have hn' := List.nodup_cons.mp hn
    rcases List.mem_cons.mp hm with z | z
    · injection z with z1 z2
      rw [if_pos (by rw [z1]), z2]
    · have hv : v ∈ ps.map (·.1) := List.mem_map.mpr ⟨_, z, rfl⟩
      rw [if_neg (fun q => hn'.1 (by have := Sum.inl.inj q; show u ∈ _; rw [this]; exact hv))]
      exact dget_mem hn'.2 z
theorem ix_dict {M : MS} {fs : List Int} {ds : List D} {q : Int} {d : D} {Q : QD} (e : dGet (ik fs) ds (Sum.inl q) = some d) (k : Q d M) : gIx (.dk (ik fs) ds) (.int q) M Q := .inr ⟨d, e ▸ DLook.k rfl rfl, k⟩
theorem fl_wr {G : GEnv} {M : MS} {Q : QD} {w : Lamp} (F : GF G) (q : Q (rdsD w.2) M) : FL G.isCls "roads" M (webV G w) Q := ⟨_, _, _, rdsD w.2, rfl, F.cw, (if_neg ne_mr).trans (if_pos rfl), q⟩
/-- the least lengths of all lamps -/
noncomputable def lampS : List Lamp → List Int → List Int → List Int
  | w :: ws, p :: ps, q :: qs => dist w.2 p q :: lampS ws ps qs
  | _, _, _ => []
theorem lampS_get : ∀ {ws : List Lamp} {ps qs : List Int} {i : Nat} {w : Lamp} {p q : Int}, ws[i]? = some w → ps[i]? = some p → qs[i]? = some q → (lampS ws ps qs)[i]? = some (dist w.2 p q)
  | [], _, _, _, _, _, _, h, _, _ => by simp at h
  | _ :: _, [], _, _, _, _, _, _, h, _ => by simp at h
  | _ :: _, _ :: _, [], _, _, _, _, _, _, h => by simp at h
  | w :: ws, p :: ps, q :: qs, 0, _, _, _, h1, h2, h3 => by simp at h1 h2 h3; subst h1 h2 h3; rfl
  | w :: ws, p :: ps, q :: qs, i + 1, _, _, _, h1, h2, h3 => by
    have := lampS_get (ws := ws) (ps := ps) (qs := qs) (i := i) (by simpa using h1) (by simpa using h2) (by simpa using h3)
    simpa [lampS] using this
theorem lampS_len : ∀ {ws : List Lamp} {ps qs : List Int}, (lampS ws ps qs).length ≤ ws.length
  | [], _, _ => by simp [lampS]
  | _ :: _, [], _ => by simp [lampS]
  | _ :: _, _ :: _, [] => by simp [lampS]
  | w :: ws, p :: ps, q :: qs => by have := lampS_len (ws := ws) (ps := ps) (qs := qs); simp only [lampS, List.length_cons]; omega
theorem zip3_get {G : GEnv} : ∀ {ws : List Lamp} {ps qs : List Int} {i : Nat} {d : D}, (zip3D (ws.map (webV G)) (ps.map D.int) (qs.map D.int))[i]? = some d → ∃ w p q, ws[i]? = some w ∧ ps[i]? = some p ∧ qs[i]? = some q ∧ d = .tup [webV G w, .int p, .int q]
  | [], _, _, _, _, h => by simp [zip3D] at h
  | _ :: _, [], _, _, _, h => by simp [zip3D] at h
  | _ :: _, _ :: _, [], _, _, h => by simp [zip3D] at h
  | w :: ws, p :: ps, q :: qs, 0, d, h => by
    simp [zip3D] at h
    exact ⟨w, p, q, rfl, rfl, rfl, h.symm⟩
  | w :: ws, p :: ps, q :: qs, i + 1, d, h => by
    obtain ⟨w', p', q', h1, h2, h3, h4⟩ := zip3_get (ws := ws) (ps := ps) (qs := qs) (i := i) (d := d) (by simpa [zip3D] using h)
    exact ⟨w', p', q', by simpa using h1, by simpa using h2, by simpa using h3, h4⟩
theorem zipR_get : ∀ {cs : List Int} {rs : List (List Int)} {i : Nat} {d : D}, (zipD (cs.map D.int) (rs.map tupOf))[i]? = some d → ∃ c r, (cs.zip rs)[i]? = some (c, r) ∧ rs[i]? = some r ∧ cs[i]? = some c ∧ d = .tup [.int c, tupOf r]
  | [], _, _, _, h => by simp [zipD] at h
  | _ :: _, [], _, _, h => by simp [zipD] at h
  | c :: cs, r :: rs, 0, d, h => by
    simp [zipD] at h
    exact ⟨c, r, rfl, rfl, rfl, h.symm⟩
  | c :: cs, r :: rs, i + 1, d, h => by
    obtain ⟨c', r', h1, h2, h3, h4⟩ := zipR_get (cs := cs) (rs := rs) (i := i) (d := d) (by simpa [zipD] using h)
    exact ⟨c', r', by simpa using h1, by simpa using h2, by simpa using h3, h4⟩
end DL
namespace LW
open PySem PySem.Spec L2 DL
variable {G : GEnv} {M : MS} {Q : QD} {R : RK}
theorem due_row {n : Int} {ws : List Lamp} {pl : Int} {row : List Int} (hn : (ws.length : Int) = n) (hp : 0 ≤ pl ∧ pl < n) (h : RowOk ws row) : due n ws pl row = none := by
  unfold due
  rw [if_pos hp, if_pos (by rw [h.1]; exact hn)]
  have e : badAt ws row = none := by
    unfold badAt
    refine List.find?_eq_none.mpr fun i hi => ?_
    have hi' := List.mem_range.mp hi
    have hw : i < ws.length := by have := h.1; omega
    have z := h.2 i row[i] ws[i] (List.getElem?_eq_getElem hi') (List.getElem?_eq_getElem hw)
    rw [lamp_len (List.getElem?_eq_getElem hw) (List.getElem?_eq_getElem hi'), decide_eq_true z]
    decide
  rw [e]
  rfl
theorem crossV_lt {far : Int → Prop} {e : Int} {ps : List Int} : 0 ≤ crossV far e ps ∧ crossV far e ps ≤ 2 := by
  unfold crossV
  split
  · decide
  · split <;> decide
/-- the price, on a tree -/
noncomputable def priceT (n : Int) (rs : List (List Int)) (ws : List Lamp) (pa : Int) (ra : List Int) (pb : Int) (rb : List Int) : Int := (lampS ws ra rb).sum + roadS (crossL n rs pa ra pb rb) rs
end LW

set_option Elab.async false
set_option maxRecDepth 100000
set_option maxHeartbeats 4000000
namespace DL
open PySem PySem.Spec L2
theorem cutI_to {l : List Int} {j : Nat} (h : j ≤ l.length) : cutD (l.map D.int) none (some (j : Int)) = (l.take j).map D.int := cut_to h
theorem cutI_from {l : List Int} {j : Nat} (h : j + 1 ≤ l.length) : cutD (l.map D.int) (some ((j : Int) + 1)) none = (l.drop (j + 1)).map D.int := cut_from (j := j + 1) h
theorem toPM_ints {M : MS} {l : List Int} : toPM M (.tup (l.map D.int)) = some (.tuple (l.map PyData.int)) := by
  simp only [toPM, toP, toPs_ints, Option.map_some]
theorem shaped_ints (l : List Int) : SeqAt.shaped (.tuple (l.map PyData.int)) = true := by
  simp only [SeqAt.shaped, PyData.canLay0, lay_ints, PyData.depth, dep_ints, Bool.true_and]
  decide
theorem ne_ints {M : MS} {Q : QD} {l : List Int} (k : Q (.bl false) M) : gNe (.tup (l.map D.int)) (.tup (l.map D.int)) M Q :=
  ⟨_, _, toPM_ints, toPM_ints, shaped_ints l, shaped_ints l, by rw [SeqAt.eqv_refl _ (SeqAt.canLay_of_shaped (shaped_ints l))]; exact k⟩
end DL
namespace LW
open PySem PySem.Spec L2 DL
variable {G : GEnv} {M : MS} {Q : QD} {R : RK}
theorem row_set {ws : List Lamp} {row : List Int} {j : Nat} {q : Int} {w : Lamp} (h : RowOk ws row) (hw : ws[j]? = some w) (h0 : 0 ≤ q ∧ q < w.1) : RowOk ws (row.take j ++ [q] ++ row.drop (j + 1)) := by
  have hj : j < ws.length := (List.getElem?_eq_some_iff.mp hw).1
  have e : row.take j ++ [q] ++ row.drop (j + 1) = row.set j q := by
    rw [List.set_eq_take_append_cons_drop, if_pos (by rw [h.1]; exact hj)]
    simp
  rw [e]
  refine ⟨by rw [List.length_set]; exact h.1, fun i p u hp hu => ?_⟩
  rw [List.getElem?_set] at hp
  by_cases hij : j = i
  · subst hij
    rw [if_pos rfl] at hp
    split at hp
    · injection hp with hp
      rw [hw] at hu
      injection hu with hu
      rw [← hp, ← hu]; exact h0
    · cases hp
  · rw [if_neg hij] at hp
    exact h.2 i p u hp hu
end LW

set_option Elab.async false
set_option maxRecDepth 100000
set_option maxHeartbeats 4000000
namespace DL
open PySem PySem.Spec L2
theorem ne_nil {M : MS} {a : Addr} {l : List Int} {Q : QD} (hm : M a = some (.lst (l.map D.int))) (k : Q (.bl (!decide (l = []))) M) : gNe (.ref a) (.lst []) M Q := by
  refine ⟨.list (l.map PyData.int), .list [], ?_, rfl, ?_, rfl, ?_⟩
  · simp only [toPM, hm, toPs_ints]
  · simp only [SeqAt.shaped, PyData.canLay0, lay_ints, PyData.depth, dep_ints, Bool.true_and]
    decide
  · cases l with
    | nil => exact k
    | cons x l => exact k
theorem ne_nilL {M : MS} {l : List Int} {Q : QD} (k : Q (.bl (!decide (l = []))) M) : gNe (.lst (l.map D.int)) (.lst []) M Q := by
  refine ⟨.list (l.map PyData.int), .list [], ?_, rfl, ?_, rfl, ?_⟩
  · simp only [toPM, toP, toPs_ints, Option.map_some]
  · simp only [SeqAt.shaped, PyData.canLay0, lay_ints, PyData.depth, dep_ints, Bool.true_and]
    decide
  · cases l with
    | nil => exact k
    | cons x l => exact k
end DL
namespace LW
open PySem PySem.Spec L2 DL
variable {G : GEnv} {M : MS} {Q : QD} {R : RK}
theorem side_ok {n x : Int} {l : List (List Int)} (h : ∀ r ∈ l, IsRd n r) (hl : l.length ≤ 30) {j : Nat} (hj : j < l.length) (hx : 0 ≤ x ∧ x < n) (h10 : n ≤ 10)
    (k : ∀ S : List Int, (∀ y, y ∈ S ↔ Conn (cutR l j) x y) → S.length ≤ 100 → Q (.lst (S.map D.int)) M) : sp__law_side G [.tup (l.map tupOf), .int (j : Nat), .int x] M Q R := by
  have hc : ∀ r ∈ cutR l j, IsRd n r := fun r hr => h r (cutR_mem hr)
  have hcl := cutR_len (l := l) (j := j)
  refine ⟨rfl, ?_⟩
  simp only [T__law_side, dSeq, dIf, dTest, dBin, dVar, dC, dAsg, dStore, dRet, dB, dCons, dNil, dTup, dLst, dLstM, dDrop, dM, dCall, dCallK, dTru, dNotT, dAndT, dOrT, dAndE, dOrE, dNotE, dIfE, dChain, dChain3, dNeg, dFor, dPar, dSlice, dPart, dNoPart, z_fld, dSetF, dRaise, dRz, dNext, dBreak, dCont, dRetN, dYes, dComp, iSeq, iRange1, iRange2, DL.iZip, DL.iEnum, startD, retD, asg, asgs, asT, gMod, gMul, DL.gSub, gGt, gGe, gFdiv, gPow, wipeD, finF, finM, perm,
    List.map_cons, List.map_nil, List.length_cons, List.length_nil, List.replicate, List.cons_append, List.nil_append, List.getElem?_cons_zero, List.getElem?_cons_succ, List.set, List.getD_cons_zero, List.getD_cons_succ, Option.some.injEq, exists_eq_left', exists_eq_left, D.int.injEq, D.bl.injEq, D.ref.injEq, D.str.injEq, List.cons.injEq, and_true, true_and, exists_and_left, exists_and_right, decide_eq_true_eq, Bool.false_eq_true, if_true, if_false, ite_true, ite_false, Nat.zero_add, Nat.reduceAdd, Nat.reduceSub,
    z_gI, z_add, z_lt, z_le, z_int, z_intb, z_ixr, z_ixt, z_ixk, z_ixs, z_ixl, z_asQ, z_asQt, z_asQk, z_asQs, z_asQl, z_asL, z_asLl, z_at0, z_at1, z_at2, z_store, z_i20, z_i21, z_eq, z_ne, z_max2, z_min2, z_addt, z_sl, z_trb, z_trt, z_trk, z_trl, z_trs, List.isEmpty_cons, List.isEmpty_nil, Bool.not_true, Bool.not_false, z_len, z_lenl, z_lenk, z_lenr, z_lens, MS.set_set, MS.set_same]
  refine ⟨by decide, fun fd hfd => ⟨by decide, fun wd hwd => ?_⟩⟩
  have hne : wd ≠ fd := fun z => by rw [z, MS.set_same] at hwd; cases hwd
  have hwd0 : M wd = none := by rw [MS.set_ne hne] at hwd; exact hwd
  refine ⟨_, _, ⟨rfl, rfl⟩, ?_⟩
  refine while_inv (fun m ρ M' => ∃ (fs wt : List Int) (o5 o6 : Option D), ρ = [some (.tup (l.map tupOf)), some (.int (j : Nat)), some (.int x), some (.ref fd), some (.ref wd), o5, o6] ∧ M' = (M.set fd (.lst (fs.map D.int))).set wd (.lst (wt.map D.int)) ∧
    fs.Nodup ∧ x ∈ fs ∧ (∀ y ∈ fs, Conn (cutR l j) x y ∧ 0 ≤ y ∧ y < n) ∧ (∀ y ∈ wt, y ∈ fs) ∧ (∀ u ∈ fs, u ∉ wt → ∀ v w, [v, w] ∈ nb (cutR l j) u → v ∈ fs) ∧ wt.length + unv fs ≤ m ∧ fs.length + unv fs ≤ 11 ∧ wt.length + unv fs ≤ 12) (m := 12) ?_
    ⟨[x], [x], none, none, rfl, rfl, by simp, by simp, fun y hy => by rw [List.mem_singleton.mp hy]; exact ⟨.refl, hx⟩, fun y hy => hy, fun u hu hn => absurd hu hn, ?_, ?_, ?_⟩
  · rintro m ρ M' ⟨fs, wt, o5, o6, rfl, rfl, hnd, hxf, hfs, hwt, hcls, hm, hfm, hwm⟩ K hK
    simp only [dSeq, dIf, dTest, dBin, dVar, dC, dAsg, dStore, dRet, dB, dCons, dNil, dTup, dLst, dLstM, dDrop, dM, dCall, dCallK, dTru, dNotT, dAndT, dOrT, dAndE, dOrE, dNotE, dIfE, dChain, dChain3, dNeg, dFor, dPar, dSlice, dPart, dNoPart, z_fld, dSetF, dRaise, dRz, dNext, dBreak, dCont, dRetN, dYes, dComp, iSeq, iRange1, iRange2, DL.iZip, DL.iEnum, startD, retD, asg, asgs, asT, gMod, gMul, DL.gSub, gGt, gGe, gFdiv, gPow, wipeD, finF, finM, perm,
    List.map_cons, List.map_nil, List.length_cons, List.length_nil, List.replicate, List.cons_append, List.nil_append, List.getElem?_cons_zero, List.getElem?_cons_succ, List.set, List.getD_cons_zero, List.getD_cons_succ, Option.some.injEq, exists_eq_left', exists_eq_left, D.int.injEq, D.bl.injEq, D.ref.injEq, D.str.injEq, List.cons.injEq, and_true, true_and, exists_and_left, exists_and_right, decide_eq_true_eq, Bool.false_eq_true, if_true, if_false, ite_true, ite_false, Nat.zero_add, Nat.reduceAdd, Nat.reduceSub,
    z_gI, z_add, z_lt, z_le, z_int, z_intb, z_ixr, z_ixt, z_ixk, z_ixs, z_ixl, z_asQ, z_asQt, z_asQk, z_asQs, z_asQl, z_asL, z_asLl, z_at0, z_at1, z_at2, z_store, z_i20, z_i21, z_eq, z_ne, z_max2, z_min2, z_addt, z_sl, z_trb, z_trt, z_trk, z_trl, z_trs, List.isEmpty_cons, List.isEmpty_nil, Bool.not_true, Bool.not_false, z_len, z_lenl, z_lenk, z_lenr, z_lens, MS.set_set, MS.set_same]
    refine ⟨by decide, ne_nil (l := wt) MS.set_same ?_⟩
    refine ⟨_, rfl, ?_⟩
    rcases List.eq_nil_or_concat wt with rfl | ⟨wt', u, rfl⟩
    · rw [if_neg (by simp)]
      refine ⟨.lst (fs.map D.int), M, fun c o ec => ?_, .lst (by rw [MS.set_ne (Ne.symm hne), MS.set_same]) hfd (Fzs.refl _), k fs (fun y => ⟨fun hy => (hfs y hy).1, fun ⟨L, hw⟩ => ?_⟩) (by omega)⟩
      · rw [MS.set_ne (fun z => by rw [z, hwd0] at ec; cases ec), MS.set_ne (fun z => by rw [z, hfd] at ec; cases ec)]; exact ec
      · induction hw with
        | nil => exact hxf
        | step hw' hn ih => exact hcls _ (ih ⟨_, hw'⟩) (by simp) _ _ hn
    · rw [List.concat_eq_append] at *
      rw [if_pos (by simp)]
      have hu := hwt u (by simp)
      obtain ⟨cu, u0, u1⟩ := hfs u hu
      have e1 : cutD (l.map tupOf) none (some (j : Int)) = (l.take j).map tupOf := cut_to (by omega)
      have e2 : cutD (l.map tupOf) (some ((j : Int) + 1)) none = (l.drop (j + 1)).map tupOf := cut_from (j := j + 1) (by omega)
      rw [e1, e2]
      refine ⟨by rw [sizeLine_eq, List.length_map, List.length_map, List.length_take, List.length_drop]; omega, ⟨_, z_asL⟩, wd, _, .int u, rfl, rfl, MS.set_same, by simp, ?_⟩
      rw [MS.set_set, ← List.map_append]
      have ed : ((wt' ++ [u]).map D.int).dropLast = wt'.map D.int := by simp
      rw [ed]
      show sp__law_tied G [.tup ((cutR l j).map tupOf), .int u] _ _ _
      rw [List.length_append, List.length_singleton] at hwm
      refine lawtied_spec hc (by omega) (by omega) fun e pm => ?_
      refine ⟨_, rfl, ?_⟩
      have en : ∀ r, r ∈ e ↔ r ∈ nb (cutR l j) u := fun r => by
        rw [pm.mem_iff]
        unfold nb
        rw [List.mem_append, List.mem_append]
        exact Or.comm
      refine for_inv (fun i ρ M' => ∃ (f2 w2 : List Int) (o5 o6 : Option D), ρ = [some (.tup (l.map tupOf)), some (.int (j : Nat)), some (.int x), some (.ref fd), some (.ref wd), o5, o6] ∧ M' = (M.set fd (.lst (f2.map D.int))).set wd (.lst (w2.map D.int)) ∧
        f2.Nodup ∧ (∀ y ∈ fs, y ∈ f2) ∧ (∀ y ∈ f2, Conn (cutR l j) x y ∧ 0 ≤ y ∧ y < n) ∧ (∀ y ∈ w2, y ∈ f2) ∧ (∀ y ∈ f2, y ∈ fs ∨ y ∈ w2) ∧ (∀ y ∈ wt', y ∈ w2) ∧ (∀ i', i' < i → ∀ v w, e[i']? = some [v, w] → v ∈ f2) ∧ w2.length + unv f2 ≤ wt'.length + unv fs ∧ f2.length + unv f2 ≤ 11) (fun _ _ _ _ => rfl) ?_ ?_
        ⟨fs, wt', o5, o6, rfl, rfl, hnd, fun y hy => hy, hfs, fun y hy => hwt y (by simp [hy]), fun y hy => .inl hy, fun y hy => hy, fun i' hi' => absurd hi' (Nat.not_lt_zero _), Nat.le_refl _, hfm⟩
      · rintro i d ρ M' hd ⟨f2, w2, o5, o6, rfl, rfl, g1, g2, g3, g4, g5, g6, g7, g8, g9⟩
        rw [List.getElem?_map] at hd
        obtain ⟨r, hr, rfl⟩ := Option.map_eq_some_iff.mp hd
        have hrm := (en r).mp (List.mem_of_getElem? hr)
        obtain ⟨v, w, rfl, v0, v1⟩ := nb_mem hc hrm
        refine ⟨_, rfl, fun K' hK' => ?_⟩
        simp only [dSeq, dIf, dTest, dBin, dVar, dC, dAsg, dStore, dRet, dB, dCons, dNil, dTup, dLst, dLstM, dDrop, dM, dCall, dCallK, dTru, dNotT, dAndT, dOrT, dAndE, dOrE, dNotE, dIfE, dChain, dChain3, dNeg, dFor, dPar, dSlice, dPart, dNoPart, z_fld, dSetF, dRaise, dRz, dNext, dBreak, dCont, dRetN, dYes, dComp, iSeq, iRange1, iRange2, DL.iZip, DL.iEnum, startD, retD, asg, asgs, asT, gMod, gMul, DL.gSub, gGt, gGe, gFdiv, gPow, wipeD, finF, finM, perm,
    List.map_cons, List.map_nil, List.length_cons, List.length_nil, List.replicate, List.cons_append, List.nil_append, List.getElem?_cons_zero, List.getElem?_cons_succ, List.set, List.getD_cons_zero, List.getD_cons_succ, Option.some.injEq, exists_eq_left', exists_eq_left, D.int.injEq, D.bl.injEq, D.ref.injEq, D.str.injEq, List.cons.injEq, and_true, true_and, exists_and_left, exists_and_right, decide_eq_true_eq, Bool.false_eq_true, if_true, if_false, ite_true, ite_false, Nat.zero_add, Nat.reduceAdd, Nat.reduceSub,
    z_gI, z_add, z_lt, z_le, z_int, z_intb, z_ixr, z_ixt, z_ixk, z_ixs, z_ixl, z_asQ, z_asQt, z_asQk, z_asQs, z_asQl, z_asL, z_asLl, z_at0, z_at1, z_at2, z_store, z_i20, z_i21, z_eq, z_ne, z_max2, z_min2, z_addt, z_sl, z_trb, z_trt, z_trk, z_trl, z_trs, List.isEmpty_cons, List.isEmpty_nil, Bool.not_true, Bool.not_false, z_len, z_lenl, z_lenk, z_lenr, z_lens, MS.set_set, MS.set_same]
        have hfg : asQ ((M.set fd (.lst (f2.map D.int))).set wd (.lst (w2.map D.int))) (.ref fd) = some (f2.map D.int) := by simp [asQ, asL, MS.set_ne (Ne.symm hne), MS.set_same]
        refine in_ints hfg ⟨_, rfl, ?_⟩
        have cv : Conn (cutR l j) x v := by
          obtain ⟨L, hL⟩ := cu
          exact ⟨_, hL.step hrm⟩
        by_cases hv : v ∈ f2
        · rw [if_neg (by simp [hv])]
          refine hK' _ _ ⟨f2, w2, _, _, rfl, rfl, g1, g2, g3, g4, g5, g6, fun i' hi' a b hab => ?_, g8, g9⟩
          by_cases hji : i' = i
          · subst hji
            rw [hr] at hab
            injection hab with hab; injection hab with ha _
            rw [← ha]; exact hv
          · exact g7 i' (by omega) a b hab
        · rw [if_pos (by simp [hv])]
          have hun := unv_lt v0 (by omega) hv
          refine ⟨⟨f2.map D.int, by simp [asL, MS.set_ne (Ne.symm hne), MS.set_same]⟩, fd, _, _, rfl, rfl, by rw [MS.set_ne (Ne.symm hne), MS.set_same], by rw [List.length_map, sizeLine_eq]; omega, ?_⟩
          rw [MS.under (Ne.symm hne)]
          refine ⟨⟨w2.map D.int, by simp [asL, MS.set_same]⟩, wd, _, _, rfl, rfl, MS.set_same, by rw [List.length_map, sizeLine_eq]; omega, ?_⟩
          rw [MS.set_set]
          have m1 : ∀ z : List Int, z.map D.int ++ [D.int v] = (z ++ [v]).map D.int := fun z => by simp
          rw [m1, m1]
          refine hK' _ _ ⟨f2 ++ [v], w2 ++ [v], _, _, rfl, rfl, ?_, fun y hy => List.mem_append_left _ (g2 y hy), fun y hy => ?_, fun y hy => ?_, fun y hy => ?_, fun y hy => List.mem_append_left _ (g6 y hy), fun i' hi' a b hab => ?_, by rw [List.length_append, List.length_singleton]; omega, by rw [List.length_append, List.length_singleton]; omega⟩
          · rw [List.nodup_append]
            exact ⟨g1, by simp, fun a ha b hb e => hv (by rw [← show b = v by simpa using hb, ← e]; exact ha)⟩
          · rcases List.mem_append.mp hy with z | z
            · exact g3 y z
            · rw [List.mem_singleton.mp z]; exact ⟨cv, v0, v1⟩
          · rcases List.mem_append.mp hy with z | z
            · exact List.mem_append_left _ (g4 y z)
            · exact List.mem_append_right _ z
          · rcases List.mem_append.mp hy with z | z
            · rcases g5 y z with q | q
              · exact .inl q
              · exact .inr (List.mem_append_left _ q)
            · exact .inr (List.mem_append_right _ z)
          · by_cases hji : i' = i
            · subst hji
              rw [hr] at hab
              injection hab with hab; injection hab with ha _
              rw [← ha]; simp
            · exact List.mem_append_left _ (g7 i' (by omega) a b hab)
      · rintro ρ M' ⟨f2, w2, o5, o6, rfl, rfl, g1, g2, g3, g4, g5, g6, g7, g8, g9⟩
        rw [List.length_map] at g7
        rw [List.length_append, List.length_singleton] at hm
        refine hK (m - 1) _ _ (by omega) ⟨f2, w2, _, _, rfl, rfl, g1, g2 _ hxf, g3, g4, fun a ha hna v w hv => ?_, by omega, g9, by omega⟩
        by_cases hau : a = u
        · subst hau
          obtain ⟨i', hi'⟩ := List.getElem?_of_mem ((en _).mpr hv)
          exact g7 i' ((List.getElem?_eq_some_iff.mp hi').1) v w hi'
        · rcases g5 a ha with q | q
          · refine g2 _ (hcls a q (fun z => ?_) v w hv)
            rcases List.mem_append.mp z with z | z
            · exact hna (g6 a z)
            · exact hau (List.mem_singleton.mp z)
          · exact absurd q hna
  · have := unv_lt (fs := []) hx.1 (by omega) (by simp)
    have e : unv [] = 10 := by decide
    rw [List.nil_append] at this
    simp only [List.length_singleton]
    omega
  · have := unv_lt (fs := []) hx.1 (by omega) (by simp)
    have e : unv [] = 10 := by decide
    rw [List.nil_append] at this
    simp only [List.length_singleton]
    omega

  · have := unv_lt (fs := []) hx.1 (by omega) (by simp)
    have e : unv [] = 10 := by decide
    rw [List.nil_append] at this
    simp only [List.length_singleton]
    omega
end LW

set_option Elab.async false
set_option maxRecDepth 100000
set_option maxHeartbeats 4000000
/-! the second cell's pool; two pools of a script -/
namespace LW
open PySem PySem.Spec L2 DL
variable {G : GEnv} {M : MS} {Q : QD} {R : RK}
theorem pool_spec1 {G : GEnv} {M : MS} {Q : QD} {R : RK} {ns : List Int} (hl : ns.length ≤ 63) (k : ∀ p b m, M p = none → 0 ≤ b → 0 ≤ m → Q (.ref p) (M.set p (src b m))) : sp__law_pool G [.klst (ns.map D.int), .int 1] M Q R := by
  refine ⟨rfl, ?_⟩
  have fin : ∀ c : Int, 0 ≤ (if -1 - c > c then -1 - c else c) := fun c => by split <;> omega
  have main : ∀ n : Int, 0 ≤ n → (0 < (2147483629 : Int) ∧ CMul 7919 1 ∧ CMul (7919 * 1) 1 ∧ CMul 31 1 ∧ CMul (n % 2147483629 + 7919 * 1 * 1 + 31 * 1 + 17) 48271 ∧ 0 < (2147483647 : Int) ∧ CPow 10 18 ∧ CMul n (if (10 : Int) ^ Int.toNat 18 ≤ n then 1 else 0) ∧ 2 ≤ sizeLine ∧
      ∀ p, M p = none → RetOk Q (.ref p) (M.set p (.lst [.int (n * if (10 : Int) ^ Int.toNat 18 ≤ n then 1 else 0), .int ((n % 2147483629 + 7919 * 1 * 1 + 31 * 1 + 17) * 48271 % 2147483647)]))) := fun n hn => by
    refine ⟨by decide, .inl (by decide), .inr (by decide), .inl (by decide), .inr (by decide), by decide, ⟨by decide, by decide, by decide⟩, .inr (by split <;> decide), by decide, fun p hp => RetOk.of (k p _ _ hp ?_ (Int.emod_nonneg _ (by decide)))⟩
    split
    · omega
    · omega
  match ns with
  | [] =>
    simp only [T__law_pool, dSeq, dIf, dTest, dBin, dVar, dC, dAsg, dStore, dRet, dB, dCons, dNil, dTup, dLst, dLstM, dDrop, dM, dCall, dCallK, dTru, dNotT, dAndT, dOrT, dAndE, dOrE, dNotE, dIfE, dChain, dChain3, dNeg, dFor, dPar, dSlice, dPart, dNoPart, z_fld, dSetF, dRaise, dRz, dNext, dBreak, dCont, dRetN, dYes, dComp, iSeq, iRange1, iRange2, DL.iZip, DL.iEnum, startD, retD, asg, asgs, asT, gMod, gMul, DL.gSub, gGt, gGe, gFdiv, gPow, wipeD, finF, finM, perm,
    List.map_cons, List.map_nil, List.length_cons, List.length_nil, List.replicate, List.cons_append, List.nil_append, List.getElem?_cons_zero, List.getElem?_cons_succ, List.set, List.getD_cons_zero, List.getD_cons_succ, Option.some.injEq, exists_eq_left', exists_eq_left, D.int.injEq, D.bl.injEq, D.ref.injEq, D.str.injEq, List.cons.injEq, and_true, true_and, exists_and_left, exists_and_right, decide_eq_true_eq, Bool.false_eq_true, if_true, if_false, ite_true, ite_false, Nat.zero_add, Nat.reduceAdd, Nat.reduceSub,
    z_gI, z_add, z_lt, z_le, z_int, z_intb, z_ixr, z_ixt, z_ixk, z_ixs, z_ixl, z_asQ, z_asQt, z_asQk, z_asQs, z_asQl, z_asL, z_asLl, z_at0, z_at1, z_at2, z_store, z_i20, z_i21, z_eq, z_ne, z_max2, z_min2, z_addt, z_sl, z_trb, z_trt, z_trk, z_trl, z_trs, List.isEmpty_cons, List.isEmpty_nil, Bool.not_true, Bool.not_false, z_len, z_lenl, z_lenk, z_lenr, z_lens, MS.set_set, MS.set_same]
    simpa using main 0 (by decide)
  | [n] =>
    simp only [T__law_pool, dSeq, dIf, dTest, dBin, dVar, dC, dAsg, dStore, dRet, dB, dCons, dNil, dTup, dLst, dLstM, dDrop, dM, dCall, dCallK, dTru, dNotT, dAndT, dOrT, dAndE, dOrE, dNotE, dIfE, dChain, dChain3, dNeg, dFor, dPar, dSlice, dPart, dNoPart, z_fld, dSetF, dRaise, dRz, dNext, dBreak, dCont, dRetN, dYes, dComp, iSeq, iRange1, iRange2, DL.iZip, DL.iEnum, startD, retD, asg, asgs, asT, gMod, gMul, DL.gSub, gGt, gGe, gFdiv, gPow, wipeD, finF, finM, perm,
    List.map_cons, List.map_nil, List.length_cons, List.length_nil, List.replicate, List.cons_append, List.nil_append, List.getElem?_cons_zero, List.getElem?_cons_succ, List.set, List.getD_cons_zero, List.getD_cons_succ, Option.some.injEq, exists_eq_left', exists_eq_left, D.int.injEq, D.bl.injEq, D.ref.injEq, D.str.injEq, List.cons.injEq, and_true, true_and, exists_and_left, exists_and_right, decide_eq_true_eq, Bool.false_eq_true, if_true, if_false, ite_true, ite_false, Nat.zero_add, Nat.reduceAdd, Nat.reduceSub,
    z_gI, z_add, z_lt, z_le, z_int, z_intb, z_ixr, z_ixt, z_ixk, z_ixs, z_ixl, z_asQ, z_asQt, z_asQk, z_asQs, z_asQl, z_asL, z_asLl, z_at0, z_at1, z_at2, z_store, z_i20, z_i21, z_eq, z_ne, z_max2, z_min2, z_addt, z_sl, z_trb, z_trt, z_trk, z_trl, z_trs, List.isEmpty_cons, List.isEmpty_nil, Bool.not_true, Bool.not_false, z_len, z_lenl, z_lenk, z_lenr, z_lens, MS.set_set, MS.set_same]
    rw [if_neg (by omega)]
    simpa using main _ (fin n)
  | n :: n2 :: ns =>
    simp only [T__law_pool, dSeq, dIf, dTest, dBin, dVar, dC, dAsg, dStore, dRet, dB, dCons, dNil, dTup, dLst, dLstM, dDrop, dM, dCall, dCallK, dTru, dNotT, dAndT, dOrT, dAndE, dOrE, dNotE, dIfE, dChain, dChain3, dNeg, dFor, dPar, dSlice, dPart, dNoPart, z_fld, dSetF, dRaise, dRz, dNext, dBreak, dCont, dRetN, dYes, dComp, iSeq, iRange1, iRange2, DL.iZip, DL.iEnum, startD, retD, asg, asgs, asT, gMod, gMul, DL.gSub, gGt, gGe, gFdiv, gPow, wipeD, finF, finM, perm,
    List.map_cons, List.map_nil, List.length_cons, List.length_nil, List.replicate, List.cons_append, List.nil_append, List.getElem?_cons_zero, List.getElem?_cons_succ, List.set, List.getD_cons_zero, List.getD_cons_succ, Option.some.injEq, exists_eq_left', exists_eq_left, D.int.injEq, D.bl.injEq, D.ref.injEq, D.str.injEq, List.cons.injEq, and_true, true_and, exists_and_left, exists_and_right, decide_eq_true_eq, Bool.false_eq_true, if_true, if_false, ite_true, ite_false, Nat.zero_add, Nat.reduceAdd, Nat.reduceSub,
    z_gI, z_add, z_lt, z_le, z_int, z_intb, z_ixr, z_ixt, z_ixk, z_ixs, z_ixl, z_asQ, z_asQt, z_asQk, z_asQs, z_asQl, z_asL, z_asLl, z_at0, z_at1, z_at2, z_store, z_i20, z_i21, z_eq, z_ne, z_max2, z_min2, z_addt, z_sl, z_trb, z_trt, z_trk, z_trl, z_trs, List.isEmpty_cons, List.isEmpty_nil, Bool.not_true, Bool.not_false, z_len, z_lenl, z_lenk, z_lenr, z_lens, MS.set_set, MS.set_same]
    rw [if_pos (by omega)]
    exact main _ (fin n2)
theorem pool_two {G : GEnv} {M : MS} {Q : QD} {R : RK} {ns : List Int} (hl : ns.length ≤ 63) {i : Nat} (hi : i < 2) (k : ∀ p b m, M p = none → 0 ≤ b → 0 ≤ m → Q (.ref p) (M.set p (src b m))) : sp__law_pool G [.klst (ns.map D.int), .int (0 + (i : Int))] M Q R := by
  have hi2 : i = 0 ∨ i = 1 := by omega
  rcases hi2 with rfl | rfl
  · exact pool_spec hl k
  · exact pool_spec1 hl k
end LW

set_option Elab.async false
set_option maxRecDepth 100000
set_option maxHeartbeats 4000000
/-! how many rows and states there are, and how many of them are alike beyond a road -/
namespace DL
open PySem PySem.Spec L2
/-- all rows of so many positions, ascending -/
def rowsUp (ms : List Int) : List (List Int) := ms.foldl (fun rows m => rows.flatMap fun r => (List.range m.toNat).map fun p : Nat => r ++ [(p : Int)]) [[]]
theorem rowsUp_snoc (ms : List Int) (m : Int) : rowsUp (ms ++ [m]) = (rowsUp ms).flatMap fun r => (List.range m.toNat).map fun p : Nat => r ++ [(p : Int)] := by
  unfold rowsUp; rw [List.foldl_append]; rfl
theorem rowsUp_len : ∀ {ms : List Int} {r : List Int}, r ∈ rowsUp ms → r.length = ms.length := fun {ms} => by
  have key : ∀ k : List Int, ∀ r ∈ rowsUp k.reverse, r.length = k.reverse.length := fun k => by
    induction k with
    | nil => intro r hr; rw [List.mem_singleton.mp hr]; rfl
    | cons m k ih =>
      intro r hr
      rw [List.reverse_cons, rowsUp_snoc] at hr
      obtain ⟨s, hs, h2⟩ := List.mem_flatMap.mp hr
      obtain ⟨p, _, rfl⟩ := List.mem_map.mp h2
      rw [List.reverse_cons, List.length_append, List.length_append, ih s hs]; rfl
  intro r hr
  have := key ms.reverse r (by rw [List.reverse_reverse]; exact hr)
  rwa [List.reverse_reverse] at this
/-- how many positions are let at one place -/
def letN (good : Nat → Int → Bool) (i : Nat) (m : Int) : Nat := (List.range m.toNat).countP fun p : Nat => good i p
def prodN (good : Nat → Int → Bool) : Nat → List Int → Nat
  | _, [] => 1
  | i, m :: ms => letN good i m * prodN good (i + 1) ms
def allB (good : Nat → Int → Bool) : Nat → List Int → Bool
  | _, [] => true
  | i, p :: r => good i p && allB good (i + 1) r
theorem allB_snoc (good : Nat → Int → Bool) (p : Int) : ∀ (i : Nat) (r : List Int), allB good i (r ++ [p]) = (allB good i r && good (i + r.length) p)
  | i, [] => by simp [allB]
  | i, q :: r => by
    have e : i + 1 + r.length = i + (r.length + 1) := by omega
    rw [List.cons_append, allB, allB_snoc good p (i + 1) r, allB, List.length_cons, Bool.and_assoc, e]
theorem prodN_snoc (good : Nat → Int → Bool) (m : Int) : ∀ (i : Nat) (ms : List Int), prodN good i (ms ++ [m]) = prodN good i ms * letN good (i + ms.length) m
  | i, [] => by simp [prodN]
  | i, k :: ms => by
    have e : i + 1 + ms.length = i + (ms.length + 1) := by omega
    rw [List.cons_append, prodN, prodN_snoc good m (i + 1) ms, prodN, List.length_cons, Nat.mul_assoc, e]
theorem sum_ifs {α : Type} (P : α → Bool) (c : Nat) : ∀ l : List α, (l.map fun a => if P a = true then c else 0).sum = l.countP P * c
  | [] => by simp
  | a :: l => by
    rw [List.map_cons, List.sum_cons, sum_ifs P c l, List.countP_cons]
    by_cases h : P a = true
    · rw [if_pos h, if_pos h, Nat.add_mul]; omega
    · rw [if_neg h, if_neg h, Nat.zero_add, Nat.add_zero]
theorem rows_count (good : Nat → Int → Bool) (ms : List Int) : (rowsUp ms).countP (allB good 0) = prodN good 0 ms := by
  have key : ∀ k : List Int, (rowsUp k.reverse).countP (allB good 0) = prodN good 0 k.reverse := fun k => by
    induction k with
    | nil => rfl
    | cons m k ih =>
      rw [List.reverse_cons, rowsUp_snoc, prodN_snoc, ← ih, List.countP_flatMap]
      rw [← sum_ifs]
      congr 1
      refine List.map_congr_left fun r hr => ?_
      have hl := rowsUp_len hr
      show ((List.range m.toNat).map fun p : Nat => r ++ [(p : Int)]).countP (allB good 0) = _
      rw [List.countP_map]
      by_cases h : allB good 0 r = true
      · rw [if_pos h]
        unfold letN
        refine List.countP_congr fun p _ => ?_
        simp only [Function.comp]
        rw [allB_snoc, h, Bool.true_and, hl]
      · rw [if_neg h, List.countP_eq_zero]
        intro p _
        simp only [Function.comp]
        rw [allB_snoc]
        simp [h]
  have := key ms.reverse
  rwa [List.reverse_reverse] at this
theorem rows_all (ms : List Int) : (rowsUp ms).length = prodN (fun _ _ => true) 0 ms := by
  rw [← rows_count]
  have : ∀ (i : Nat) (r : List Int), allB (fun _ _ => true) i r = true := fun i r => by
    induction r generalizing i with
    | nil => rfl
    | cons a r ih => rw [allB, ih]; rfl
  exact (List.countP_eq_length.mpr fun r _ => this 0 r).symm
/-- a product over the first n places -/
def pI (f : Nat → Int) : Nat → Int
  | 0 => 1
  | n + 1 => pI f n * f n
theorem pI_congr {f g : Nat → Int} : ∀ {n : Nat}, (∀ i, i < n → f i = g i) → pI f n = pI g n
  | 0, _ => rfl
  | n + 1, h => by rw [pI, pI, pI_congr fun i hi => h i (by omega), h n (by omega)]
theorem pI_mul {f g : Nat → Int} : ∀ {n : Nat}, pI (fun i => f i * g i) n = pI f n * pI g n
  | 0 => rfl
  | n + 1 => by rw [pI, pI_mul, pI, pI]; simp only [Int.mul_assoc, Int.mul_left_comm]
theorem pI_pos {f : Nat → Int} : ∀ {n : Nat}, (∀ i, i < n → 1 ≤ f i) → 1 ≤ pI f n
  | 0, _ => Int.le_refl _
  | n + 1, h => by
    have a := pI_pos (n := n) fun i hi => h i (show i < n + 1 by omega)
    have b := h n (by omega)
    rw [pI]
    have := Int.mul_le_mul a b (by decide) (by omega)
    omega
/-- a product over some places, as it is told -/
def prodM (ms S : List Int) : Int := S.foldl (fun a x => a * ms.getD x.toNat 0) 1
theorem prodM_snoc (ms S : List Int) (x : Int) : prodM ms (S ++ [x]) = prodM ms S * ms.getD x.toNat 0 := by
  unfold prodM; rw [List.foldl_append]; rfl
theorem prodM_rng (ms : List Int) (P : Nat → Bool) : ∀ n : Nat, prodM ms (((List.range n).filter P).map fun i : Nat => (i : Int)) = pI (fun i => if P i = true then ms.getD i 0 else 1) n
  | 0 => rfl
  | n + 1 => by
    rw [List.range_succ, List.filter_append, List.map_append, pI, ← prodM_rng ms P n]
    by_cases h : P n = true
    · rw [List.filter_cons_of_pos h, List.filter_nil, List.map_cons, List.map_nil, prodM_snoc, if_pos h, Int.toNat_natCast]
    · rw [List.filter_cons_of_neg h, List.filter_nil, List.map_nil, List.append_nil, if_neg h, Int.mul_one]
theorem prodN_pI (good : Nat → Int → Bool) (ms : List Int) : (prodN good 0 ms : Int) = pI (fun i => (letN good i (ms.getD i 0) : Int)) ms.length := by
  have key : ∀ k : List Int, (prodN good 0 k.reverse : Int) = pI (fun i => (letN good i (k.reverse.getD i 0) : Int)) k.reverse.length := fun k => by
    induction k with
    | nil => rfl
    | cons m k ih =>
      rw [List.reverse_cons, prodN_snoc, List.length_append, List.length_singleton, pI, Int.natCast_mul, ih, Nat.zero_add]
      congr 1
      · refine pI_congr fun i hi => ?_
        rw [List.getD_eq_getElem?_getD, List.getD_eq_getElem?_getD, List.getElem?_append_left hi]
      · rw [List.getD_eq_getElem?_getD, List.getElem?_append_right (Nat.le_refl _), Nat.sub_self]; rfl
  have := key ms.reverse
  rwa [List.reverse_reverse] at this
theorem let_all (i : Nat) {m : Int} (h : 0 ≤ m) : (letN (fun _ _ => true) i m : Int) = m := by
  unfold letN
  rw [List.countP_eq_length.mpr fun _ _ => rfl, List.length_range]
  omega
theorem count_one (a : Nat) : ∀ k : Nat, ((List.range k).countP fun p : Nat => decide ((a : Int) = (p : Int))) = if a < k then 1 else 0
  | 0 => rfl
  | k + 1 => by
    rw [List.range_succ, List.countP_append, count_one a k, List.countP_singleton]
    by_cases h : a = k
    · subst h; simp
    · have e : decide ((a : Int) = (k : Int)) = false := decide_eq_false (by omega)
      simp only [e, Bool.false_eq_true, if_false, Nat.add_zero]
      split <;> split <;> omega
/-- one row is as good as another beyond the road: the same there -/
def goodF (far : Nat → Bool) (ra : List Int) (i : Nat) (p : Int) : Bool := !far i || decide (ra.getD i 0 = p)
theorem let_good {far : Nat → Bool} {ra : List Int} {i : Nat} {m : Int} (h : 0 ≤ ra.getD i 0 ∧ ra.getD i 0 < m) : (letN (goodF far ra) i m : Int) = if far i = true then 1 else m := by
  unfold letN goodF
  by_cases c : far i = true
  · rw [if_pos c]
    obtain ⟨a, ha⟩ := Int.eq_ofNat_of_zero_le h.1
    have e : (fun p : Nat => !far i || decide (ra.getD i 0 = (p : Int))) = fun p : Nat => decide ((a : Int) = (p : Int)) := by
      funext p; rw [c, ha]; rfl
    rw [e, count_one, if_pos (by omega)]; rfl
  · rw [if_neg c, List.countP_eq_length.mpr fun p _ => by simp [c], List.length_range]
    omega
end DL

set_option Elab.async false
set_option maxRecDepth 100000
set_option maxHeartbeats 4000000
/-! k42: how often a road is crossed, as the program tells it -/
namespace DL
open PySem PySem.Spec L2
theorem notL_asc (fs : List Int) (m : Nat) : (notL fs m).Pairwise (· < ·) := by
  unfold notL
  refine List.Pairwise.filter _ (List.pairwise_map.mpr (List.pairwise_lt_range.imp fun h => by omega))
theorem asc_same : ∀ {S T : List Int}, S.Pairwise (· < ·) → T.Pairwise (· < ·) → (∀ y, y ∈ S ↔ y ∈ T) → S = T
  | [], [], _, _, _ => rfl
  | [], b :: _, _, _, h => by have := (h b).mpr List.mem_cons_self; cases this
  | a :: _, [], _, _, h => by have := (h a).mp List.mem_cons_self; cases this
  | a :: S, b :: T, h1, h2, h => by
    obtain ⟨p1, q1⟩ := List.pairwise_cons.mp h1
    obtain ⟨p2, q2⟩ := List.pairwise_cons.mp h2
    have e : a = b := by
      rcases List.mem_cons.mp ((h a).mp List.mem_cons_self) with z | z
      · exact z
      · rcases List.mem_cons.mp ((h b).mpr List.mem_cons_self) with y | y
        · exact y.symm
        · have := p2 a z; have := p1 b y; omega
    subst e
    rw [asc_same q1 q2 fun r => ⟨fun hr => by
      rcases List.mem_cons.mp ((h r).mp (List.mem_cons_of_mem _ hr)) with z | z
      · have := p1 r hr; omega
      · exact z, fun hr => by
      rcases List.mem_cons.mp ((h r).mpr (List.mem_cons_of_mem _ hr)) with z | z
      · have := p2 r hr; omega
      · exact z⟩]
/-- what lies beyond a road -/
noncomputable def farB (rs : List (List Int)) (j : Nat) (x : Int) (i : Nat) : Bool := @decide (¬ Conn (cutR rs j) x (i : Int)) (Classical.propDecidable _)
theorem farB_iff {rs : List (List Int)} {j : Nat} {x : Int} {i : Nat} : farB rs j x i = true ↔ ¬ Conn (cutR rs j) x (i : Int) := @decide_eq_true_iff _ (Classical.propDecidable _)
/-- the places beyond a road -/
noncomputable def farL (n : Int) (rs : List (List Int)) (j : Nat) (x : Int) : List Int := ((List.range n.toNat).filter (farB rs j x)).map fun i : Nat => (i : Int)
theorem farL_mem {n : Int} {rs : List (List Int)} {j : Nat} {x y : Int} : y ∈ farL n rs j x ↔ (0 ≤ y ∧ y < n) ∧ ¬ Conn (cutR rs j) x y := by
  unfold farL
  rw [List.mem_map]
  constructor
  · rintro ⟨i, hi, rfl⟩
    obtain ⟨h1, h2⟩ := List.mem_filter.mp hi
    have := List.mem_range.mp h1
    exact ⟨by omega, farB_iff.mp h2⟩
  · rintro ⟨h1, h2⟩
    exact ⟨y.toNat, List.mem_filter.mpr ⟨List.mem_range.mpr (by omega), farB_iff.mpr (by rw [Int.toNat_of_nonneg h1.1]; exact h2)⟩, Int.toNat_of_nonneg h1.1⟩
theorem farL_asc (n : Int) (rs : List (List Int)) (j : Nat) (x : Int) : (farL n rs j x).Pairwise (· < ·) := by
  unfold farL
  exact List.pairwise_map.mpr ((List.pairwise_lt_range.filter _).imp fun h => by omega)
end DL
namespace LW
open PySem PySem.Spec L2 DL
variable {G : GEnv} {M : MS} {Q : QD} {R : RK}
theorem parted_specC (F : GF G) {n x : Int} {rs : List (List Int)} {ws : List Lamp} (h : ∀ r ∈ rs, IsRd n r) (hl : rs.length ≤ 100) {j : Nat} (hj : j < rs.length) (hx0 : 0 ≤ x) (hx1 : x < n) (h2 : n ≤ 10)
    (k : ∀ S : List Int, (∀ y, y ∈ S ↔ (0 ≤ y ∧ y < n) ∧ ¬ Conn (cutR rs j) x y) → S.Pairwise (· < ·) → Q (.tup (S.map D.int)) M) : sp_parted G [landV G n rs ws, .int (j : Nat), .int x] M Q R := by
  refine ⟨rfl, ?_⟩
  simp only [T_parted, dSeq, dIf, dTest, dBin, dVar, dC, dAsg, dStore, dRet, dB, dCons, dNil, dTup, dLst, dLstM, dDrop, dM, dCall, dCallK, dTru, dNotT, dAndT, dOrT, dAndE, dOrE, dNotE, dIfE, dChain, dChain3, dNeg, dFor, dPar, dSlice, dPart, dNoPart, z_fld, dSetF, dRaise, dRz, dNext, dBreak, dCont, dRetN, dYes, dComp, iSeq, iRange1, iRange2, DL.iZip, DL.iEnum, startD, retD, asg, asgs, asT, gMod, gMul, DL.gSub, gGt, gGe, gFdiv, gPow, wipeD, finF, finM, perm,
    List.map_cons, List.map_nil, List.length_cons, List.length_nil, List.replicate, List.cons_append, List.nil_append, List.getElem?_cons_zero, List.getElem?_cons_succ, List.set, List.getD_cons_zero, List.getD_cons_succ, Option.some.injEq, exists_eq_left', exists_eq_left, D.int.injEq, D.bl.injEq, D.ref.injEq, D.str.injEq, List.cons.injEq, and_true, true_and, exists_and_left, exists_and_right, decide_eq_true_eq, Bool.false_eq_true, if_true, if_false, ite_true, ite_false, Nat.zero_add, Nat.reduceAdd, Nat.reduceSub,
    z_gI, z_add, z_lt, z_le, z_int, z_intb, z_ixr, z_ixt, z_ixk, z_ixs, z_ixl, z_asQ, z_asQt, z_asQk, z_asQs, z_asQl, z_asL, z_asLl, z_at0, z_at1, z_at2, z_store, z_i20, z_i21, z_eq, z_ne, z_max2, z_min2, z_addt, z_sl, z_trb, z_trt, z_trk, z_trl, z_trs, List.isEmpty_cons, List.isEmpty_nil, Bool.not_true, Bool.not_false, z_len, z_lenl, z_lenk, z_lenr, z_lens, MS.set_set, MS.set_same]
  refine fl_lr F ?_
  rw [z_sl]
  refine fl_lr F ?_
  rw [z_sl]
  have e1 : cutD (rs.map tupOf) none (some (j : Int)) = (rs.take j).map tupOf := cut_to (by omega)
  have e2 : cutD (rs.map tupOf) (some ((j : Int) + 1)) none = (rs.drop (j + 1)).map tupOf := cut_from (j := j + 1) (by omega)
  rw [e1, e2, z_addt]
  refine ⟨by rw [sizeLine_eq, List.length_map, List.length_map, List.length_take, List.length_drop]; omega, ?_⟩
  rw [← List.map_append]
  show sp_lengths_from G [.tup ((cutR rs j).map tupOf), .int x] M _ _
  have hc := cutR_len (l := rs) (j := j)
  refine least_spec (fun r hr => h r (cutR_mem hr)) (by omega) hx0 hx1 h2 fun ps hnd hps hall => ?_
  refine fl_lm F ⟨n, rfl, by omega, by omega, ?_⟩
  have hds : (ps.map fun z => D.int z.2).length = (ps.map (·.1)).length := by simp
  refine comp_map (notP (ps.map (·.1))) id trivial _ _ (fun d hd => ?_) (by rw [rangeD_len]; simp; omega) ?_
  · obtain ⟨i, hi⟩ := List.getElem?_of_mem hd
    obtain ⟨hi1, rfl⟩ := rangeD_get hi
    refine ⟨_, rfl, fun Q' hq => ?_, fun _ Q' hq => ?_⟩
    · simp only [dSeq, dIf, dTest, dBin, dVar, dC, dAsg, dStore, dRet, dB, dCons, dNil, dTup, dLst, dLstM, dDrop, dM, dCall, dCallK, dTru, dNotT, dAndT, dOrT, dAndE, dOrE, dNotE, dIfE, dChain, dChain3, dNeg, dFor, dPar, dSlice, dPart, dNoPart, z_fld, dSetF, dRaise, dRz, dNext, dBreak, dCont, dRetN, dYes, dComp, iSeq, iRange1, iRange2, DL.iZip, DL.iEnum, startD, retD, asg, asgs, asT, gMod, gMul, DL.gSub, gGt, gGe, gFdiv, gPow, wipeD, finF, finM, perm,
    List.map_cons, List.map_nil, List.length_cons, List.length_nil, List.replicate, List.cons_append, List.nil_append, List.getElem?_cons_zero, List.getElem?_cons_succ, List.set, List.getD_cons_zero, List.getD_cons_succ, Option.some.injEq, exists_eq_left', exists_eq_left, D.int.injEq, D.bl.injEq, D.ref.injEq, D.str.injEq, List.cons.injEq, and_true, true_and, exists_and_left, exists_and_right, decide_eq_true_eq, Bool.false_eq_true, if_true, if_false, ite_true, ite_false, Nat.zero_add, Nat.reduceAdd, Nat.reduceSub,
    z_gI, z_add, z_lt, z_le, z_int, z_intb, z_ixr, z_ixt, z_ixk, z_ixs, z_ixl, z_asQ, z_asQt, z_asQk, z_asQs, z_asQl, z_asL, z_asLl, z_at0, z_at1, z_at2, z_store, z_i20, z_i21, z_eq, z_ne, z_max2, z_min2, z_addt, z_sl, z_trb, z_trt, z_trk, z_trl, z_trs, List.isEmpty_cons, List.isEmpty_nil, Bool.not_true, Bool.not_false, z_len, z_lenl, z_lenk, z_lenr, z_lens, MS.set_set, MS.set_same]
      exact in_dict rfl hds ⟨_, rfl, hq⟩
    · simp only [dSeq, dIf, dTest, dBin, dVar, dC, dAsg, dStore, dRet, dB, dCons, dNil, dTup, dLst, dLstM, dDrop, dM, dCall, dCallK, dTru, dNotT, dAndT, dOrT, dAndE, dOrE, dNotE, dIfE, dChain, dChain3, dNeg, dFor, dPar, dSlice, dPart, dNoPart, z_fld, dSetF, dRaise, dRz, dNext, dBreak, dCont, dRetN, dYes, dComp, iSeq, iRange1, iRange2, DL.iZip, DL.iEnum, startD, retD, asg, asgs, asT, gMod, gMul, DL.gSub, gGt, gGe, gFdiv, gPow, wipeD, finF, finM, perm,
    List.map_cons, List.map_nil, List.length_cons, List.length_nil, List.replicate, List.cons_append, List.nil_append, List.getElem?_cons_zero, List.getElem?_cons_succ, List.set, List.getD_cons_zero, List.getD_cons_succ, Option.some.injEq, exists_eq_left', exists_eq_left, D.int.injEq, D.bl.injEq, D.ref.injEq, D.str.injEq, List.cons.injEq, and_true, true_and, exists_and_left, exists_and_right, decide_eq_true_eq, Bool.false_eq_true, if_true, if_false, ite_true, ite_false, Nat.zero_add, Nat.reduceAdd, Nat.reduceSub,
    z_gI, z_add, z_lt, z_le, z_int, z_intb, z_ixr, z_ixt, z_ixk, z_ixs, z_ixl, z_asQ, z_asQt, z_asQk, z_asQs, z_asQl, z_asL, z_asLl, z_at0, z_at1, z_at2, z_store, z_i20, z_i21, z_eq, z_ne, z_max2, z_min2, z_addt, z_sl, z_trb, z_trt, z_trk, z_trl, z_trs, List.isEmpty_cons, List.isEmpty_nil, Bool.not_true, Bool.not_false, z_len, z_lenl, z_lenk, z_lenr, z_lens, MS.set_set, MS.set_same]
      exact hq
  · rw [not_list, List.nil_append]
    refine ⟨_, rfl, .inr ⟨_, rfl, RetOk.of (k _ (fun y => ?_) (notL_asc _ _))⟩⟩
    rw [notL_mem]
    constructor
    · rintro ⟨h1, h2⟩
      refine ⟨h1, fun ⟨L, hw⟩ => ?_⟩
      obtain ⟨d, z, _⟩ := hall y L hw
      exact h2 (List.mem_map.mpr ⟨_, z, rfl⟩)
    · rintro ⟨h1, h2⟩
      refine ⟨h1, fun z => ?_⟩
      obtain ⟨⟨a, b⟩, hz, rfl⟩ := List.mem_map.mp z
      exact h2 ⟨b, hps _ hz⟩
theorem parted_specL (F : GF G) {n x : Int} {rs : List (List Int)} {ws : List Lamp} (h : ∀ r ∈ rs, IsRd n r) (hl : rs.length ≤ 100) {j : Nat} (hj : j < rs.length) (hx0 : 0 ≤ x) (hx1 : x < n) (h2 : n ≤ 10)
    (k : Q (.tup ((farL n rs j x).map D.int)) M) : sp_parted G [landV G n rs ws, .int (j : Nat), .int x] M Q R :=
  parted_specC F h hl hj hx0 hx1 h2 fun S hS hA => by rw [asc_same hA (farL_asc n rs j x) fun y => (hS y).trans farL_mem.symm]; exact k
theorem rowsmany_spec42 (F : GF G) {n : Int} {rs : List (List Int)} {ws : List Lamp} (hn : (ws.length : Int) = n) (hok : ∀ w ∈ ws, LampOk w) {S : List Int} (hS : ∀ x ∈ S, 0 ≤ x ∧ x < n) (k : Q (.int (prodM (ws.map (·.1)) S)) M) : sp_rows_many G [landV G n rs ws, .tup (S.map D.int)] M Q R := by
  refine ⟨rfl, ?_⟩
  simp only [T_rows_many, dSeq, dIf, dTest, dBin, dVar, dC, dAsg, dStore, dRet, dB, dCons, dNil, dTup, dLst, dLstM, dDrop, dM, dCall, dCallK, dTru, dNotT, dAndT, dOrT, dAndE, dOrE, dNotE, dIfE, dChain, dChain3, dNeg, dFor, dPar, dSlice, dPart, dNoPart, z_fld, dSetF, dRaise, dRz, dNext, dBreak, dCont, dRetN, dYes, dComp, iSeq, iRange1, iRange2, DL.iZip, DL.iEnum, startD, retD, asg, asgs, asT, gMod, gMul, DL.gSub, gGt, gGe, gFdiv, gPow, wipeD, finF, finM, perm,
    List.map_cons, List.map_nil, List.length_cons, List.length_nil, List.replicate, List.cons_append, List.nil_append, List.getElem?_cons_zero, List.getElem?_cons_succ, List.set, List.getD_cons_zero, List.getD_cons_succ, Option.some.injEq, exists_eq_left', exists_eq_left, D.int.injEq, D.bl.injEq, D.ref.injEq, D.str.injEq, List.cons.injEq, and_true, true_and, exists_and_left, exists_and_right, decide_eq_true_eq, Bool.false_eq_true, if_true, if_false, ite_true, ite_false, Nat.zero_add, Nat.reduceAdd, Nat.reduceSub,
    z_gI, z_add, z_lt, z_le, z_int, z_intb, z_ixr, z_ixt, z_ixk, z_ixs, z_ixl, z_asQ, z_asQt, z_asQk, z_asQs, z_asQl, z_asL, z_asLl, z_at0, z_at1, z_at2, z_store, z_i20, z_i21, z_eq, z_ne, z_max2, z_min2, z_addt, z_sl, z_trb, z_trt, z_trk, z_trl, z_trs, List.isEmpty_cons, List.isEmpty_nil, Bool.not_true, Bool.not_false, z_len, z_lenl, z_lenk, z_lenr, z_lens, MS.set_set, MS.set_same]
  refine for_inv (fun i ρ M' => M' = M ∧ ∃ o3 : Option D, ρ = [some (landV G n rs ws), some (.tup (S.map D.int)), some (.int (prodM (ws.map (·.1)) (S.take i))), o3]) (fun _ _ _ _ => trivial) ?_ ?_ ⟨rfl, none, rfl⟩
  · rintro i d ρ M' hd ⟨rfl, o3, rfl⟩
    rw [List.getElem?_map] at hd
    obtain ⟨x, hx, rfl⟩ := Option.map_eq_some_iff.mp hd
    have hxr := hS x (List.mem_of_getElem? hx)
    refine ⟨_, rfl, fun K hK => ?_⟩
    simp only [dSeq, dIf, dTest, dBin, dVar, dC, dAsg, dStore, dRet, dB, dCons, dNil, dTup, dLst, dLstM, dDrop, dM, dCall, dCallK, dTru, dNotT, dAndT, dOrT, dAndE, dOrE, dNotE, dIfE, dChain, dChain3, dNeg, dFor, dPar, dSlice, dPart, dNoPart, z_fld, dSetF, dRaise, dRz, dNext, dBreak, dCont, dRetN, dYes, dComp, iSeq, iRange1, iRange2, DL.iZip, DL.iEnum, startD, retD, asg, asgs, asT, gMod, gMul, DL.gSub, gGt, gGe, gFdiv, gPow, wipeD, finF, finM, perm,
    List.map_cons, List.map_nil, List.length_cons, List.length_nil, List.replicate, List.cons_append, List.nil_append, List.getElem?_cons_zero, List.getElem?_cons_succ, List.set, List.getD_cons_zero, List.getD_cons_succ, Option.some.injEq, exists_eq_left', exists_eq_left, D.int.injEq, D.bl.injEq, D.ref.injEq, D.str.injEq, List.cons.injEq, and_true, true_and, exists_and_left, exists_and_right, decide_eq_true_eq, Bool.false_eq_true, if_true, if_false, ite_true, ite_false, Nat.zero_add, Nat.reduceAdd, Nat.reduceSub,
    z_gI, z_add, z_lt, z_le, z_int, z_intb, z_ixr, z_ixt, z_ixk, z_ixs, z_ixl, z_asQ, z_asQt, z_asQk, z_asQs, z_asQl, z_asL, z_asLl, z_at0, z_at1, z_at2, z_store, z_i20, z_i21, z_eq, z_ne, z_max2, z_min2, z_addt, z_sl, z_trb, z_trt, z_trk, z_trl, z_trs, List.isEmpty_cons, List.isEmpty_nil, Bool.not_true, Bool.not_false, z_len, z_lenl, z_lenk, z_lenr, z_lens, MS.set_set, MS.set_same]
    refine fl_ll F ?_
    obtain ⟨j, rfl⟩ := Int.eq_ofNat_of_zero_le hxr.1
    have hj : j < ws.length := by omega
    have hj2 : j < (ws.map (webV G)).length := by rw [List.length_map]; exact hj
    refine z_ixt.mpr ⟨_, (at_nat hj2).trans (List.getElem?_eq_getElem hj2), ?_⟩
    rw [List.getElem_map]
    refine fl_wm F ?_
    have hw := hok ws[j] (List.getElem_mem hj)
    refine z_gI.mpr ⟨.inr (by have := hw.1; have := hw.2.1; omega), ?_⟩
    have e : prodM (ws.map (·.1)) (S.take (i + 1)) = prodM (ws.map (·.1)) (S.take i) * (ws[j]).1 := by
      rw [List.take_succ, hx]
      show prodM _ (S.take i ++ [(j : Int)]) = _
      rw [prodM_snoc, Int.toNat_natCast, List.getD_eq_getElem?_getD, List.getElem?_map, List.getElem?_eq_getElem hj]
      rfl
    rw [← e]
    exact hK _ _ ⟨rfl, _, rfl⟩
  · rintro ρ M' ⟨rfl, o3, rfl⟩
    rw [List.length_map, List.take_length]
    simp only [dSeq, dIf, dTest, dBin, dVar, dC, dAsg, dStore, dRet, dB, dCons, dNil, dTup, dLst, dLstM, dDrop, dM, dCall, dCallK, dTru, dNotT, dAndT, dOrT, dAndE, dOrE, dNotE, dIfE, dChain, dChain3, dNeg, dFor, dPar, dSlice, dPart, dNoPart, z_fld, dSetF, dRaise, dRz, dNext, dBreak, dCont, dRetN, dYes, dComp, iSeq, iRange1, iRange2, DL.iZip, DL.iEnum, startD, retD, asg, asgs, asT, gMod, gMul, DL.gSub, gGt, gGe, gFdiv, gPow, wipeD, finF, finM, perm,
    List.map_cons, List.map_nil, List.length_cons, List.length_nil, List.replicate, List.cons_append, List.nil_append, List.getElem?_cons_zero, List.getElem?_cons_succ, List.set, List.getD_cons_zero, List.getD_cons_succ, Option.some.injEq, exists_eq_left', exists_eq_left, D.int.injEq, D.bl.injEq, D.ref.injEq, D.str.injEq, List.cons.injEq, and_true, true_and, exists_and_left, exists_and_right, decide_eq_true_eq, Bool.false_eq_true, if_true, if_false, ite_true, ite_false, Nat.zero_add, Nat.reduceAdd, Nat.reduceSub,
    z_gI, z_add, z_lt, z_le, z_int, z_intb, z_ixr, z_ixt, z_ixk, z_ixs, z_ixl, z_asQ, z_asQt, z_asQk, z_asQs, z_asQl, z_asL, z_asLl, z_at0, z_at1, z_at2, z_store, z_i20, z_i21, z_eq, z_ne, z_max2, z_min2, z_addt, z_sl, z_trb, z_trt, z_trk, z_trl, z_trs, List.isEmpty_cons, List.isEmpty_nil, Bool.not_true, Bool.not_false, z_len, z_lenl, z_lenk, z_lenr, z_lens, MS.set_set, MS.set_same]
    exact RetOk.of k
theorem statesmany_spec42 (F : GF G) {n : Int} {rs : List (List Int)} {ws : List Lamp} (hn : (ws.length : Int) = n) (h10 : n ≤ 10) (hok : ∀ w ∈ ws, LampOk w) (k : Q (.int (n * prodM (ws.map (·.1)) ((List.range n.toNat).map fun i : Nat => (i : Int)))) M) : sp_states_many G [landV G n rs ws] M Q R := by
  refine ⟨rfl, ?_⟩
  simp only [T_states_many, dSeq, dIf, dTest, dBin, dVar, dC, dAsg, dStore, dRet, dB, dCons, dNil, dTup, dLst, dLstM, dDrop, dM, dCall, dCallK, dTru, dNotT, dAndT, dOrT, dAndE, dOrE, dNotE, dIfE, dChain, dChain3, dNeg, dFor, dPar, dSlice, dPart, dNoPart, z_fld, dSetF, dRaise, dRz, dNext, dBreak, dCont, dRetN, dYes, dComp, iSeq, iRange1, iRange2, DL.iZip, DL.iEnum, startD, retD, asg, asgs, asT, gMod, gMul, DL.gSub, gGt, gGe, gFdiv, gPow, wipeD, finF, finM, perm,
    List.map_cons, List.map_nil, List.length_cons, List.length_nil, List.replicate, List.cons_append, List.nil_append, List.getElem?_cons_zero, List.getElem?_cons_succ, List.set, List.getD_cons_zero, List.getD_cons_succ, Option.some.injEq, exists_eq_left', exists_eq_left, D.int.injEq, D.bl.injEq, D.ref.injEq, D.str.injEq, List.cons.injEq, and_true, true_and, exists_and_left, exists_and_right, decide_eq_true_eq, Bool.false_eq_true, if_true, if_false, ite_true, ite_false, Nat.zero_add, Nat.reduceAdd, Nat.reduceSub,
    z_gI, z_add, z_lt, z_le, z_int, z_intb, z_ixr, z_ixt, z_ixk, z_ixs, z_ixl, z_asQ, z_asQt, z_asQk, z_asQs, z_asQl, z_asL, z_asLl, z_at0, z_at1, z_at2, z_store, z_i20, z_i21, z_eq, z_ne, z_max2, z_min2, z_addt, z_sl, z_trb, z_trt, z_trk, z_trl, z_trs, List.isEmpty_cons, List.isEmpty_nil, Bool.not_true, Bool.not_false, z_len, z_lenl, z_lenk, z_lenr, z_lens, MS.set_set, MS.set_same]
  refine fl_lm F ?_
  simp only [dTupRg1, dSeq, dIf, dTest, dBin, dVar, dC, dAsg, dStore, dRet, dB, dCons, dNil, dTup, dLst, dLstM, dDrop, dM, dCall, dCallK, dTru, dNotT, dAndT, dOrT, dAndE, dOrE, dNotE, dIfE, dChain, dChain3, dNeg, dFor, dPar, dSlice, dPart, dNoPart, z_fld, dSetF, dRaise, dRz, dNext, dBreak, dCont, dRetN, dYes, dComp, iSeq, iRange1, iRange2, DL.iZip, DL.iEnum, startD, retD, asg, asgs, asT, gMod, gMul, DL.gSub, gGt, gGe, gFdiv, gPow, wipeD, finF, finM, perm,
    List.map_cons, List.map_nil, List.length_cons, List.length_nil, List.replicate, List.cons_append, List.nil_append, List.getElem?_cons_zero, List.getElem?_cons_succ, List.set, List.getD_cons_zero, List.getD_cons_succ, Option.some.injEq, exists_eq_left', exists_eq_left, D.int.injEq, D.bl.injEq, D.ref.injEq, D.str.injEq, List.cons.injEq, and_true, true_and, exists_and_left, exists_and_right, decide_eq_true_eq, Bool.false_eq_true, if_true, if_false, ite_true, ite_false, Nat.zero_add, Nat.reduceAdd, Nat.reduceSub,
    z_gI, z_add, z_lt, z_le, z_int, z_intb, z_ixr, z_ixt, z_ixk, z_ixs, z_ixl, z_asQ, z_asQt, z_asQk, z_asQs, z_asQl, z_asL, z_asLl, z_at0, z_at1, z_at2, z_store, z_i20, z_i21, z_eq, z_ne, z_max2, z_min2, z_addt, z_sl, z_trb, z_trt, z_trk, z_trl, z_trs, List.isEmpty_cons, List.isEmpty_nil, Bool.not_true, Bool.not_false, z_len, z_lenl, z_lenk, z_lenr, z_lens, MS.set_set, MS.set_same]
  refine fl_lm F ⟨_, rfl, RgOk.of_le (by omega) (by omega) (by omega) (by omega), ?_⟩
  have e : rangeD 0 n.toNat = ((List.range n.toNat).map fun i : Nat => (i : Int)).map D.int := by
    unfold rangeD
    rw [List.map_map]
    refine List.map_congr_left fun i _ => ?_
    show D.int _ = D.int _
    rw [Int.zero_add]
  rw [e]
  refine rowsmany_spec42 F hn hok (fun x hx => ?_) ?_
  · obtain ⟨i, hi, rfl⟩ := List.mem_map.mp hx
    have := List.mem_range.mp hi
    omega
  · exact z_gI.mpr ⟨.inl (by omega), RetOk.of k⟩
end LW

set_option Elab.async false
set_option maxRecDepth 100000
set_option maxHeartbeats 4000000
/-! k42: shares -/
namespace DL
open PySem PySem.Spec L2
/-- a share in lowest terms -/
def shD (c d : Int) : D := .tup [.int (c / ((Nat.gcd c.natAbs d.natAbs : Nat) : Int)), .int (d / ((Nat.gcd c.natAbs d.natAbs : Nat) : Int))]
/-- the shares of three counts, none of 0 -/
def shL (c0 c1 c2 : Int) : List D := (([(0, c0), (1, c1), (2, c2)] : List (Int × Int)).filter fun p => decide (p.2 ≠ 0)).map fun p => .tup [.int p.1, shD p.2 ([c0, c1, c2] : List Int).sum]
end DL
namespace LW
open PySem PySem.Spec L2 DL
variable {G : GEnv} {M : MS} {Q : QD} {R : RK}
theorem share_spec {c d : Int} (hd : 0 < d) (hd2 : d < 1073741824) (k : Q (shD c d) M) : sp_share G [.int c, .int d] M Q R := by
  refine ⟨rfl, ?_⟩
  simp only [T_share, dSeq, dIf, dTest, dBin, dVar, dC, dAsg, dStore, dRet, dB, dCons, dNil, dTup, dLst, dLstM, dDrop, dM, dCall, dCallK, dTru, dNotT, dAndT, dOrT, dAndE, dOrE, dNotE, dIfE, dChain, dChain3, dNeg, dFor, dPar, dSlice, dPart, dNoPart, z_fld, dSetF, dRaise, dRz, dNext, dBreak, dCont, dRetN, dYes, dComp, iSeq, iRange1, iRange2, DL.iZip, DL.iEnum, startD, retD, asg, asgs, asT, gMod, gMul, DL.gSub, gGt, gGe, gFdiv, gPow, wipeD, finF, finM, perm,
    List.map_cons, List.map_nil, List.length_cons, List.length_nil, List.replicate, List.cons_append, List.nil_append, List.getElem?_cons_zero, List.getElem?_cons_succ, List.set, List.getD_cons_zero, List.getD_cons_succ, Option.some.injEq, exists_eq_left', exists_eq_left, D.int.injEq, D.bl.injEq, D.ref.injEq, D.str.injEq, List.cons.injEq, and_true, true_and, exists_and_left, exists_and_right, decide_eq_true_eq, Bool.false_eq_true, if_true, if_false, ite_true, ite_false, Nat.zero_add, Nat.reduceAdd, Nat.reduceSub,
    z_gI, z_add, z_lt, z_le, z_int, z_intb, z_ixr, z_ixt, z_ixk, z_ixs, z_ixl, z_asQ, z_asQt, z_asQk, z_asQs, z_asQl, z_asL, z_asLl, z_at0, z_at1, z_at2, z_store, z_i20, z_i21, z_eq, z_ne, z_max2, z_min2, z_addt, z_sl, z_trb, z_trt, z_trk, z_trl, z_trs, List.isEmpty_cons, List.isEmpty_nil, Bool.not_true, Bool.not_false, z_len, z_lenl, z_lenk, z_lenr, z_lens, MS.set_set, MS.set_same]
  rw [if_neg (by omega)]
  refine ⟨_, _, rfl, ?_⟩
  have g0 : 0 < Nat.gcd c.natAbs d.natAbs := Nat.gcd_pos_of_pos_right _ (by omega)
  have g1 : Nat.gcd c.natAbs d.natAbs ≤ d.natAbs := Nat.le_of_dvd (by omega) (Nat.gcd_dvd_right _ _)
  dsimp only
  rw [if_neg (by omega)]
  exact z_gI.mpr ⟨⟨by omega, by omega⟩, z_gI.mpr ⟨⟨by omega, by omega⟩, by decide, RetOk.of k⟩⟩
theorem shares_spec {c0 c1 c2 : Int} (h0 : 0 < c0 + c1 + c2) (h1 : c0 + c1 + c2 < 1073741824) (k : Q (.tup (shL c0 c1 c2)) M) : sp__shares G [.tup [.int c0, .int c1, .int c2]] M Q R := by
  have hs : ([c0, c1, c2] : List Int).sum = c0 + c1 + c2 := by simp [List.sum_cons]; omega
  refine ⟨rfl, ?_⟩
  simp only [T__shares, dSeq, dIf, dTest, dBin, dVar, dC, dAsg, dStore, dRet, dB, dCons, dNil, dTup, dLst, dLstM, dDrop, dM, dCall, dCallK, dTru, dNotT, dAndT, dOrT, dAndE, dOrE, dNotE, dIfE, dChain, dChain3, dNeg, dFor, dPar, dSlice, dPart, dNoPart, z_fld, dSetF, dRaise, dRz, dNext, dBreak, dCont, dRetN, dYes, dComp, iSeq, iRange1, iRange2, DL.iZip, DL.iEnum, startD, retD, asg, asgs, asT, gMod, gMul, DL.gSub, gGt, gGe, gFdiv, gPow, wipeD, finF, finM, perm,
    List.map_cons, List.map_nil, List.length_cons, List.length_nil, List.replicate, List.cons_append, List.nil_append, List.getElem?_cons_zero, List.getElem?_cons_succ, List.set, List.getD_cons_zero, List.getD_cons_succ, Option.some.injEq, exists_eq_left', exists_eq_left, D.int.injEq, D.bl.injEq, D.ref.injEq, D.str.injEq, List.cons.injEq, and_true, true_and, exists_and_left, exists_and_right, decide_eq_true_eq, Bool.false_eq_true, if_true, if_false, ite_true, ite_false, Nat.zero_add, Nat.reduceAdd, Nat.reduceSub,
    z_gI, z_add, z_lt, z_le, z_int, z_intb, z_ixr, z_ixt, z_ixk, z_ixs, z_ixl, z_asQ, z_asQt, z_asQk, z_asQs, z_asQl, z_asL, z_asLl, z_at0, z_at1, z_at2, z_store, z_i20, z_i21, z_eq, z_ne, z_max2, z_min2, z_addt, z_sl, z_trb, z_trt, z_trk, z_trl, z_trs, List.isEmpty_cons, List.isEmpty_nil, Bool.not_true, Bool.not_false, z_len, z_lenl, z_lenk, z_lenr, z_lens, MS.set_set, MS.set_same]
  refine DL.comp_map (fun d => match d with | .tup [_, .int c] => decide (c ≠ 0) | _ => false) (fun d => match d with | .tup [t, .int c] => .tup [t, shD c ([c0, c1, c2] : List Int).sum] | d => d) ?_ _ [] (fun d hd => ?_) (by simp [enumD]) ?_
  · first | exact trivial | exact rfl
  · have hz : ∃ t c : Int, d = .tup [.int t, .int c] := by
      simp only [enumD, List.mem_cons, List.not_mem_nil, or_false] at hd
      rcases hd with rfl | rfl | rfl
      · exact ⟨_, _, rfl⟩
      · exact ⟨_, _, rfl⟩
      · exact ⟨_, _, rfl⟩
    obtain ⟨t, c, rfl⟩ := hz
    refine ⟨_, rfl, fun Q' hq => ?_, fun hc Q' hq => ?_⟩
    · simp only [dSeq, dIf, dTest, dBin, dVar, dC, dAsg, dStore, dRet, dB, dCons, dNil, dTup, dLst, dLstM, dDrop, dM, dCall, dCallK, dTru, dNotT, dAndT, dOrT, dAndE, dOrE, dNotE, dIfE, dChain, dChain3, dNeg, dFor, dPar, dSlice, dPart, dNoPart, z_fld, dSetF, dRaise, dRz, dNext, dBreak, dCont, dRetN, dYes, dComp, iSeq, iRange1, iRange2, DL.iZip, DL.iEnum, startD, retD, asg, asgs, asT, gMod, gMul, DL.gSub, gGt, gGe, gFdiv, gPow, wipeD, finF, finM, perm,
    List.map_cons, List.map_nil, List.length_cons, List.length_nil, List.replicate, List.cons_append, List.nil_append, List.getElem?_cons_zero, List.getElem?_cons_succ, List.set, List.getD_cons_zero, List.getD_cons_succ, Option.some.injEq, exists_eq_left', exists_eq_left, D.int.injEq, D.bl.injEq, D.ref.injEq, D.str.injEq, List.cons.injEq, and_true, true_and, exists_and_left, exists_and_right, decide_eq_true_eq, Bool.false_eq_true, if_true, if_false, ite_true, ite_false, Nat.zero_add, Nat.reduceAdd, Nat.reduceSub,
    z_gI, z_add, z_lt, z_le, z_int, z_intb, z_ixr, z_ixt, z_ixk, z_ixs, z_ixl, z_asQ, z_asQt, z_asQk, z_asQs, z_asQl, z_asL, z_asLl, z_at0, z_at1, z_at2, z_store, z_i20, z_i21, z_eq, z_ne, z_max2, z_min2, z_addt, z_sl, z_trb, z_trt, z_trk, z_trl, z_trs, List.isEmpty_cons, List.isEmpty_nil, Bool.not_true, Bool.not_false, z_len, z_lenl, z_lenk, z_lenr, z_lens, MS.set_set, MS.set_same]
      have e : (!decide (c = 0)) = decide (c ≠ 0) := by simp
      rw [e]; exact hq
    · simp only [dSeq, dIf, dTest, dBin, dVar, dC, dAsg, dStore, dRet, dB, dCons, dNil, dTup, dLst, dLstM, dDrop, dM, dCall, dCallK, dTru, dNotT, dAndT, dOrT, dAndE, dOrE, dNotE, dIfE, dChain, dChain3, dNeg, dFor, dPar, dSlice, dPart, dNoPart, z_fld, dSetF, dRaise, dRz, dNext, dBreak, dCont, dRetN, dYes, dComp, iSeq, iRange1, iRange2, DL.iZip, DL.iEnum, startD, retD, asg, asgs, asT, gMod, gMul, DL.gSub, gGt, gGe, gFdiv, gPow, wipeD, finF, finM, perm,
    List.map_cons, List.map_nil, List.length_cons, List.length_nil, List.replicate, List.cons_append, List.nil_append, List.getElem?_cons_zero, List.getElem?_cons_succ, List.set, List.getD_cons_zero, List.getD_cons_succ, Option.some.injEq, exists_eq_left', exists_eq_left, D.int.injEq, D.bl.injEq, D.ref.injEq, D.str.injEq, List.cons.injEq, and_true, true_and, exists_and_left, exists_and_right, decide_eq_true_eq, Bool.false_eq_true, if_true, if_false, ite_true, ite_false, Nat.zero_add, Nat.reduceAdd, Nat.reduceSub,
    z_gI, z_add, z_lt, z_le, z_int, z_intb, z_ixr, z_ixt, z_ixk, z_ixs, z_ixl, z_asQ, z_asQt, z_asQk, z_asQs, z_asQl, z_asL, z_asLl, z_at0, z_at1, z_at2, z_store, z_i20, z_i21, z_eq, z_ne, z_max2, z_min2, z_addt, z_sl, z_trb, z_trt, z_trk, z_trl, z_trs, List.isEmpty_cons, List.isEmpty_nil, Bool.not_true, Bool.not_false, z_len, z_lenl, z_lenk, z_lenr, z_lens, MS.set_set, MS.set_same]
      refine ⟨_, _, _, rfl, rfl, rfl, ?_⟩
      refine share_spec (by omega) (by omega) ?_
      exact ⟨by decide, hq⟩
  · have e : [] ++ ((enumD 0 [D.int c0, D.int c1, D.int c2]).filter fun d => match d with | .tup [_, .int c] => decide (c ≠ 0) | _ => false).map (fun d => match d with | .tup [t, .int c] => .tup [t, shD c ([c0, c1, c2] : List Int).sum] | d => d) = shL c0 c1 c2 := by
      unfold shL
      rw [List.nil_append]
      show List.map _ (List.filter _ (([(0, c0), (1, c1), (2, c2)] : List (Int × Int)).map fun p => D.tup [.int p.1, .int p.2])) = _
      rw [List.filter_map, List.map_map]
      rfl
    rw [e]
    exact ⟨_, rfl, .inr ⟨_, rfl, RetOk.of k⟩⟩
end LW

set_option Elab.async false
set_option maxRecDepth 100000
set_option maxHeartbeats 4000000
/-! k42: what the program tells of a road -/
namespace DL
open PySem PySem.Spec L2
abbrev rng (n : Int) : List Int := (List.range n.toNat).map fun i : Nat => (i : Int)
/-- how many rows; how many are the same beyond a road; the three counts -/
def allW (n : Int) (ws : List Lamp) : Int := prodM (ws.map (·.1)) (rng n)
noncomputable def nearW (n : Int) (rs : List (List Int)) (ws : List Lamp) (j : Nat) (x : Int) : Int := pI (fun i => if farB rs j x i = true then 1 else (ws.map (·.1)).getD i 0) n.toNat
noncomputable def c0S (n : Int) (rs : List (List Int)) (ws : List Lamp) (j : Nat) (x : Int) : Int := (n - (farL n rs j x).length) * nearW n rs ws j x
noncomputable def c1S (n : Int) (rs : List (List Int)) (ws : List Lamp) (j : Nat) (x : Int) : Int := (farL n rs j x).length * allW n ws
noncomputable def c2S (n : Int) (rs : List (List Int)) (ws : List Lamp) (j : Nat) (x : Int) : Int := n * allW n ws - c0S n rs ws j x - c1S n rs ws j x
section
variable {n : Int} {rs : List (List Int)} {ws : List Lamp} (hn : (ws.length : Int) = n) (hok : ∀ w ∈ ws, LampOk w)
include hn hok
theorem pos_at {i : Nat} (h : i < n.toNat) : 1 ≤ (ws.map (·.1)).getD i 0 := by
  have hi : i < ws.length := by omega
  rw [List.getD_eq_getElem?_getD, List.getElem?_map, List.getElem?_eq_getElem hi]
  exact (hok _ (List.getElem_mem hi)).1
theorem allW_eq : allW n ws = pI (fun i => (ws.map (·.1)).getD i 0) n.toNat := by
  have := prodM_rng (ws.map (·.1)) (fun _ => true) n.toNat
  rw [List.filter_eq_self.mpr fun _ _ => rfl] at this
  unfold allW rng
  rw [this]
  exact pI_congr fun i _ => if_pos rfl
theorem split_eq (j : Nat) (x : Int) : allW n ws = nearW n rs ws j x * prodM (ws.map (·.1)) (farL n rs j x) ∧ 1 ≤ nearW n rs ws j x ∧ 1 ≤ prodM (ws.map (·.1)) (farL n rs j x) := by
  have e := prodM_rng (ws.map (·.1)) (farB rs j x) n.toNat
  have hp := fun i (h : i < n.toNat) => pos_at hn hok h
  refine ⟨?_, ?_, ?_⟩
  · rw [allW_eq hn hok]
    unfold farL nearW
    rw [e, ← pI_mul]
    exact pI_congr fun i _ => by split <;> omega
  · exact pI_pos fun i hi => by
      split
      · exact Int.le_refl _
      · exact hp i hi
  · unfold farL
    rw [e]
    exact pI_pos fun i hi => by
      split
      · exact hp i hi
      · exact Int.le_refl _
theorem far_le {j : Nat} {x : Int} (h1 : 1 ≤ n) : ((farL n rs j x).length : Int) ≤ n := by
  unfold farL
  rw [List.length_map]
  have := List.length_filter_le (farB rs j x) (List.range n.toNat)
  rw [List.length_range] at this
  omega
end
end DL
namespace LW
open PySem PySem.Spec L2 DL
variable {G : GEnv} {M : MS} {Q : QD} {R : RK}
theorem crosscounts_spec (F : GF G) {n : Int} {rs : List (List Int)} {ws : List Lamp} (hL : LandOk n rs ws) (hW : n * allW n ws ≤ 1000000) {j : Nat} (hj : j < rs.length) {x : Int} (hx : 0 ≤ x ∧ x < n)
    (k : Q (.tup [.int (c0S n rs ws j x), .int (c1S n rs ws j x), .int (c2S n rs ws j x)]) M) : sp_crossing_counts G [landV G n rs ws, .int x, .int (j : Nat)] M Q R := by
  have h10 := hL.hi
  have h1 := hL.lo
  have hn := hL.all
  have hf := hL.few
  obtain ⟨s1, s2, s3⟩ := split_eq (rs := rs) hn hL.ok j x
  have hfl := far_le (rs := rs) (j := j) (x := x) hn hL.ok h1
  refine ⟨rfl, ?_⟩
  simp only [T_crossing_counts, dSeq, dIf, dTest, dBin, dVar, dC, dAsg, dStore, dRet, dB, dCons, dNil, dTup, dLst, dLstM, dDrop, dM, dCall, dCallK, dTru, dNotT, dAndT, dOrT, dAndE, dOrE, dNotE, dIfE, dChain, dChain3, dNeg, dFor, dPar, dSlice, dPart, dNoPart, z_fld, dSetF, dRaise, dRz, dNext, dBreak, dCont, dRetN, dYes, dComp, iSeq, iRange1, iRange2, DL.iZip, DL.iEnum, startD, retD, asg, asgs, asT, gMod, gMul, DL.gSub, gGt, gGe, gFdiv, gPow, wipeD, finF, finM, perm,
    List.map_cons, List.map_nil, List.length_cons, List.length_nil, List.replicate, List.cons_append, List.nil_append, List.getElem?_cons_zero, List.getElem?_cons_succ, List.set, List.getD_cons_zero, List.getD_cons_succ, Option.some.injEq, exists_eq_left', exists_eq_left, D.int.injEq, D.bl.injEq, D.ref.injEq, D.str.injEq, List.cons.injEq, and_true, true_and, exists_and_left, exists_and_right, decide_eq_true_eq, Bool.false_eq_true, if_true, if_false, ite_true, ite_false, Nat.zero_add, Nat.reduceAdd, Nat.reduceSub,
    z_gI, z_add, z_lt, z_le, z_int, z_intb, z_ixr, z_ixt, z_ixk, z_ixs, z_ixl, z_asQ, z_asQt, z_asQk, z_asQs, z_asQl, z_asL, z_asLl, z_at0, z_at1, z_at2, z_store, z_i20, z_i21, z_eq, z_ne, z_max2, z_min2, z_addt, z_sl, z_trb, z_trt, z_trk, z_trl, z_trs, List.isEmpty_cons, List.isEmpty_nil, Bool.not_true, Bool.not_false, z_len, z_lenl, z_lenk, z_lenr, z_lens, MS.set_set, MS.set_same]
  refine parted_specL F hL.rd.rd (by omega) hj hx.1 hx.2 h10 ?_
  refine statesmany_spec42 F hn h10 hL.ok ?_
  refine fl_lm F ?_
  refine z_len.mpr ?_
  rw [List.length_map]
  refine z_gI.mpr ⟨trivial, fl_lm F (z_gI.mpr ⟨⟨by omega, by omega⟩, ?_⟩)⟩
  have eW : prodM (ws.map (·.1)) ((List.range n.toNat).map fun i : Nat => (i : Int)) = allW n ws := rfl
  have e1 : n * allW n ws / n = allW n ws := Int.mul_ediv_cancel_left _ (by omega)
  have e2 : allW n ws / prodM (ws.map (·.1)) (farL n rs j x) = nearW n rs ws j x := by
    rw [s1]; exact Int.mul_ediv_cancel _ (by omega)
  have b1 : prodM (ws.map (·.1)) (farL n rs j x) ≤ allW n ws := by
    rw [s1]
    have := Int.mul_le_mul_of_nonneg_right s2 (show 0 ≤ prodM (ws.map (·.1)) (farL n rs j x) by omega)
    omega
  have b2 : allW n ws ≤ n * allW n ws := by
    have := Int.mul_le_mul_of_nonneg_right h1 (show 0 ≤ allW n ws by omega)
    omega
  rw [eW, e1]
  refine rowsmany_spec42 F hn hL.ok (fun y hy => (farL_mem.mp hy).1) ?_
  refine z_gI.mpr ⟨⟨by omega, by omega⟩, ?_⟩
  rw [e2]
  refine z_gI.mpr ⟨.inl (by omega), z_len.mpr ?_⟩
  rw [List.length_map]
  refine fl_lm F (z_gI.mpr ⟨⟨by omega, by omega⟩, ?_⟩)
  rw [e1]
  refine z_gI.mpr ⟨.inl (by omega), z_gI.mpr ⟨trivial, z_gI.mpr ⟨trivial, by decide, RetOk.of ?_⟩⟩⟩
  exact k
/-- what is asked of the text's errors -/
structure GR (G : GEnv) : Prop where
  e60 : G.exm (G.cls 6) (G.cls 0) = some true
  e20 : G.exm (G.cls 2) (G.cls 0) = some true
  x2 : G.isExc (G.cls 2)
  x6 : G.isExc (G.cls 6)
  k66 : G.kit (.ref (G.cls 6)) (.ref (G.cls 6)) = some true
  k62 : G.kit (.ref (G.cls 6)) (.ref (G.cls 2)) = some false
  k26 : G.kit (.ref (G.cls 2)) (.ref (G.cls 6)) = some false
  k22 : G.kit (.ref (G.cls 2)) (.ref (G.cls 2)) = some true
theorem checkroad_ok (F : GF G) {n : Int} {rs : List (List Int)} {ws : List Lamp} {j : Nat} (hj : j < rs.length) (k : Q .non M) : sp_check_road G [landV G n rs ws, .int (j : Nat)] M Q R := by
  refine ⟨rfl, ?_⟩
  simp only [T_check_road, dSeq, dIf, dTest, dBin, dVar, dC, dAsg, dStore, dRet, dB, dCons, dNil, dTup, dLst, dLstM, dDrop, dM, dCall, dCallK, dTru, dNotT, dAndT, dOrT, dAndE, dOrE, dNotE, dIfE, dChain, dChain3, dNeg, dFor, dPar, dSlice, dPart, dNoPart, z_fld, dSetF, dRaise, dRz, dNext, dBreak, dCont, dRetN, dYes, dComp, iSeq, iRange1, iRange2, DL.iZip, DL.iEnum, startD, retD, asg, asgs, asT, gMod, gMul, DL.gSub, gGt, gGe, gFdiv, gPow, wipeD, finF, finM, perm,
    List.map_cons, List.map_nil, List.length_cons, List.length_nil, List.replicate, List.cons_append, List.nil_append, List.getElem?_cons_zero, List.getElem?_cons_succ, List.set, List.getD_cons_zero, List.getD_cons_succ, Option.some.injEq, exists_eq_left', exists_eq_left, D.int.injEq, D.bl.injEq, D.ref.injEq, D.str.injEq, List.cons.injEq, and_true, true_and, exists_and_left, exists_and_right, decide_eq_true_eq, Bool.false_eq_true, if_true, if_false, ite_true, ite_false, Nat.zero_add, Nat.reduceAdd, Nat.reduceSub,
    z_gI, z_add, z_lt, z_le, z_int, z_intb, z_ixr, z_ixt, z_ixk, z_ixs, z_ixl, z_asQ, z_asQt, z_asQk, z_asQs, z_asQl, z_asL, z_asLl, z_at0, z_at1, z_at2, z_store, z_i20, z_i21, z_eq, z_ne, z_max2, z_min2, z_addt, z_sl, z_trb, z_trt, z_trk, z_trl, z_trs, List.isEmpty_cons, List.isEmpty_nil, Bool.not_true, Bool.not_false, z_len, z_lenl, z_lenk, z_lenr, z_lens, MS.set_set, MS.set_same]
  rw [if_pos (by omega)]
  refine fl_lr F (z_len.mpr ?_)
  rw [List.length_map]
  refine z_lt.mpr ⟨_, rfl, ?_⟩
  rw [decide_eq_true (by omega)]
  exact RetOk.of k
theorem checkroad_bad (F : GF G) {n : Int} {rs : List (List Int)} {ws : List Lamp} {road : Int} (h : ¬ (0 ≤ road ∧ road < rs.length)) (k : R (G.cls 2) (.int road) M) : sp_check_road G [landV G n rs ws, .int road] M Q R := by
  refine ⟨rfl, ?_⟩
  simp only [T_check_road, dSeq, dIf, dTest, dBin, dVar, dC, dAsg, dStore, dRet, dB, dCons, dNil, dTup, dLst, dLstM, dDrop, dM, dCall, dCallK, dTru, dNotT, dAndT, dOrT, dAndE, dOrE, dNotE, dIfE, dChain, dChain3, dNeg, dFor, dPar, dSlice, dPart, dNoPart, z_fld, dSetF, dRaise, dRz, dNext, dBreak, dCont, dRetN, dYes, dComp, iSeq, iRange1, iRange2, DL.iZip, DL.iEnum, startD, retD, asg, asgs, asT, gMod, gMul, DL.gSub, gGt, gGe, gFdiv, gPow, wipeD, finF, finM, perm,
    List.map_cons, List.map_nil, List.length_cons, List.length_nil, List.replicate, List.cons_append, List.nil_append, List.getElem?_cons_zero, List.getElem?_cons_succ, List.set, List.getD_cons_zero, List.getD_cons_succ, Option.some.injEq, exists_eq_left', exists_eq_left, D.int.injEq, D.bl.injEq, D.ref.injEq, D.str.injEq, List.cons.injEq, and_true, true_and, exists_and_left, exists_and_right, decide_eq_true_eq, Bool.false_eq_true, if_true, if_false, ite_true, ite_false, Nat.zero_add, Nat.reduceAdd, Nat.reduceSub,
    z_gI, z_add, z_lt, z_le, z_int, z_intb, z_ixr, z_ixt, z_ixk, z_ixs, z_ixl, z_asQ, z_asQt, z_asQk, z_asQs, z_asQl, z_asL, z_asLl, z_at0, z_at1, z_at2, z_store, z_i20, z_i21, z_eq, z_ne, z_max2, z_min2, z_addt, z_sl, z_trb, z_trt, z_trk, z_trl, z_trs, List.isEmpty_cons, List.isEmpty_nil, Bool.not_true, Bool.not_false, z_len, z_lenl, z_lenk, z_lenr, z_lens, MS.set_set, MS.set_same]
  by_cases h0 : 0 ≤ road
  · rw [if_pos h0]
    refine fl_lr F (z_len.mpr ?_)
    rw [List.length_map]
    refine z_lt.mpr ⟨_, rfl, ?_⟩
    rw [decide_eq_false (by omega)]
    exact RetX.of k
  · rw [if_neg h0]
    exact RetX.of k
section
variable (F : GF G) {n : Int} {rs : List (List Int)} {ws : List Lamp} (hL : LandOk n rs ws) (htr : (rs.length : Int) = n - 1)
include F hL htr
theorem told42 (hW : n * allW n ws ≤ 1000000) {pa : Int} {ra : List Int} (hpa : 0 ≤ pa ∧ pa < n) (ha : RowOk ws ra) {j : Nat} (hj : j < rs.length)
    (k : Q (.tup (shL (c0S n rs ws j pa) (c1S n rs ws j pa) (c2S n rs ws j pa))) M) : sp__law_told G [landV G n rs ws, stD pa ra, .int (j : Nat)] M Q R := by
  have h10 := hL.hi
  have h1 := hL.lo
  have hn := hL.all
  have la := ha.1
  obtain ⟨s1, s2, s3⟩ := split_eq (rs := rs) hn hL.ok j pa
  have b2 : 1 ≤ allW n ws := by
    rw [s1]
    have := Int.mul_le_mul s2 s3 (by decide) (by omega)
    omega
  have b3 : 1 ≤ n * allW n ws := by
    have := Int.mul_le_mul h1 b2 (by decide) (by omega)
    omega
  refine ⟨rfl, ?_⟩
  simp only [T__law_told, dTry, dSeq, dIf, dTest, dBin, dVar, dC, dAsg, dStore, dRet, dB, dCons, dNil, dTup, dLst, dLstM, dDrop, dM, dCall, dCallK, dTru, dNotT, dAndT, dOrT, dAndE, dOrE, dNotE, dIfE, dChain, dChain3, dNeg, dFor, dPar, dSlice, dPart, dNoPart, z_fld, dSetF, dRaise, dRz, dNext, dBreak, dCont, dRetN, dYes, dComp, iSeq, iRange1, iRange2, DL.iZip, DL.iEnum, startD, retD, asg, asgs, asT, gMod, gMul, DL.gSub, gGt, gGe, gFdiv, gPow, wipeD, finF, finM, perm,
    List.map_cons, List.map_nil, List.length_cons, List.length_nil, List.replicate, List.cons_append, List.nil_append, List.getElem?_cons_zero, List.getElem?_cons_succ, List.set, List.getD_cons_zero, List.getD_cons_succ, Option.some.injEq, exists_eq_left', exists_eq_left, D.int.injEq, D.bl.injEq, D.ref.injEq, D.str.injEq, List.cons.injEq, and_true, true_and, exists_and_left, exists_and_right, decide_eq_true_eq, Bool.false_eq_true, if_true, if_false, ite_true, ite_false, Nat.zero_add, Nat.reduceAdd, Nat.reduceSub,
    z_gI, z_add, z_lt, z_le, z_int, z_intb, z_ixr, z_ixt, z_ixk, z_ixs, z_ixl, z_asQ, z_asQt, z_asQk, z_asQs, z_asQl, z_asL, z_asLl, z_at0, z_at1, z_at2, z_store, z_i20, z_i21, z_eq, z_ne, z_max2, z_min2, z_addt, z_sl, z_trb, z_trt, z_trk, z_trl, z_trs, List.isEmpty_cons, List.isEmpty_nil, Bool.not_true, Bool.not_false, z_len, z_lenl, z_lenk, z_lenr, z_lens, MS.set_set, MS.set_same]
  refine ⟨rfl, ?_⟩
  simp only [T_road_shares, dSeq, dIf, dTest, dBin, dVar, dC, dAsg, dStore, dRet, dB, dCons, dNil, dTup, dLst, dLstM, dDrop, dM, dCall, dCallK, dTru, dNotT, dAndT, dOrT, dAndE, dOrE, dNotE, dIfE, dChain, dChain3, dNeg, dFor, dPar, dSlice, dPart, dNoPart, z_fld, dSetF, dRaise, dRz, dNext, dBreak, dCont, dRetN, dYes, dComp, iSeq, iRange1, iRange2, DL.iZip, DL.iEnum, startD, retD, asg, asgs, asT, gMod, gMul, DL.gSub, gGt, gGe, gFdiv, gPow, wipeD, finF, finM, perm,
    List.map_cons, List.map_nil, List.length_cons, List.length_nil, List.replicate, List.cons_append, List.nil_append, List.getElem?_cons_zero, List.getElem?_cons_succ, List.set, List.getD_cons_zero, List.getD_cons_succ, Option.some.injEq, exists_eq_left', exists_eq_left, D.int.injEq, D.bl.injEq, D.ref.injEq, D.str.injEq, List.cons.injEq, and_true, true_and, exists_and_left, exists_and_right, decide_eq_true_eq, Bool.false_eq_true, if_true, if_false, ite_true, ite_false, Nat.zero_add, Nat.reduceAdd, Nat.reduceSub,
    z_gI, z_add, z_lt, z_le, z_int, z_intb, z_ixr, z_ixt, z_ixk, z_ixs, z_ixl, z_asQ, z_asQt, z_asQk, z_asQs, z_asQl, z_asL, z_asLl, z_at0, z_at1, z_at2, z_store, z_i20, z_i21, z_eq, z_ne, z_max2, z_min2, z_addt, z_sl, z_trb, z_trt, z_trk, z_trl, z_trs, List.isEmpty_cons, List.isEmpty_nil, Bool.not_true, Bool.not_false, z_len, z_lenl, z_lenk, z_lenr, z_lens, MS.set_set, MS.set_same]
  refine tree_ok F htr ?_
  refine state_check F hn (by omega) ?_
  rw [due_row hn hpa ha]
  refine checkroad_ok F hj ?_
  refine crosscounts_spec F hL hW hj hpa ?_
  refine shares_spec (by unfold c2S; omega) (by unfold c2S; omega) ?_
  exact RetOk.of (RetOk.of k)
theorem told42_road (W : GR G) {pa : Int} {ra : List Int} (hpa : 0 ≤ pa ∧ pa < n) (ha : RowOk ws ra) {road : Int} (hr : ¬ (0 ≤ road ∧ road < rs.length))
    (k : Q (.tup [.str "road", .int road]) M) : sp__law_told G [landV G n rs ws, stD pa ra, .int road] M Q R := by
  have h10 := hL.hi
  have hn := hL.all
  have la := ha.1
  refine ⟨rfl, ?_⟩
  simp only [T__law_told, dTry, dSeq, dIf, dTest, dBin, dVar, dC, dAsg, dStore, dRet, dB, dCons, dNil, dTup, dLst, dLstM, dDrop, dM, dCall, dCallK, dTru, dNotT, dAndT, dOrT, dAndE, dOrE, dNotE, dIfE, dChain, dChain3, dNeg, dFor, dPar, dSlice, dPart, dNoPart, z_fld, dSetF, dRaise, dRz, dNext, dBreak, dCont, dRetN, dYes, dComp, iSeq, iRange1, iRange2, DL.iZip, DL.iEnum, startD, retD, asg, asgs, asT, gMod, gMul, DL.gSub, gGt, gGe, gFdiv, gPow, wipeD, finF, finM, perm,
    List.map_cons, List.map_nil, List.length_cons, List.length_nil, List.replicate, List.cons_append, List.nil_append, List.getElem?_cons_zero, List.getElem?_cons_succ, List.set, List.getD_cons_zero, List.getD_cons_succ, Option.some.injEq, exists_eq_left', exists_eq_left, D.int.injEq, D.bl.injEq, D.ref.injEq, D.str.injEq, List.cons.injEq, and_true, true_and, exists_and_left, exists_and_right, decide_eq_true_eq, Bool.false_eq_true, if_true, if_false, ite_true, ite_false, Nat.zero_add, Nat.reduceAdd, Nat.reduceSub,
    z_gI, z_add, z_lt, z_le, z_int, z_intb, z_ixr, z_ixt, z_ixk, z_ixs, z_ixl, z_asQ, z_asQt, z_asQk, z_asQs, z_asQl, z_asL, z_asLl, z_at0, z_at1, z_at2, z_store, z_i20, z_i21, z_eq, z_ne, z_max2, z_min2, z_addt, z_sl, z_trb, z_trt, z_trk, z_trl, z_trs, List.isEmpty_cons, List.isEmpty_nil, Bool.not_true, Bool.not_false, z_len, z_lenl, z_lenk, z_lenr, z_lens, MS.set_set, MS.set_same]
  refine ⟨rfl, ?_⟩
  simp only [T_road_shares, dSeq, dIf, dTest, dBin, dVar, dC, dAsg, dStore, dRet, dB, dCons, dNil, dTup, dLst, dLstM, dDrop, dM, dCall, dCallK, dTru, dNotT, dAndT, dOrT, dAndE, dOrE, dNotE, dIfE, dChain, dChain3, dNeg, dFor, dPar, dSlice, dPart, dNoPart, z_fld, dSetF, dRaise, dRz, dNext, dBreak, dCont, dRetN, dYes, dComp, iSeq, iRange1, iRange2, DL.iZip, DL.iEnum, startD, retD, asg, asgs, asT, gMod, gMul, DL.gSub, gGt, gGe, gFdiv, gPow, wipeD, finF, finM, perm,
    List.map_cons, List.map_nil, List.length_cons, List.length_nil, List.replicate, List.cons_append, List.nil_append, List.getElem?_cons_zero, List.getElem?_cons_succ, List.set, List.getD_cons_zero, List.getD_cons_succ, Option.some.injEq, exists_eq_left', exists_eq_left, D.int.injEq, D.bl.injEq, D.ref.injEq, D.str.injEq, List.cons.injEq, and_true, true_and, exists_and_left, exists_and_right, decide_eq_true_eq, Bool.false_eq_true, if_true, if_false, ite_true, ite_false, Nat.zero_add, Nat.reduceAdd, Nat.reduceSub,
    z_gI, z_add, z_lt, z_le, z_int, z_intb, z_ixr, z_ixt, z_ixk, z_ixs, z_ixl, z_asQ, z_asQt, z_asQk, z_asQs, z_asQl, z_asL, z_asLl, z_at0, z_at1, z_at2, z_store, z_i20, z_i21, z_eq, z_ne, z_max2, z_min2, z_addt, z_sl, z_trb, z_trt, z_trk, z_trl, z_trs, List.isEmpty_cons, List.isEmpty_nil, Bool.not_true, Bool.not_false, z_len, z_lenl, z_lenk, z_lenr, z_lens, MS.set_set, MS.set_same]
  refine tree_ok F htr ?_
  refine state_check F hn (by omega) ?_
  rw [due_row hn hpa ha]
  refine checkroad_bad F hr (RetX.of ?_)
  refine ⟨true, W.e20, fun _ a dx => ?_, fun h => by cases h⟩
  simp only [dWhat, dSeq, dIf, dTest, dBin, dVar, dC, dAsg, dStore, dRet, dB, dCons, dNil, dTup, dLst, dLstM, dDrop, dM, dCall, dCallK, dTru, dNotT, dAndT, dOrT, dAndE, dOrE, dNotE, dIfE, dChain, dChain3, dNeg, dFor, dPar, dSlice, dPart, dNoPart, z_fld, dSetF, dRaise, dRz, dNext, dBreak, dCont, dRetN, dYes, dComp, iSeq, iRange1, iRange2, DL.iZip, DL.iEnum, startD, retD, asg, asgs, asT, gMod, gMul, DL.gSub, gGt, gGe, gFdiv, gPow, wipeD, finF, finM, perm,
    List.map_cons, List.map_nil, List.length_cons, List.length_nil, List.replicate, List.cons_append, List.nil_append, List.getElem?_cons_zero, List.getElem?_cons_succ, List.set, List.getD_cons_zero, List.getD_cons_succ, Option.some.injEq, exists_eq_left', exists_eq_left, D.int.injEq, D.bl.injEq, D.ref.injEq, D.str.injEq, List.cons.injEq, and_true, true_and, exists_and_left, exists_and_right, decide_eq_true_eq, Bool.false_eq_true, if_true, if_false, ite_true, ite_false, Nat.zero_add, Nat.reduceAdd, Nat.reduceSub,
    z_gI, z_add, z_lt, z_le, z_int, z_intb, z_ixr, z_ixt, z_ixk, z_ixs, z_ixl, z_asQ, z_asQt, z_asQk, z_asQs, z_asQl, z_asL, z_asLl, z_at0, z_at1, z_at2, z_store, z_i20, z_i21, z_eq, z_ne, z_max2, z_min2, z_addt, z_sl, z_trb, z_trt, z_trk, z_trl, z_trs, List.isEmpty_cons, List.isEmpty_nil, Bool.not_true, Bool.not_false, z_len, z_lenl, z_lenk, z_lenr, z_lens, MS.set_set, MS.set_same]
  refine ⟨_, _, _, _, rfl, W.x2, rfl, W.k26, ?_⟩
  refine ⟨_, _, _, _, rfl, W.x2, rfl, W.k22, ?_⟩
  refine ⟨by decide, ⟨_, rfl⟩, ?_⟩
  refine ⟨_, [.bool false, .bool true], .bool true, rfl, rfl, rfl, by rfl, by rfl, ?_⟩
  refine z_eq.mpr ⟨_, rfl, ?_⟩
  rw [if_pos (by rfl)]
  refine ⟨by decide, ⟨_, rfl⟩, ?_⟩
  refine ⟨_, [.bool false, .bool true], .bool true, 1, .bool true, rfl, rfl, rfl, by rfl, by rfl, rfl, by rfl, fun m z' hm hz => ?_, ?_⟩
  · have : m = 0 := by omega
    subst this
    first | omega | (cases hz; rfl)
  · refine z_ixl.mpr ⟨_, rfl, W.x2, _, rfl, by decide, RetOk.of k⟩
theorem told42_place (W : GR G) {ra : List Int} (ha : ra.length ≤ 1000) {road : Int}
    (k : Q (.tup [.str "place", .int n]) M) : sp__law_told G [landV G n rs ws, stD n ra, .int road] M Q R := by
  have hn := hL.all
  refine ⟨rfl, ?_⟩
  simp only [T__law_told, dTry, dSeq, dIf, dTest, dBin, dVar, dC, dAsg, dStore, dRet, dB, dCons, dNil, dTup, dLst, dLstM, dDrop, dM, dCall, dCallK, dTru, dNotT, dAndT, dOrT, dAndE, dOrE, dNotE, dIfE, dChain, dChain3, dNeg, dFor, dPar, dSlice, dPart, dNoPart, z_fld, dSetF, dRaise, dRz, dNext, dBreak, dCont, dRetN, dYes, dComp, iSeq, iRange1, iRange2, DL.iZip, DL.iEnum, startD, retD, asg, asgs, asT, gMod, gMul, DL.gSub, gGt, gGe, gFdiv, gPow, wipeD, finF, finM, perm,
    List.map_cons, List.map_nil, List.length_cons, List.length_nil, List.replicate, List.cons_append, List.nil_append, List.getElem?_cons_zero, List.getElem?_cons_succ, List.set, List.getD_cons_zero, List.getD_cons_succ, Option.some.injEq, exists_eq_left', exists_eq_left, D.int.injEq, D.bl.injEq, D.ref.injEq, D.str.injEq, List.cons.injEq, and_true, true_and, exists_and_left, exists_and_right, decide_eq_true_eq, Bool.false_eq_true, if_true, if_false, ite_true, ite_false, Nat.zero_add, Nat.reduceAdd, Nat.reduceSub,
    z_gI, z_add, z_lt, z_le, z_int, z_intb, z_ixr, z_ixt, z_ixk, z_ixs, z_ixl, z_asQ, z_asQt, z_asQk, z_asQs, z_asQl, z_asL, z_asLl, z_at0, z_at1, z_at2, z_store, z_i20, z_i21, z_eq, z_ne, z_max2, z_min2, z_addt, z_sl, z_trb, z_trt, z_trk, z_trl, z_trs, List.isEmpty_cons, List.isEmpty_nil, Bool.not_true, Bool.not_false, z_len, z_lenl, z_lenk, z_lenr, z_lens, MS.set_set, MS.set_same]
  refine ⟨rfl, ?_⟩
  simp only [T_road_shares, dSeq, dIf, dTest, dBin, dVar, dC, dAsg, dStore, dRet, dB, dCons, dNil, dTup, dLst, dLstM, dDrop, dM, dCall, dCallK, dTru, dNotT, dAndT, dOrT, dAndE, dOrE, dNotE, dIfE, dChain, dChain3, dNeg, dFor, dPar, dSlice, dPart, dNoPart, z_fld, dSetF, dRaise, dRz, dNext, dBreak, dCont, dRetN, dYes, dComp, iSeq, iRange1, iRange2, DL.iZip, DL.iEnum, startD, retD, asg, asgs, asT, gMod, gMul, DL.gSub, gGt, gGe, gFdiv, gPow, wipeD, finF, finM, perm,
    List.map_cons, List.map_nil, List.length_cons, List.length_nil, List.replicate, List.cons_append, List.nil_append, List.getElem?_cons_zero, List.getElem?_cons_succ, List.set, List.getD_cons_zero, List.getD_cons_succ, Option.some.injEq, exists_eq_left', exists_eq_left, D.int.injEq, D.bl.injEq, D.ref.injEq, D.str.injEq, List.cons.injEq, and_true, true_and, exists_and_left, exists_and_right, decide_eq_true_eq, Bool.false_eq_true, if_true, if_false, ite_true, ite_false, Nat.zero_add, Nat.reduceAdd, Nat.reduceSub,
    z_gI, z_add, z_lt, z_le, z_int, z_intb, z_ixr, z_ixt, z_ixk, z_ixs, z_ixl, z_asQ, z_asQt, z_asQk, z_asQs, z_asQl, z_asL, z_asLl, z_at0, z_at1, z_at2, z_store, z_i20, z_i21, z_eq, z_ne, z_max2, z_min2, z_addt, z_sl, z_trb, z_trt, z_trk, z_trl, z_trs, List.isEmpty_cons, List.isEmpty_nil, Bool.not_true, Bool.not_false, z_len, z_lenl, z_lenk, z_lenr, z_lens, MS.set_set, MS.set_same]
  refine tree_ok F htr ?_
  refine state_check F hn ha ?_
  have hd : due n ws n ra = some (6, .int n) := by
    unfold due
    rw [if_neg (by omega)]
  rw [hd]
  refine RetX.of ?_
  refine ⟨true, W.e60, fun _ a dx => ?_, fun h => by cases h⟩
  simp only [dWhat, dSeq, dIf, dTest, dBin, dVar, dC, dAsg, dStore, dRet, dB, dCons, dNil, dTup, dLst, dLstM, dDrop, dM, dCall, dCallK, dTru, dNotT, dAndT, dOrT, dAndE, dOrE, dNotE, dIfE, dChain, dChain3, dNeg, dFor, dPar, dSlice, dPart, dNoPart, z_fld, dSetF, dRaise, dRz, dNext, dBreak, dCont, dRetN, dYes, dComp, iSeq, iRange1, iRange2, DL.iZip, DL.iEnum, startD, retD, asg, asgs, asT, gMod, gMul, DL.gSub, gGt, gGe, gFdiv, gPow, wipeD, finF, finM, perm,
    List.map_cons, List.map_nil, List.length_cons, List.length_nil, List.replicate, List.cons_append, List.nil_append, List.getElem?_cons_zero, List.getElem?_cons_succ, List.set, List.getD_cons_zero, List.getD_cons_succ, Option.some.injEq, exists_eq_left', exists_eq_left, D.int.injEq, D.bl.injEq, D.ref.injEq, D.str.injEq, List.cons.injEq, and_true, true_and, exists_and_left, exists_and_right, decide_eq_true_eq, Bool.false_eq_true, if_true, if_false, ite_true, ite_false, Nat.zero_add, Nat.reduceAdd, Nat.reduceSub,
    z_gI, z_add, z_lt, z_le, z_int, z_intb, z_ixr, z_ixt, z_ixk, z_ixs, z_ixl, z_asQ, z_asQt, z_asQk, z_asQs, z_asQl, z_asL, z_asLl, z_at0, z_at1, z_at2, z_store, z_i20, z_i21, z_eq, z_ne, z_max2, z_min2, z_addt, z_sl, z_trb, z_trt, z_trk, z_trl, z_trs, List.isEmpty_cons, List.isEmpty_nil, Bool.not_true, Bool.not_false, z_len, z_lenl, z_lenk, z_lenr, z_lens, MS.set_set, MS.set_same]
  refine ⟨_, _, _, _, rfl, W.x6, rfl, W.k66, ?_⟩
  refine ⟨_, _, _, _, rfl, W.x6, rfl, W.k62, ?_⟩
  refine ⟨by decide, ⟨_, rfl⟩, ?_⟩
  refine ⟨_, [.bool true, .bool false], .bool true, rfl, rfl, rfl, by rfl, by rfl, ?_⟩
  refine z_eq.mpr ⟨_, rfl, ?_⟩
  rw [if_pos (by rfl)]
  refine ⟨by decide, ⟨_, rfl⟩, ?_⟩
  refine ⟨_, [.bool true, .bool false], .bool true, 0, .bool true, rfl, rfl, rfl, by rfl, by rfl, rfl, by rfl, fun m z' hm hz => ?_, ?_⟩
  · have : m = 0 := by omega
    subst this
    first | omega | (cases hz; rfl)
  · refine z_ixl.mpr ⟨_, rfl, W.x6, _, rfl, by decide, RetOk.of k⟩
end
end LW

set_option Elab.async false
set_option maxRecDepth 100000
set_option maxHeartbeats 4000000
/-! k42: the law's own list of all states -/
namespace DL
open PySem PySem.Spec L2
/-- all states, ascending -/
def statesUp (n : Nat) (rows : List (List Int)) : List (Int × List Int) := (List.range n).flatMap fun x : Nat => rows.map fun r => ((x : Int), r)
abbrev tupR (r : List Int) : D := .tup (r.map D.int)
theorem rowsUp_le : ∀ {ms : List Int}, (∀ m ∈ ms, m ≤ 6) → (rowsUp ms).length ≤ 6 ^ ms.length := fun {ms} hm => by
  have key : ∀ k : List Int, (∀ m ∈ k, m ≤ 6) → (rowsUp k.reverse).length ≤ 6 ^ k.reverse.length := fun k => by
    induction k with
    | nil => intro _; exact Nat.le_refl _
    | cons m k ih =>
      intro h
      have h1 := ih fun m hm => h m (List.mem_cons_of_mem _ hm)
      have h2 := h m List.mem_cons_self
      rw [List.reverse_cons, rowsUp_snoc, List.length_flatMap, List.length_append, List.length_singleton, Nat.pow_succ]
      have e : ((rowsUp k.reverse).map fun r => ((List.range m.toNat).map fun p : Nat => r ++ [(p : Int)]).length).sum = (rowsUp k.reverse).length * m.toNat := by
        generalize rowsUp k.reverse = L
        induction L with
        | nil => simp
        | cons a L ih2 => rw [List.map_cons, List.sum_cons, ih2, List.length_map, List.length_range, List.length_cons, Nat.add_mul]; omega
      rw [e]
      exact Nat.mul_le_mul h1 (by omega)
  have := key ms.reverse (fun m h => hm m (List.mem_reverse.mp h))
  rwa [List.reverse_reverse] at this
theorem statesUp_len (n : Nat) (rows : List (List Int)) : (statesUp n rows).length = n * rows.length := by
  unfold statesUp
  induction n with
  | zero => simp
  | succ n ih => rw [List.range_succ, List.flatMap_append, List.length_append, ih, List.flatMap_cons, List.flatMap_nil, List.append_nil, List.length_map, Nat.add_mul]; omega
theorem statesUp_succ (n : Nat) (rows : List (List Int)) : statesUp (n + 1) rows = statesUp n rows ++ rows.map fun r => ((n : Int), r) := by
  unfold statesUp
  rw [List.range_succ, List.flatMap_append, List.flatMap_cons, List.flatMap_nil, List.append_nil]
theorem asQ_sub {M M' : MS} (h : Sub M M') {d : D} {ds : List D} (e : asQ M d = some ds) : asQ M' d = some ds := by
  cases d with
  | ref a =>
    simp only [asQ, asL] at e ⊢
    cases q : M a with
    | none => rw [q] at e; cases e
    | some o => rw [q] at e; rw [h a o q]; exact e
  | _ => exact e
theorem Sub.fresh {M M' : MS} (h : Sub M M') {p : Addr} (hp : M' p = none) (o : MO) : Sub M (M'.set p o) := fun c o' e => by
  rw [MS.set_ne (fun z => by rw [z] at e; have := h _ _ e; rw [hp] at this; cases this)]
  exact h c o' e
end DL
namespace LW
open PySem PySem.Spec L2 DL
variable {G : GEnv} {M : MS} {Q : QD} {R : RK}
theorem lawstates_spec {n : Int} {rs : List (List Int)} {ws : List Lamp} (hn : (ws.length : Int) = n) (h5 : n ≤ 5) (hok : ∀ w ∈ ws, LampOk w)
    (k : Q (.lst ((statesUp n.toNat (rowsUp (ws.map (·.1)))).map fun s => .tup [.int s.1, tupR s.2])) M) : sp__law_states G [landD rs ws] M Q R := by
  have hm6 : ∀ m ∈ ws.map (·.1), m ≤ 6 := fun m hm => by
    obtain ⟨w, hw, rfl⟩ := List.mem_map.mp hm
    exact (hok w hw).2.1
  have hle : ∀ i, (rowsUp ((ws.map (·.1)).take i)).length ≤ 7776 := fun i => by
    have a := rowsUp_le (ms := (ws.map (·.1)).take i) fun m hm => hm6 m (List.mem_of_mem_take hm)
    have b : ((ws.map (·.1)).take i).length ≤ 5 := by rw [List.length_take, List.length_map]; omega
    exact Nat.le_trans a (Nat.pow_le_pow_right (by decide) b)
  refine ⟨rfl, ?_⟩
  simp only [T__law_states, dSeq, dIf, dTest, dBin, dVar, dC, dAsg, dStore, dRet, dB, dCons, dNil, dTup, dLst, dLstM, dDrop, dM, dCall, dCallK, dTru, dNotT, dAndT, dOrT, dAndE, dOrE, dNotE, dIfE, dChain, dChain3, dNeg, dFor, dPar, dSlice, dPart, dNoPart, z_fld, dSetF, dRaise, dRz, dNext, dBreak, dCont, dRetN, dYes, dComp, iSeq, iRange1, iRange2, DL.iZip, DL.iEnum, startD, retD, asg, asgs, asT, gMod, gMul, DL.gSub, gGt, gGe, gFdiv, gPow, wipeD, finF, finM, perm,
    List.map_cons, List.map_nil, List.length_cons, List.length_nil, List.replicate, List.cons_append, List.nil_append, List.getElem?_cons_zero, List.getElem?_cons_succ, List.set, List.getD_cons_zero, List.getD_cons_succ, Option.some.injEq, exists_eq_left', exists_eq_left, D.int.injEq, D.bl.injEq, D.ref.injEq, D.str.injEq, List.cons.injEq, and_true, true_and, exists_and_left, exists_and_right, decide_eq_true_eq, Bool.false_eq_true, if_true, if_false, ite_true, ite_false, Nat.zero_add, Nat.reduceAdd, Nat.reduceSub,
    z_gI, z_add, z_lt, z_le, z_int, z_intb, z_ixr, z_ixt, z_ixk, z_ixs, z_ixl, z_asQ, z_asQt, z_asQk, z_asQs, z_asQl, z_asL, z_asLl, z_at0, z_at1, z_at2, z_store, z_i20, z_i21, z_eq, z_ne, z_max2, z_min2, z_addt, z_sl, z_trb, z_trt, z_trk, z_trl, z_trs, List.isEmpty_cons, List.isEmpty_nil, Bool.not_true, Bool.not_false, z_len, z_lenl, z_lenk, z_lenr, z_lens, MS.set_set, MS.set_same]
  refine ⟨by decide, by decide, ?_⟩
  refine for_inv (fun i ρ M' => ∃ (d1 : D) (o2 o3 o4 o5 o6 o7 o8 : Option D), Sub M M' ∧ asQ M' d1 = some ((rowsUp ((ws.map (·.1)).take i)).map tupR) ∧ ρ = [some (landD rs ws), some d1, o2, o3, o4, o5, o6, o7, o8]) (fun _ _ _ _ => trivial) ?_ ?_ ⟨_, none, none, none, none, none, none, none, fun _ _ e => e, rfl, rfl⟩
  · rintro i d ρ M' hd ⟨d1, o2, o3, o4, o5, o6, o7, o8, hS, hA, rfl⟩
    rw [List.getElem?_map] at hd
    obtain ⟨w, hw, rfl⟩ := Option.map_eq_some_iff.mp hd
    have hwO := hok w (List.mem_of_getElem? hw)
    refine ⟨_, rfl, fun K hK => ?_⟩
    simp only [dSeq, dIf, dTest, dBin, dVar, dC, dAsg, dStore, dRet, dB, dCons, dNil, dTup, dLst, dLstM, dDrop, dM, dCall, dCallK, dTru, dNotT, dAndT, dOrT, dAndE, dOrE, dNotE, dIfE, dChain, dChain3, dNeg, dFor, dPar, dSlice, dPart, dNoPart, z_fld, dSetF, dRaise, dRz, dNext, dBreak, dCont, dRetN, dYes, dComp, iSeq, iRange1, iRange2, DL.iZip, DL.iEnum, startD, retD, asg, asgs, asT, gMod, gMul, DL.gSub, gGt, gGe, gFdiv, gPow, wipeD, finF, finM, perm,
    List.map_cons, List.map_nil, List.length_cons, List.length_nil, List.replicate, List.cons_append, List.nil_append, List.getElem?_cons_zero, List.getElem?_cons_succ, List.set, List.getD_cons_zero, List.getD_cons_succ, Option.some.injEq, exists_eq_left', exists_eq_left, D.int.injEq, D.bl.injEq, D.ref.injEq, D.str.injEq, List.cons.injEq, and_true, true_and, exists_and_left, exists_and_right, decide_eq_true_eq, Bool.false_eq_true, if_true, if_false, ite_true, ite_false, Nat.zero_add, Nat.reduceAdd, Nat.reduceSub,
    z_gI, z_add, z_lt, z_le, z_int, z_intb, z_ixr, z_ixt, z_ixk, z_ixs, z_ixl, z_asQ, z_asQt, z_asQk, z_asQs, z_asQl, z_asL, z_asLl, z_at0, z_at1, z_at2, z_store, z_i20, z_i21, z_eq, z_ne, z_max2, z_min2, z_addt, z_sl, z_trb, z_trt, z_trk, z_trl, z_trs, List.isEmpty_cons, List.isEmpty_nil, Bool.not_true, Bool.not_false, z_len, z_lenl, z_lenk, z_lenr, z_lens, MS.set_set, MS.set_same]
    refine ⟨by decide, fun p hp => ?_⟩
    have hA2 := asQ_sub (Sub.fresh (fun _ _ e => e) hp (.lst [])) hA
    refine ⟨_, hA2, ?_⟩
    generalize hrows : rowsUp ((ws.map (·.1)).take i) = rows at hA hA2 ⊢
    have hrl : rows.length ≤ 7776 := by rw [← hrows]; exact hle i
    let ext : List Int → List (List Int) := fun r => (List.range w.1.toNat).map fun q : Nat => r ++ [(q : Int)]
    have hel : ∀ L : List (List Int), (L.flatMap ext).length = L.length * w.1.toNat := fun L => by
      induction L with
      | nil => simp
      | cons a L ih => rw [List.flatMap_cons, List.length_append, ih, List.length_map, List.length_range, List.length_cons, Nat.add_mul]; omega
    refine for_inv (fun i2 ρ M2 => ∃ (q5 q6 : Option D), M2 = M'.set p (.lst (((rows.take i2).flatMap ext).map tupR)) ∧ ρ = [some (landD rs ws), some d1, some (.int w.1), some (rdsD w.2), some (.ref p), q5, q6, o7, o8]) ?_ ?_ ?_ ⟨_, _, rfl, rfl⟩
    · rintro i2 ρ M2 ⟨q5, q6, rfl, rfl⟩
      exact asQ_sub (Sub.fresh (fun _ _ e => e) hp _) hA
    · rintro i2 d ρ M2 hd2 ⟨q5, q6, rfl, rfl⟩
      rw [List.getElem?_map] at hd2
      obtain ⟨r, hr, rfl⟩ := Option.map_eq_some_iff.mp hd2
      have hi2 := (List.getElem?_eq_some_iff.mp hr).1
      have hrlen : r.length ≤ 5 := by
        have := rowsUp_len (by rw [hrows]; exact List.mem_of_getElem? hr)
        rw [List.length_take, List.length_map] at this
        omega
      refine ⟨_, rfl, fun K2 hK2 => ?_⟩
      simp only [dSeq, dIf, dTest, dBin, dVar, dC, dAsg, dStore, dRet, dB, dCons, dNil, dTup, dLst, dLstM, dDrop, dM, dCall, dCallK, dTru, dNotT, dAndT, dOrT, dAndE, dOrE, dNotE, dIfE, dChain, dChain3, dNeg, dFor, dPar, dSlice, dPart, dNoPart, z_fld, dSetF, dRaise, dRz, dNext, dBreak, dCont, dRetN, dYes, dComp, iSeq, iRange1, iRange2, DL.iZip, DL.iEnum, startD, retD, asg, asgs, asT, gMod, gMul, DL.gSub, gGt, gGe, gFdiv, gPow, wipeD, finF, finM, perm,
    List.map_cons, List.map_nil, List.length_cons, List.length_nil, List.replicate, List.cons_append, List.nil_append, List.getElem?_cons_zero, List.getElem?_cons_succ, List.set, List.getD_cons_zero, List.getD_cons_succ, Option.some.injEq, exists_eq_left', exists_eq_left, D.int.injEq, D.bl.injEq, D.ref.injEq, D.str.injEq, List.cons.injEq, and_true, true_and, exists_and_left, exists_and_right, decide_eq_true_eq, Bool.false_eq_true, if_true, if_false, ite_true, ite_false, Nat.zero_add, Nat.reduceAdd, Nat.reduceSub,
    z_gI, z_add, z_lt, z_le, z_int, z_intb, z_ixr, z_ixt, z_ixk, z_ixs, z_ixl, z_asQ, z_asQt, z_asQk, z_asQs, z_asQl, z_asL, z_asLl, z_at0, z_at1, z_at2, z_store, z_i20, z_i21, z_eq, z_ne, z_max2, z_min2, z_addt, z_sl, z_trb, z_trt, z_trk, z_trl, z_trs, List.isEmpty_cons, List.isEmpty_nil, Bool.not_true, Bool.not_false, z_len, z_lenl, z_lenk, z_lenr, z_lens, MS.set_set, MS.set_same]
      refine ⟨⟨_, z_asL⟩, by have := hwO.1; omega, by have := hwO.2.1; omega, ?_⟩
      refine DL.comp_map (fun _ => true) (fun d => match d with | .int q => .tup (r.map D.int ++ [.int q]) | d => d) ?_ (rangeD 0 w.1.toNat) [] (fun d hd => ?_) (by rw [rangeD_len]; have := hwO.2.1; simp; omega) ?_
      · first | exact trivial | exact rfl
      · obtain ⟨j, hj⟩ := List.getElem?_of_mem hd
        obtain ⟨hj2, rfl⟩ := rangeD_get hj
        refine ⟨_, rfl, fun Q' hq => hq, fun _ Q' hq => ?_⟩
        simp only [dSeq, dIf, dTest, dBin, dVar, dC, dAsg, dStore, dRet, dB, dCons, dNil, dTup, dLst, dLstM, dDrop, dM, dCall, dCallK, dTru, dNotT, dAndT, dOrT, dAndE, dOrE, dNotE, dIfE, dChain, dChain3, dNeg, dFor, dPar, dSlice, dPart, dNoPart, z_fld, dSetF, dRaise, dRz, dNext, dBreak, dCont, dRetN, dYes, dComp, iSeq, iRange1, iRange2, DL.iZip, DL.iEnum, startD, retD, asg, asgs, asT, gMod, gMul, DL.gSub, gGt, gGe, gFdiv, gPow, wipeD, finF, finM, perm,
    List.map_cons, List.map_nil, List.length_cons, List.length_nil, List.replicate, List.cons_append, List.nil_append, List.getElem?_cons_zero, List.getElem?_cons_succ, List.set, List.getD_cons_zero, List.getD_cons_succ, Option.some.injEq, exists_eq_left', exists_eq_left, D.int.injEq, D.bl.injEq, D.ref.injEq, D.str.injEq, List.cons.injEq, and_true, true_and, exists_and_left, exists_and_right, decide_eq_true_eq, Bool.false_eq_true, if_true, if_false, ite_true, ite_false, Nat.zero_add, Nat.reduceAdd, Nat.reduceSub,
    z_gI, z_add, z_lt, z_le, z_int, z_intb, z_ixr, z_ixt, z_ixk, z_ixs, z_ixl, z_asQ, z_asQt, z_asQk, z_asQs, z_asQl, z_asL, z_asLl, z_at0, z_at1, z_at2, z_store, z_i20, z_i21, z_eq, z_ne, z_max2, z_min2, z_addt, z_sl, z_trb, z_trt, z_trk, z_trl, z_trs, List.isEmpty_cons, List.isEmpty_nil, Bool.not_true, Bool.not_false, z_len, z_lenl, z_lenk, z_lenr, z_lens, MS.set_set, MS.set_same]
        refine ⟨by decide, by rw [sizeLine_eq, List.length_map]; omega, hq⟩
      rw [List.filter_eq_self.mpr fun _ _ => rfl, List.nil_append]
      have e1 : (rangeD 0 w.1.toNat).map (fun d => match d with | .int q => .tup (r.map D.int ++ [.int q]) | d => d) = (ext r).map tupR := by
        unfold rangeD
        rw [List.map_map, List.map_map]
        refine List.map_congr_left fun q _ => ?_
        simp [Function.comp, tupR]
      rw [e1]
      refine ⟨p, _, _, _, rfl, rfl, MS.set_same, rfl, ?_, ?_⟩
      · rw [List.length_map, List.length_map, hel, List.length_take, List.length_map, List.length_range, sizeLine_eq]
        have := hwO.2.1
        have : min i2 rows.length * w.1.toNat ≤ 7776 * 6 := Nat.mul_le_mul (by omega) (by omega)
        omega
      · rw [MS.set_set]
        refine hK2 _ _ ⟨_, _, ?_, rfl⟩
        rw [← List.map_append, List.take_succ, hr]
        show _ = M'.set p (.lst (((rows.take i2 ++ [r]).flatMap ext).map tupR))
        rw [List.flatMap_append, List.flatMap_cons, List.flatMap_nil, List.append_nil]
    · rintro ρ M2 ⟨q5, q6, rfl, rfl⟩
      rw [List.length_map, List.take_length]
      simp only [dSeq, dIf, dTest, dBin, dVar, dC, dAsg, dStore, dRet, dB, dCons, dNil, dTup, dLst, dLstM, dDrop, dM, dCall, dCallK, dTru, dNotT, dAndT, dOrT, dAndE, dOrE, dNotE, dIfE, dChain, dChain3, dNeg, dFor, dPar, dSlice, dPart, dNoPart, z_fld, dSetF, dRaise, dRz, dNext, dBreak, dCont, dRetN, dYes, dComp, iSeq, iRange1, iRange2, DL.iZip, DL.iEnum, startD, retD, asg, asgs, asT, gMod, gMul, DL.gSub, gGt, gGe, gFdiv, gPow, wipeD, finF, finM, perm,
    List.map_cons, List.map_nil, List.length_cons, List.length_nil, List.replicate, List.cons_append, List.nil_append, List.getElem?_cons_zero, List.getElem?_cons_succ, List.set, List.getD_cons_zero, List.getD_cons_succ, Option.some.injEq, exists_eq_left', exists_eq_left, D.int.injEq, D.bl.injEq, D.ref.injEq, D.str.injEq, List.cons.injEq, and_true, true_and, exists_and_left, exists_and_right, decide_eq_true_eq, Bool.false_eq_true, if_true, if_false, ite_true, ite_false, Nat.zero_add, Nat.reduceAdd, Nat.reduceSub,
    z_gI, z_add, z_lt, z_le, z_int, z_intb, z_ixr, z_ixt, z_ixk, z_ixs, z_ixl, z_asQ, z_asQt, z_asQk, z_asQs, z_asQl, z_asL, z_asLl, z_at0, z_at1, z_at2, z_store, z_i20, z_i21, z_eq, z_ne, z_max2, z_min2, z_addt, z_sl, z_trb, z_trt, z_trk, z_trl, z_trs, List.isEmpty_cons, List.isEmpty_nil, Bool.not_true, Bool.not_false, z_len, z_lenl, z_lenk, z_lenr, z_lens, MS.set_set, MS.set_same]
      refine hK _ _ ⟨_, _, _, _, _, _, _, _, Sub.fresh hS hp _, ?_, rfl⟩
      have e2 : rowsUp ((ws.map (·.1)).take (i + 1)) = rows.flatMap ext := by
        rw [List.take_succ, List.getElem?_map, hw, ← hrows]
        exact rowsUp_snoc _ _
      rw [e2]
      simp [asQ, asL, MS.set_same]
  · rintro ρ M' ⟨d1, o2, o3, o4, o5, o6, o7, o8, hS, hA, rfl⟩
    rw [List.length_map, List.take_of_length_le (by rw [List.length_map]; exact Nat.le_refl _)] at hA
    simp only [dSeq, dIf, dTest, dBin, dVar, dC, dAsg, dStore, dRet, dB, dCons, dNil, dTup, dLst, dLstM, dDrop, dM, dCall, dCallK, dTru, dNotT, dAndT, dOrT, dAndE, dOrE, dNotE, dIfE, dChain, dChain3, dNeg, dFor, dPar, dSlice, dPart, dNoPart, z_fld, dSetF, dRaise, dRz, dNext, dBreak, dCont, dRetN, dYes, dComp, iSeq, iRange1, iRange2, DL.iZip, DL.iEnum, startD, retD, asg, asgs, asT, gMod, gMul, DL.gSub, gGt, gGe, gFdiv, gPow, wipeD, finF, finM, perm,
    List.map_cons, List.map_nil, List.length_cons, List.length_nil, List.replicate, List.cons_append, List.nil_append, List.getElem?_cons_zero, List.getElem?_cons_succ, List.set, List.getD_cons_zero, List.getD_cons_succ, Option.some.injEq, exists_eq_left', exists_eq_left, D.int.injEq, D.bl.injEq, D.ref.injEq, D.str.injEq, List.cons.injEq, and_true, true_and, exists_and_left, exists_and_right, decide_eq_true_eq, Bool.false_eq_true, if_true, if_false, ite_true, ite_false, Nat.zero_add, Nat.reduceAdd, Nat.reduceSub,
    z_gI, z_add, z_lt, z_le, z_int, z_intb, z_ixr, z_ixt, z_ixk, z_ixs, z_ixl, z_asQ, z_asQt, z_asQk, z_asQs, z_asQl, z_asL, z_asLl, z_at0, z_at1, z_at2, z_store, z_i20, z_i21, z_eq, z_ne, z_max2, z_min2, z_addt, z_sl, z_trb, z_trt, z_trk, z_trl, z_trs, List.isEmpty_cons, List.isEmpty_nil, Bool.not_true, Bool.not_false, z_len, z_lenl, z_lenk, z_lenr, z_lens, MS.set_set, MS.set_same]
    refine ⟨by decide, fun p hp => ?_⟩
    rw [List.length_map, hn]
    refine ⟨by omega, by omega, ?_⟩
    have hl := hle (ws.map (·.1)).length
    rw [List.take_length] at hl
    generalize rowsUp (ws.map (·.1)) = rows at hA hl k ⊢
    refine for_inv (fun i ρ M2 => ∃ (q5 q8 : Option D), M2 = M'.set p (.lst ((statesUp i rows).map fun s => .tup [.int s.1, tupR s.2])) ∧ ρ = [some (landD rs ws), some d1, o2, o3, o4, q5, o6, some (.ref p), q8]) (fun _ _ _ _ => trivial) ?_ ?_ ⟨_, _, rfl, rfl⟩
    · rintro i d ρ M2 hd ⟨q5, q8, rfl, rfl⟩
      obtain ⟨hi, rfl⟩ := rangeD_get hd
      refine ⟨_, rfl, fun K2 hK2 => ?_⟩
      simp only [dSeq, dIf, dTest, dBin, dVar, dC, dAsg, dStore, dRet, dB, dCons, dNil, dTup, dLst, dLstM, dDrop, dM, dCall, dCallK, dTru, dNotT, dAndT, dOrT, dAndE, dOrE, dNotE, dIfE, dChain, dChain3, dNeg, dFor, dPar, dSlice, dPart, dNoPart, z_fld, dSetF, dRaise, dRz, dNext, dBreak, dCont, dRetN, dYes, dComp, iSeq, iRange1, iRange2, DL.iZip, DL.iEnum, startD, retD, asg, asgs, asT, gMod, gMul, DL.gSub, gGt, gGe, gFdiv, gPow, wipeD, finF, finM, perm,
    List.map_cons, List.map_nil, List.length_cons, List.length_nil, List.replicate, List.cons_append, List.nil_append, List.getElem?_cons_zero, List.getElem?_cons_succ, List.set, List.getD_cons_zero, List.getD_cons_succ, Option.some.injEq, exists_eq_left', exists_eq_left, D.int.injEq, D.bl.injEq, D.ref.injEq, D.str.injEq, List.cons.injEq, and_true, true_and, exists_and_left, exists_and_right, decide_eq_true_eq, Bool.false_eq_true, if_true, if_false, ite_true, ite_false, Nat.zero_add, Nat.reduceAdd, Nat.reduceSub,
    z_gI, z_add, z_lt, z_le, z_int, z_intb, z_ixr, z_ixt, z_ixk, z_ixs, z_ixl, z_asQ, z_asQt, z_asQk, z_asQs, z_asQl, z_asL, z_asLl, z_at0, z_at1, z_at2, z_store, z_i20, z_i21, z_eq, z_ne, z_max2, z_min2, z_addt, z_sl, z_trb, z_trt, z_trk, z_trl, z_trs, List.isEmpty_cons, List.isEmpty_nil, Bool.not_true, Bool.not_false, z_len, z_lenl, z_lenk, z_lenr, z_lens, MS.set_set, MS.set_same]
      have hA2 := asQ_sub (Sub.fresh (fun _ _ e => e) hp (.lst ((statesUp i rows).map fun s => .tup [.int s.1, tupR s.2]))) hA
      refine ⟨⟨_, z_asL⟩, _, hA2, ?_⟩
      refine DL.comp_map (fun _ => true) (fun d => .tup [.int (0 + (i : Int)), d]) ?_ (rows.map tupR) [] (fun d hd => ?_) (by rw [List.length_map]; simp; omega) ?_
      · first | exact trivial | exact hA2
      · refine ⟨_, rfl, fun Q' hq => hq, fun _ Q' hq => ?_⟩
        simp only [dSeq, dIf, dTest, dBin, dVar, dC, dAsg, dStore, dRet, dB, dCons, dNil, dTup, dLst, dLstM, dDrop, dM, dCall, dCallK, dTru, dNotT, dAndT, dOrT, dAndE, dOrE, dNotE, dIfE, dChain, dChain3, dNeg, dFor, dPar, dSlice, dPart, dNoPart, z_fld, dSetF, dRaise, dRz, dNext, dBreak, dCont, dRetN, dYes, dComp, iSeq, iRange1, iRange2, DL.iZip, DL.iEnum, startD, retD, asg, asgs, asT, gMod, gMul, DL.gSub, gGt, gGe, gFdiv, gPow, wipeD, finF, finM, perm,
    List.map_cons, List.map_nil, List.length_cons, List.length_nil, List.replicate, List.cons_append, List.nil_append, List.getElem?_cons_zero, List.getElem?_cons_succ, List.set, List.getD_cons_zero, List.getD_cons_succ, Option.some.injEq, exists_eq_left', exists_eq_left, D.int.injEq, D.bl.injEq, D.ref.injEq, D.str.injEq, List.cons.injEq, and_true, true_and, exists_and_left, exists_and_right, decide_eq_true_eq, Bool.false_eq_true, if_true, if_false, ite_true, ite_false, Nat.zero_add, Nat.reduceAdd, Nat.reduceSub,
    z_gI, z_add, z_lt, z_le, z_int, z_intb, z_ixr, z_ixt, z_ixk, z_ixs, z_ixl, z_asQ, z_asQt, z_asQk, z_asQs, z_asQl, z_asL, z_asLl, z_at0, z_at1, z_at2, z_store, z_i20, z_i21, z_eq, z_ne, z_max2, z_min2, z_addt, z_sl, z_trb, z_trt, z_trk, z_trl, z_trs, List.isEmpty_cons, List.isEmpty_nil, Bool.not_true, Bool.not_false, z_len, z_lenl, z_lenk, z_lenr, z_lens, MS.set_set, MS.set_same]
        exact ⟨by decide, hq⟩
      rw [List.filter_eq_self.mpr fun _ _ => rfl, List.nil_append]
      have e1 : (rows.map tupR).map (fun d => D.tup [.int (0 + (i : Int)), d]) = (rows.map fun r => ((i : Int), r)).map fun s => .tup [.int s.1, tupR s.2] := by
        rw [List.map_map, List.map_map]
        refine List.map_congr_left fun r _ => ?_
        simp [Function.comp]
      rw [e1]
      refine ⟨p, _, _, _, rfl, rfl, MS.set_same, rfl, ?_, ?_⟩
      · rw [List.length_map, List.length_map, List.length_map, statesUp_len, sizeLine_eq]
        have : i * rows.length ≤ 5 * 7776 := Nat.mul_le_mul (by omega) hl
        omega
      · rw [MS.set_set]
        refine hK2 _ _ ⟨_, _, ?_, rfl⟩
        rw [← List.map_append, ← statesUp_succ]
    · rintro ρ M2 ⟨q5, q8, rfl, rfl⟩
      rw [rangeD_len]
      simp only [dSeq, dIf, dTest, dBin, dVar, dC, dAsg, dStore, dRet, dB, dCons, dNil, dTup, dLst, dLstM, dDrop, dM, dCall, dCallK, dTru, dNotT, dAndT, dOrT, dAndE, dOrE, dNotE, dIfE, dChain, dChain3, dNeg, dFor, dPar, dSlice, dPart, dNoPart, z_fld, dSetF, dRaise, dRz, dNext, dBreak, dCont, dRetN, dYes, dComp, iSeq, iRange1, iRange2, DL.iZip, DL.iEnum, startD, retD, asg, asgs, asT, gMod, gMul, DL.gSub, gGt, gGe, gFdiv, gPow, wipeD, finF, finM, perm,
    List.map_cons, List.map_nil, List.length_cons, List.length_nil, List.replicate, List.cons_append, List.nil_append, List.getElem?_cons_zero, List.getElem?_cons_succ, List.set, List.getD_cons_zero, List.getD_cons_succ, Option.some.injEq, exists_eq_left', exists_eq_left, D.int.injEq, D.bl.injEq, D.ref.injEq, D.str.injEq, List.cons.injEq, and_true, true_and, exists_and_left, exists_and_right, decide_eq_true_eq, Bool.false_eq_true, if_true, if_false, ite_true, ite_false, Nat.zero_add, Nat.reduceAdd, Nat.reduceSub,
    z_gI, z_add, z_lt, z_le, z_int, z_intb, z_ixr, z_ixt, z_ixk, z_ixs, z_ixl, z_asQ, z_asQt, z_asQk, z_asQs, z_asQl, z_asL, z_asLl, z_at0, z_at1, z_at2, z_store, z_i20, z_i21, z_eq, z_ne, z_max2, z_min2, z_addt, z_sl, z_trb, z_trt, z_trk, z_trl, z_trs, List.isEmpty_cons, List.isEmpty_nil, Bool.not_true, Bool.not_false, z_len, z_lenl, z_lenk, z_lenr, z_lens, MS.set_set, MS.set_same]
      refine ⟨_, M, fun c o ec => ?_, .lst MS.set_same (?_) (Fzs.refl _), k⟩
      · exact Sub.fresh hS hp _ c o ec
      · cases q : M p with
        | none => rfl
        | some o => have := hS _ _ q; rw [hp] at this; cases this
end LW

set_option Elab.async false
set_option maxRecDepth 100000
set_option maxHeartbeats 4000000
/-! k42: what is due -/
namespace DL
open PySem PySem.Spec L2
theorem allB_iff (good : Nat → Int → Bool) : ∀ (k : Nat) (r : List Int), allB good k r = true ↔ ∀ i, i < r.length → good (k + i) (r.getD i 0) = true
  | k, [] => by simp [allB]
  | k, p :: r => by
    rw [allB, Bool.and_eq_true, allB_iff good (k + 1) r]
    constructor
    · rintro ⟨h1, h2⟩ i hi
      cases i with
      | zero => exact h1
      | succ i =>
        have := h2 i (by simpa using hi)
        rw [show k + 1 + i = k + (i + 1) by omega] at this
        exact this
    · intro h
      refine ⟨h 0 (by simp), fun i hi => ?_⟩
      have := h (i + 1) (by simpa using hi)
      rw [show k + (i + 1) = k + 1 + i by omega] at this
      exact this
theorem at_intQ42 {l : List Int} {x : Int} (h : 0 ≤ x ∧ x < l.length) : atI (l.map D.int) x = some (.int (l.getD x.toNat 0)) := by
  obtain ⟨j, rfl⟩ := Int.eq_ofNat_of_zero_le h.1
  have hj : j < (l.map D.int).length := by rw [List.length_map]; omega
  have hj' : j < l.length := by omega
  rw [at_nat hj, List.getElem?_map, List.getElem?_eq_getElem hj', List.getD_eq_getElem?_getD, Int.toNat_natCast, List.getElem?_eq_getElem hj']
  rfl
theorem rangeD_ints (m : Nat) : rangeD 0 m = ((List.range m).map fun i : Nat => (i : Int)).map D.int := by
  unfold rangeD
  rw [List.map_map]
  refine List.map_congr_left fun i _ => ?_
  show D.int _ = D.int _
  rw [Int.zero_add]
theorem cls_sum {α : Type} (f : α → Nat) (h : ∀ s, f s = 0 ∨ f s = 1 ∨ f s = 2) : ∀ l : List α, (l.countP fun s => decide (f s = 0)) + (l.countP fun s => decide (f s = 1)) + (l.countP fun s => decide (f s = 2)) = l.length
  | [] => rfl
  | a :: l => by
    have ih := cls_sum f h l
    rw [List.countP_cons, List.countP_cons, List.countP_cons, List.length_cons]
    rcases h a with e | e | e <;> rw [e] <;> simp <;> omega
/-- of which kind a state is -/
noncomputable def clsS (rs : List (List Int)) (j : Nat) (x : Int) (ra : List Int) (s : Int × List Int) : Nat := if farB rs j x s.1.toNat = true then 1 else if allB (goodF (farB rs j x) ra) 0 s.2 = true then 0 else 2
end DL
namespace LW
open PySem PySem.Spec L2 DL
variable {G : GEnv} {M : MS} {Q : QD} {R : RK}
theorem lawshare_spec {c d : Int} (hc : 0 ≤ c) (hc2 : c < 1073741824) (hd : 0 < d) (hd2 : d < 1073741824) (k : Q (shD c d) M) : sp__law_share G [.int c, .int d] M Q R := by
  refine ⟨rfl, ?_⟩
  simp only [T__law_share, dSeq, dIf, dTest, dBin, dVar, dC, dAsg, dStore, dRet, dB, dCons, dNil, dTup, dLst, dLstM, dDrop, dM, dCall, dCallK, dTru, dNotT, dAndT, dOrT, dAndE, dOrE, dNotE, dIfE, dChain, dChain3, dNeg, dFor, dPar, dSlice, dPart, dNoPart, z_fld, dSetF, dRaise, dRz, dNext, dBreak, dCont, dRetN, dYes, dComp, iSeq, iRange1, iRange2, DL.iZip, DL.iEnum, startD, retD, asg, asgs, asT, gMod, gMul, DL.gSub, gGt, gGe, gFdiv, gPow, wipeD, finF, finM, perm,
    List.map_cons, List.map_nil, List.length_cons, List.length_nil, List.replicate, List.cons_append, List.nil_append, List.getElem?_cons_zero, List.getElem?_cons_succ, List.set, List.getD_cons_zero, List.getD_cons_succ, Option.some.injEq, exists_eq_left', exists_eq_left, D.int.injEq, D.bl.injEq, D.ref.injEq, D.str.injEq, List.cons.injEq, and_true, true_and, exists_and_left, exists_and_right, decide_eq_true_eq, Bool.false_eq_true, if_true, if_false, ite_true, ite_false, Nat.zero_add, Nat.reduceAdd, Nat.reduceSub,
    z_gI, z_add, z_lt, z_le, z_int, z_intb, z_ixr, z_ixt, z_ixk, z_ixs, z_ixl, z_asQ, z_asQt, z_asQk, z_asQs, z_asQl, z_asL, z_asLl, z_at0, z_at1, z_at2, z_store, z_i20, z_i21, z_eq, z_ne, z_max2, z_min2, z_addt, z_sl, z_trb, z_trt, z_trk, z_trl, z_trs, List.isEmpty_cons, List.isEmpty_nil, Bool.not_true, Bool.not_false, z_len, z_lenl, z_lenk, z_lenr, z_lens, MS.set_set, MS.set_same]
  refine ⟨_, _, ⟨rfl, rfl⟩, ?_⟩
  refine while_inv (fun m ρ M' => M' = M ∧ ∃ one two : Int, ρ = [some (.int c), some (.int d), some (.int one), some (.int two)] ∧ 0 < one ∧ one < 1073741824 ∧ 0 ≤ two ∧ Nat.gcd one.natAbs two.natAbs = Nat.gcd c.natAbs d.natAbs ∧ two ≤ m ∧ two < 1073741824) (m := c.toNat) ?_ ⟨rfl, d, c, rfl, hd, hd2, hc, Nat.gcd_comm _ _, by omega, hc2⟩
  rintro m ρ M' ⟨rfl, one, two, rfl, o0, o1, t0, hg, hm, hm2⟩ K hK
  simp only [dSeq, dIf, dTest, dBin, dVar, dC, dAsg, dStore, dRet, dB, dCons, dNil, dTup, dLst, dLstM, dDrop, dM, dCall, dCallK, dTru, dNotT, dAndT, dOrT, dAndE, dOrE, dNotE, dIfE, dChain, dChain3, dNeg, dFor, dPar, dSlice, dPart, dNoPart, z_fld, dSetF, dRaise, dRz, dNext, dBreak, dCont, dRetN, dYes, dComp, iSeq, iRange1, iRange2, DL.iZip, DL.iEnum, startD, retD, asg, asgs, asT, gMod, gMul, DL.gSub, gGt, gGe, gFdiv, gPow, wipeD, finF, finM, perm,
    List.map_cons, List.map_nil, List.length_cons, List.length_nil, List.replicate, List.cons_append, List.nil_append, List.getElem?_cons_zero, List.getElem?_cons_succ, List.set, List.getD_cons_zero, List.getD_cons_succ, Option.some.injEq, exists_eq_left', exists_eq_left, D.int.injEq, D.bl.injEq, D.ref.injEq, D.str.injEq, List.cons.injEq, and_true, true_and, exists_and_left, exists_and_right, decide_eq_true_eq, Bool.false_eq_true, if_true, if_false, ite_true, ite_false, Nat.zero_add, Nat.reduceAdd, Nat.reduceSub,
    z_gI, z_add, z_lt, z_le, z_int, z_intb, z_ixr, z_ixt, z_ixk, z_ixs, z_ixl, z_asQ, z_asQt, z_asQk, z_asQs, z_asQl, z_asL, z_asLl, z_at0, z_at1, z_at2, z_store, z_i20, z_i21, z_eq, z_ne, z_max2, z_min2, z_addt, z_sl, z_trb, z_trt, z_trk, z_trl, z_trs, List.isEmpty_cons, List.isEmpty_nil, Bool.not_true, Bool.not_false, z_len, z_lenl, z_lenk, z_lenr, z_lens, MS.set_set, MS.set_same]
  by_cases c0 : 0 < two
  · rw [if_pos c0]
    obtain ⟨o, rfl⟩ := Int.eq_ofNat_of_zero_le (show 0 ≤ one by omega)
    obtain ⟨t, rfl⟩ := Int.eq_ofNat_of_zero_le t0
    have e : ((o : Nat) : Int) % ((t : Nat) : Int) = ((o % t : Nat) : Int) := rfl
    have lt : o % t < t := Nat.mod_lt _ (by omega)
    have le : o % t ≤ o := Nat.mod_le _ _
    refine ⟨c0, _, _, ⟨rfl, rfl⟩, hK (o % t) _ _ ?_ ⟨rfl, _, _, rfl, c0, hm2, ?_, ?_, ?_, ?_⟩⟩
    · omega
    · rw [e]; omega
    · rw [e, Int.natAbs_natCast, Int.natAbs_natCast, ← hg, Int.natAbs_natCast, Int.natAbs_natCast, Nat.gcd_comm, ← Nat.gcd_rec, Nat.gcd_comm]
    · rw [e]; exact Int.le_refl _
    · rw [e]; omega
  · rw [if_neg c0]
    have z : two = 0 := by omega
    subst z
    have eg : one = ((Nat.gcd c.natAbs d.natAbs : Nat) : Int) := by
      rw [← hg]
      show one = ((Nat.gcd one.natAbs 0 : Nat) : Int)
      rw [Nat.gcd_zero_right]; omega
    refine ⟨⟨o0, o1⟩, ⟨o0, o1⟩, by decide, RetOk.of ?_⟩
    unfold shD at k
    rw [← eg] at k
    exact k
theorem due_spec42 {n : Int} {rs : List (List Int)} {ws : List Lamp} (hL : LandOk n rs ws) (h5 : n ≤ 5) {pa : Int} {ra : List Int} (hpa : 0 ≤ pa ∧ pa < n) (ha : RowOk ws ra) {j : Nat} (hj : j < rs.length)
    (k : ∀ c0 c1 c2 : Int, c0 = ((statesUp n.toNat (rowsUp (ws.map (·.1)))).countP fun s => decide (clsS rs j pa ra s = 0)) → c1 = ((statesUp n.toNat (rowsUp (ws.map (·.1)))).countP fun s => decide (clsS rs j pa ra s = 1)) → c2 = ((statesUp n.toNat (rowsUp (ws.map (·.1)))).countP fun s => decide (clsS rs j pa ra s = 2)) → Q (.tup (shL c0 c1 c2)) M) :
    sp__law_due G [landD rs ws, stD pa ra, .int (j : Nat)] M Q R := by
  have h10 := hL.hi
  have hn := hL.all
  have hf := hL.few
  have la := ha.1
  refine ⟨rfl, ?_⟩
  simp only [T__law_due, dSeq, dIf, dTest, dBin, dVar, dC, dAsg, dStore, dRet, dB, dCons, dNil, dTup, dLst, dLstM, dDrop, dM, dCall, dCallK, dTru, dNotT, dAndT, dOrT, dAndE, dOrE, dNotE, dIfE, dChain, dChain3, dNeg, dFor, dPar, dSlice, dPart, dNoPart, z_fld, dSetF, dRaise, dRz, dNext, dBreak, dCont, dRetN, dYes, dComp, iSeq, iRange1, iRange2, DL.iZip, DL.iEnum, startD, retD, asg, asgs, asT, gMod, gMul, DL.gSub, gGt, gGe, gFdiv, gPow, wipeD, finF, finM, perm,
    List.map_cons, List.map_nil, List.length_cons, List.length_nil, List.replicate, List.cons_append, List.nil_append, List.getElem?_cons_zero, List.getElem?_cons_succ, List.set, List.getD_cons_zero, List.getD_cons_succ, Option.some.injEq, exists_eq_left', exists_eq_left, D.int.injEq, D.bl.injEq, D.ref.injEq, D.str.injEq, List.cons.injEq, and_true, true_and, exists_and_left, exists_and_right, decide_eq_true_eq, Bool.false_eq_true, if_true, if_false, ite_true, ite_false, Nat.zero_add, Nat.reduceAdd, Nat.reduceSub,
    z_gI, z_add, z_lt, z_le, z_int, z_intb, z_ixr, z_ixt, z_ixk, z_ixs, z_ixl, z_asQ, z_asQt, z_asQk, z_asQs, z_asQl, z_asL, z_asLl, z_at0, z_at1, z_at2, z_store, z_i20, z_i21, z_eq, z_ne, z_max2, z_min2, z_addt, z_sl, z_trb, z_trt, z_trk, z_trl, z_trs, List.isEmpty_cons, List.isEmpty_nil, Bool.not_true, Bool.not_false, z_len, z_lenl, z_lenk, z_lenr, z_lens, MS.set_set, MS.set_same]
  refine side_ok hL.rd.rd (by omega) hj hpa h10 fun S hS hSl => ?_
  refine ⟨by decide, fun p hp => ?_⟩
  refine ⟨by decide, ?_⟩
  refine lawstates_spec hn h5 hL.ok ⟨_, rfl, ?_⟩
  have hmem : ∀ s ∈ statesUp n.toNat (rowsUp (ws.map (·.1))), (0 ≤ s.1 ∧ s.1 < n) ∧ s.2.length = ws.length := fun s hs => by
    obtain ⟨x, hx, h2⟩ := List.mem_flatMap.mp hs
    obtain ⟨r, hr, rfl⟩ := List.mem_map.mp h2
    have := List.mem_range.mp hx
    have hl := rowsUp_len hr
    rw [List.length_map] at hl
    exact ⟨⟨by show (0 : Int) ≤ (x : Int); omega, by show (x : Int) < n; omega⟩, hl⟩
  have hlen : (statesUp n.toNat (rowsUp (ws.map (·.1)))).length ≤ 38880 := by
    rw [statesUp_len]
    have a := rowsUp_le (ms := ws.map (·.1)) fun m hm => by
      obtain ⟨w, hw, rfl⟩ := List.mem_map.mp hm
      exact (hL.ok w hw).2.1
    have b : (ws.map (·.1)).length ≤ 5 := by rw [List.length_map]; omega
    have c := Nat.le_trans a (Nat.pow_le_pow_right (by decide) b)
    exact Nat.mul_le_mul (show n.toNat ≤ 5 by omega) c
  generalize statesUp n.toNat (rowsUp (ws.map (·.1))) = states at hmem hlen k ⊢
  let cn : Nat → Nat → Int := fun t i => (((states.take i).countP fun s => decide (clsS rs j pa ra s = t) : Nat) : Int)
  have step : ∀ {i : Nat} {s : Int × List Int}, states[i]? = some s → ∀ t, cn t (i + 1) = cn t i + if clsS rs j pa ra s = t then 1 else 0 := fun {i s} h t => by
    show (((states.take (i + 1)).countP _ : Nat) : Int) = _
    rw [List.take_succ, h]
    show (((states.take i ++ [s]).countP _ : Nat) : Int) = _
    rw [List.countP_append, List.countP_singleton, Int.natCast_add]
    congr 1
    by_cases c : clsS rs j pa ra s = t
    · rw [if_pos c, if_pos (decide_eq_true c)]; rfl
    · rw [if_neg c, if_neg (by rw [decide_eq_false c]; decide)]; rfl
  refine for_inv (fun i ρ M2 => ∃ (o5 o6 o7 o8 : Option D), M2 = M.set p (.lst [.int (cn 0 i), .int (cn 1 i), .int (cn 2 i)]) ∧ ρ = [some (landD rs ws), some (stD pa ra), some (.int (j : Nat)), some (.lst (S.map D.int)), some (.ref p), o5, o6, o7, o8]) (fun _ _ _ _ => rfl) ?_ ?_ ⟨none, none, none, none, rfl, rfl⟩
  · rintro i d ρ M2 hd ⟨o5, o6, o7, o8, rfl, rfl⟩
    rw [List.getElem?_map] at hd
    obtain ⟨s, hs, rfl⟩ := Option.map_eq_some_iff.mp hd
    obtain ⟨hs1, hs2⟩ := hmem s (List.mem_of_getElem? hs)
    refine ⟨_, rfl, fun K hK => ?_⟩
    simp only [dSeq, dIf, dTest, dBin, dVar, dC, dAsg, dStore, dRet, dB, dCons, dNil, dTup, dLst, dLstM, dDrop, dM, dCall, dCallK, dTru, dNotT, dAndT, dOrT, dAndE, dOrE, dNotE, dIfE, dChain, dChain3, dNeg, dFor, dPar, dSlice, dPart, dNoPart, z_fld, dSetF, dRaise, dRz, dNext, dBreak, dCont, dRetN, dYes, dComp, iSeq, iRange1, iRange2, DL.iZip, DL.iEnum, startD, retD, asg, asgs, asT, gMod, gMul, DL.gSub, gGt, gGe, gFdiv, gPow, wipeD, finF, finM, perm,
    List.map_cons, List.map_nil, List.length_cons, List.length_nil, List.replicate, List.cons_append, List.nil_append, List.getElem?_cons_zero, List.getElem?_cons_succ, List.set, List.getD_cons_zero, List.getD_cons_succ, Option.some.injEq, exists_eq_left', exists_eq_left, D.int.injEq, D.bl.injEq, D.ref.injEq, D.str.injEq, List.cons.injEq, and_true, true_and, exists_and_left, exists_and_right, decide_eq_true_eq, Bool.false_eq_true, if_true, if_false, ite_true, ite_false, Nat.zero_add, Nat.reduceAdd, Nat.reduceSub,
    z_gI, z_add, z_lt, z_le, z_int, z_intb, z_ixr, z_ixt, z_ixk, z_ixs, z_ixl, z_asQ, z_asQt, z_asQk, z_asQs, z_asQl, z_asL, z_asLl, z_at0, z_at1, z_at2, z_store, z_i20, z_i21, z_eq, z_ne, z_max2, z_min2, z_addt, z_sl, z_trb, z_trt, z_trk, z_trl, z_trs, List.isEmpty_cons, List.isEmpty_nil, Bool.not_true, Bool.not_false, z_len, z_lenl, z_lenk, z_lenr, z_lens, MS.set_set, MS.set_same]
    refine in_ints (neg := true) (l := S) rfl ⟨_, rfl, ?_⟩
    have st := step hs
    have hfar : farB rs j pa s.1.toNat = true ↔ s.1 ∉ S := by rw [farB_iff, hS, Int.toNat_of_nonneg hs1.1]
    by_cases c : s.1 ∈ S
    · rw [if_neg (by simp [c])]
      have cf : ¬ farB rs j pa s.1.toNat = true := fun z => hfar.mp z c
      rw [List.length_map, hn]
      refine ⟨by omega, by omega, ?_⟩
      let pU : Int → Bool := fun y => !decide (y ∈ S) && !decide (ra.getD y.toNat 0 = s.2.getD y.toNat 0)
      refine DL.comp_map (fun d => match d with | .int y => pU y | _ => false) id ?_ (rangeD 0 n.toNat) [] (fun d hd => ?_) (by rw [rangeD_len]; simp; omega) ?_
      · first | exact trivial | exact rfl
      · obtain ⟨y, hy⟩ := List.getElem?_of_mem hd
        obtain ⟨hy2, rfl⟩ := rangeD_get hy
        have g1 := at_intQ42 (l := ra) (x := 0 + (y : Int)) ⟨by omega, by omega⟩
        have g2 := at_intQ42 (l := s.2) (x := 0 + (y : Int)) ⟨by omega, by omega⟩
        refine ⟨_, rfl, fun Q' hq => ?_, fun _ Q' hq => ?_⟩
        · simp only [dSeq, dIf, dTest, dBin, dVar, dC, dAsg, dStore, dRet, dB, dCons, dNil, dTup, dLst, dLstM, dDrop, dM, dCall, dCallK, dTru, dNotT, dAndT, dOrT, dAndE, dOrE, dNotE, dIfE, dChain, dChain3, dNeg, dFor, dPar, dSlice, dPart, dNoPart, z_fld, dSetF, dRaise, dRz, dNext, dBreak, dCont, dRetN, dYes, dComp, iSeq, iRange1, iRange2, DL.iZip, DL.iEnum, startD, retD, asg, asgs, asT, gMod, gMul, DL.gSub, gGt, gGe, gFdiv, gPow, wipeD, finF, finM, perm,
    List.map_cons, List.map_nil, List.length_cons, List.length_nil, List.replicate, List.cons_append, List.nil_append, List.getElem?_cons_zero, List.getElem?_cons_succ, List.set, List.getD_cons_zero, List.getD_cons_succ, Option.some.injEq, exists_eq_left', exists_eq_left, D.int.injEq, D.bl.injEq, D.ref.injEq, D.str.injEq, List.cons.injEq, and_true, true_and, exists_and_left, exists_and_right, decide_eq_true_eq, Bool.false_eq_true, if_true, if_false, ite_true, ite_false, Nat.zero_add, Nat.reduceAdd, Nat.reduceSub,
    z_gI, z_add, z_lt, z_le, z_int, z_intb, z_ixr, z_ixt, z_ixk, z_ixs, z_ixl, z_asQ, z_asQt, z_asQk, z_asQs, z_asQl, z_asL, z_asLl, z_at0, z_at1, z_at2, z_store, z_i20, z_i21, z_eq, z_ne, z_max2, z_min2, z_addt, z_sl, z_trb, z_trt, z_trk, z_trl, z_trs, List.isEmpty_cons, List.isEmpty_nil, Bool.not_true, Bool.not_false, z_len, z_lenl, z_lenk, z_lenr, z_lens, MS.set_set, MS.set_same]
          refine in_ints (neg := true) (l := S) rfl ⟨_, rfl, ?_⟩
          by_cases c2 : (0 + (y : Int)) ∈ S
          · rw [if_neg (by simpa using c2)]
            have e : pU (0 + (y : Int)) = false := by simp only [pU, decide_eq_true c2]; rfl
            simp only [e] at hq
            exact hq
          · rw [if_pos (by simpa using c2)]
            refine ⟨_, g1, _, g2, z_ne.mpr ?_⟩
            have e : pU (0 + (y : Int)) = !decide (ra.getD (0 + (y : Int)).toNat 0 = s.2.getD (0 + (y : Int)).toNat 0) := by simp only [pU, decide_eq_false c2]; rfl
            simp only [e] at hq
            exact ⟨_, rfl, hq⟩
        · simp only [dSeq, dIf, dTest, dBin, dVar, dC, dAsg, dStore, dRet, dB, dCons, dNil, dTup, dLst, dLstM, dDrop, dM, dCall, dCallK, dTru, dNotT, dAndT, dOrT, dAndE, dOrE, dNotE, dIfE, dChain, dChain3, dNeg, dFor, dPar, dSlice, dPart, dNoPart, z_fld, dSetF, dRaise, dRz, dNext, dBreak, dCont, dRetN, dYes, dComp, iSeq, iRange1, iRange2, DL.iZip, DL.iEnum, startD, retD, asg, asgs, asT, gMod, gMul, DL.gSub, gGt, gGe, gFdiv, gPow, wipeD, finF, finM, perm,
    List.map_cons, List.map_nil, List.length_cons, List.length_nil, List.replicate, List.cons_append, List.nil_append, List.getElem?_cons_zero, List.getElem?_cons_succ, List.set, List.getD_cons_zero, List.getD_cons_succ, Option.some.injEq, exists_eq_left', exists_eq_left, D.int.injEq, D.bl.injEq, D.ref.injEq, D.str.injEq, List.cons.injEq, and_true, true_and, exists_and_left, exists_and_right, decide_eq_true_eq, Bool.false_eq_true, if_true, if_false, ite_true, ite_false, Nat.zero_add, Nat.reduceAdd, Nat.reduceSub,
    z_gI, z_add, z_lt, z_le, z_int, z_intb, z_ixr, z_ixt, z_ixk, z_ixs, z_ixl, z_asQ, z_asQt, z_asQk, z_asQs, z_asQl, z_asL, z_asLl, z_at0, z_at1, z_at2, z_store, z_i20, z_i21, z_eq, z_ne, z_max2, z_min2, z_addt, z_sl, z_trb, z_trt, z_trk, z_trl, z_trs, List.isEmpty_cons, List.isEmpty_nil, Bool.not_true, Bool.not_false, z_len, z_lenl, z_lenk, z_lenr, z_lens, MS.set_set, MS.set_same]
          exact hq
      have eU : [] ++ ((rangeD 0 n.toNat).filter fun d => match d with | .int y => pU y | _ => false).map id = (((List.range n.toNat).map fun i : Nat => (i : Int)).filter pU).map D.int := by
        rw [List.nil_append, List.map_id, rangeD_ints, List.filter_map]
        rfl
      rw [eU]
      have hU : ((List.range n.toNat).map fun i : Nat => (i : Int)).filter pU = [] ↔ allB (goodF (farB rs j pa) ra) 0 s.2 = true := by
        rw [allB_iff, List.filter_eq_nil_iff]
        constructor
        · intro h i hi
          have hi2 : (i : Int) ∈ (List.range n.toNat).map fun i : Nat => (i : Int) := List.mem_map.mpr ⟨i, List.mem_range.mpr (by omega), rfl⟩
          have z := h _ hi2
          rw [Nat.zero_add]
          unfold goodF
          by_cases c3 : farB rs j pa i = true
          · have c4 : (i : Int) ∉ S := by rw [hS]; exact farB_iff.mp c3
            rw [c3]
            simp only [pU, decide_eq_false c4, Int.toNat_natCast] at z
            simpa using z
          · simp [c3]
        · intro h y hy
          obtain ⟨i, hi, rfl⟩ := List.mem_map.mp hy
          have hi := List.mem_range.mp hi
          have z := h i (by omega)
          rw [Nat.zero_add] at z
          unfold goodF at z
          by_cases c4 : (i : Int) ∈ S
          · simp [pU, c4]
          · have c3 : farB rs j pa i = true := farB_iff.mpr fun q => c4 ((hS _).mpr q)
            rw [c3] at z
            simp only [pU, decide_eq_false c4, Int.toNat_natCast]
            simpa using z
      generalize ((List.range n.toNat).map fun i : Nat => (i : Int)).filter pU = U at hU ⊢
      refine ⟨by decide, ne_nilL ⟨_, rfl, ?_⟩⟩
      by_cases c5 : U = []
      · have hc : clsS rs j pa ra s = 0 := by unfold clsS; rw [if_neg cf, if_pos (hU.mp c5)]
        rw [if_neg (by simp [c5])]
        refine z_ixr.mpr ⟨_, rfl, z_add.mpr ⟨by decide, ne_nilL ⟨_, rfl, ?_⟩⟩⟩
        rw [if_neg (by simp [c5])]
        refine z_store.mpr ⟨0, rfl, hK _ _ ⟨_, _, _, _, ?_, rfl⟩⟩
        rw [st 0, st 1, st 2, hc]
        simp
      · have hc : clsS rs j pa ra s = 2 := by unfold clsS; rw [if_neg cf, if_neg (fun z => c5 (hU.mpr z))]
        rw [if_pos (by simp [c5])]
        refine z_ixr.mpr ⟨_, rfl, z_add.mpr ⟨by decide, ne_nilL ⟨_, rfl, ?_⟩⟩⟩
        rw [if_pos (by simp [c5])]
        refine z_store.mpr ⟨2, rfl, hK _ _ ⟨_, _, _, _, ?_, rfl⟩⟩
        rw [st 0, st 1, st 2, hc]
        simp
    · have hc : clsS rs j pa ra s = 1 := by unfold clsS; rw [if_pos (hfar.mpr c)]
      rw [if_pos (by simp [c])]
      refine z_ixr.mpr ⟨_, rfl, z_add.mpr (z_store.mpr ⟨1, rfl, hK _ _ ⟨_, _, _, _, ?_, rfl⟩⟩)⟩
      rw [st 0, st 1, st 2, hc]
      simp
  · rintro ρ M2 ⟨o5, o6, o7, o8, rfl, rfl⟩
    rw [List.length_map]
    simp only [dSeq, dIf, dTest, dBin, dVar, dC, dAsg, dStore, dRet, dB, dCons, dNil, dTup, dLst, dLstM, dDrop, dM, dCall, dCallK, dTru, dNotT, dAndT, dOrT, dAndE, dOrE, dNotE, dIfE, dChain, dChain3, dNeg, dFor, dPar, dSlice, dPart, dNoPart, z_fld, dSetF, dRaise, dRz, dNext, dBreak, dCont, dRetN, dYes, dComp, iSeq, iRange1, iRange2, DL.iZip, DL.iEnum, startD, retD, asg, asgs, asT, gMod, gMul, DL.gSub, gGt, gGe, gFdiv, gPow, wipeD, finF, finM, perm,
    List.map_cons, List.map_nil, List.length_cons, List.length_nil, List.replicate, List.cons_append, List.nil_append, List.getElem?_cons_zero, List.getElem?_cons_succ, List.set, List.getD_cons_zero, List.getD_cons_succ, Option.some.injEq, exists_eq_left', exists_eq_left, D.int.injEq, D.bl.injEq, D.ref.injEq, D.str.injEq, List.cons.injEq, and_true, true_and, exists_and_left, exists_and_right, decide_eq_true_eq, Bool.false_eq_true, if_true, if_false, ite_true, ite_false, Nat.zero_add, Nat.reduceAdd, Nat.reduceSub,
    z_gI, z_add, z_lt, z_le, z_int, z_intb, z_ixr, z_ixt, z_ixk, z_ixs, z_ixl, z_asQ, z_asQt, z_asQk, z_asQs, z_asQl, z_asL, z_asLl, z_at0, z_at1, z_at2, z_store, z_i20, z_i21, z_eq, z_ne, z_max2, z_min2, z_addt, z_sl, z_trb, z_trt, z_trk, z_trl, z_trs, List.isEmpty_cons, List.isEmpty_nil, Bool.not_true, Bool.not_false, z_len, z_lenl, z_lenk, z_lenr, z_lens, MS.set_set, MS.set_same]
    rw [show (Int.toNat 3) = 3 from rfl]
    refine ⟨by decide, by decide, ?_⟩
    have hk := k (cn 0 states.length) (cn 1 states.length) (cn 2 states.length) (by simp only [cn, List.take_length]) (by simp only [cn, List.take_length]) (by simp only [cn, List.take_length])
    have n0 : 0 ≤ cn 0 states.length ∧ 0 ≤ cn 1 states.length ∧ 0 ≤ cn 2 states.length := ⟨Int.natCast_nonneg _, Int.natCast_nonneg _, Int.natCast_nonneg _⟩
    have hsum : cn 0 states.length + cn 1 states.length + cn 2 states.length ≤ 100000 := by
      have z := cls_sum (clsS rs j pa ra) (fun s => by unfold clsS; split; exact .inr (.inl rfl); split; exact .inl rfl; exact .inr (.inr rfl)) states
      simp only [cn, List.take_length]
      omega
    generalize cn 0 states.length = c0 at hk n0 hsum ⊢
    generalize cn 1 states.length = c1 at hk n0 hsum ⊢
    generalize cn 2 states.length = c2 at hk n0 hsum ⊢
    have hs : ([c0, c1, c2] : List Int).sum = c0 + c1 + c2 := by simp [List.sum_cons]; omega
    refine DL.comp_map (fun d => match d with | .int t => decide (([c0, c1, c2] : List Int).getD t.toNat 0 ≠ 0) | _ => false) (fun d => match d with | .int t => .tup [.int t, shD (([c0, c1, c2] : List Int).getD t.toNat 0) ([c0, c1, c2] : List Int).sum] | d => d) ?_ (rangeD 0 3) [] (fun d hd => ?_) (by rw [rangeD_len]; decide) ?_
    · first | exact trivial | exact rfl
    · have hz : ∃ t : Int, d = .int t ∧ 0 ≤ t ∧ t < 3 := by
        obtain ⟨t, ht⟩ := List.getElem?_of_mem hd
        obtain ⟨ht2, rfl⟩ := rangeD_get ht
        exact ⟨_, rfl, by omega, by omega⟩
      obtain ⟨t, rfl, t0, t1⟩ := hz
      have g1 := at_intQ42 (l := [c0, c1, c2]) (x := t) ⟨t0, by simpa using t1⟩
      have gn : 0 ≤ ([c0, c1, c2] : List Int).getD t.toNat 0 := by
        have : t = 0 ∨ t = 1 ∨ t = 2 := by omega
        rcases this with rfl | rfl | rfl
        · exact n0.1
        · exact n0.2.1
        · exact n0.2.2
      refine ⟨_, rfl, fun Q' hq => ?_, fun hc Q' hq => ?_⟩
      · simp only [dSeq, dIf, dTest, dBin, dVar, dC, dAsg, dStore, dRet, dB, dCons, dNil, dTup, dLst, dLstM, dDrop, dM, dCall, dCallK, dTru, dNotT, dAndT, dOrT, dAndE, dOrE, dNotE, dIfE, dChain, dChain3, dNeg, dFor, dPar, dSlice, dPart, dNoPart, z_fld, dSetF, dRaise, dRz, dNext, dBreak, dCont, dRetN, dYes, dComp, iSeq, iRange1, iRange2, DL.iZip, DL.iEnum, startD, retD, asg, asgs, asT, gMod, gMul, DL.gSub, gGt, gGe, gFdiv, gPow, wipeD, finF, finM, perm,
    List.map_cons, List.map_nil, List.length_cons, List.length_nil, List.replicate, List.cons_append, List.nil_append, List.getElem?_cons_zero, List.getElem?_cons_succ, List.set, List.getD_cons_zero, List.getD_cons_succ, Option.some.injEq, exists_eq_left', exists_eq_left, D.int.injEq, D.bl.injEq, D.ref.injEq, D.str.injEq, List.cons.injEq, and_true, true_and, exists_and_left, exists_and_right, decide_eq_true_eq, Bool.false_eq_true, if_true, if_false, ite_true, ite_false, Nat.zero_add, Nat.reduceAdd, Nat.reduceSub,
    z_gI, z_add, z_lt, z_le, z_int, z_intb, z_ixr, z_ixt, z_ixk, z_ixs, z_ixl, z_asQ, z_asQt, z_asQk, z_asQs, z_asQl, z_asL, z_asLl, z_at0, z_at1, z_at2, z_store, z_i20, z_i21, z_eq, z_ne, z_max2, z_min2, z_addt, z_sl, z_trb, z_trt, z_trk, z_trl, z_trs, List.isEmpty_cons, List.isEmpty_nil, Bool.not_true, Bool.not_false, z_len, z_lenl, z_lenk, z_lenr, z_lens, MS.set_set, MS.set_same]
        refine ⟨_, g1, z_gI.mpr ⟨trivial, ?_⟩⟩
        have e : decide (0 < ([c0, c1, c2] : List Int).getD t.toNat 0) = decide (([c0, c1, c2] : List Int).getD t.toNat 0 ≠ 0) := decide_eq_decide.mpr ⟨fun _ => by omega, fun _ => by omega⟩
        rw [e]
        exact ⟨_, rfl, hq⟩
      · have hne := of_decide_eq_true hc
        simp only [dSeq, dIf, dTest, dBin, dVar, dC, dAsg, dStore, dRet, dB, dCons, dNil, dTup, dLst, dLstM, dDrop, dM, dCall, dCallK, dTru, dNotT, dAndT, dOrT, dAndE, dOrE, dNotE, dIfE, dChain, dChain3, dNeg, dFor, dPar, dSlice, dPart, dNoPart, z_fld, dSetF, dRaise, dRz, dNext, dBreak, dCont, dRetN, dYes, dComp, iSeq, iRange1, iRange2, DL.iZip, DL.iEnum, startD, retD, asg, asgs, asT, gMod, gMul, DL.gSub, gGt, gGe, gFdiv, gPow, wipeD, finF, finM, perm,
    List.map_cons, List.map_nil, List.length_cons, List.length_nil, List.replicate, List.cons_append, List.nil_append, List.getElem?_cons_zero, List.getElem?_cons_succ, List.set, List.getD_cons_zero, List.getD_cons_succ, Option.some.injEq, exists_eq_left', exists_eq_left, D.int.injEq, D.bl.injEq, D.ref.injEq, D.str.injEq, List.cons.injEq, and_true, true_and, exists_and_left, exists_and_right, decide_eq_true_eq, Bool.false_eq_true, if_true, if_false, ite_true, ite_false, Nat.zero_add, Nat.reduceAdd, Nat.reduceSub,
    z_gI, z_add, z_lt, z_le, z_int, z_intb, z_ixr, z_ixt, z_ixk, z_ixs, z_ixl, z_asQ, z_asQt, z_asQk, z_asQs, z_asQl, z_asL, z_asLl, z_at0, z_at1, z_at2, z_store, z_i20, z_i21, z_eq, z_ne, z_max2, z_min2, z_addt, z_sl, z_trb, z_trt, z_trk, z_trl, z_trs, List.isEmpty_cons, List.isEmpty_nil, Bool.not_true, Bool.not_false, z_len, z_lenl, z_lenk, z_lenr, z_lens, MS.set_set, MS.set_same]
        refine ⟨_, g1, ?_⟩
        refine ⟨_, [c0, c1, c2].map D.int, [c0, c1, c2], rfl, by simp [asQ, asL, MS.set_same], rfl, ?_⟩
        refine lawshare_spec gn (by
          have : t = 0 ∨ t = 1 ∨ t = 2 := by omega
          rcases this with rfl | rfl | rfl
          · show c0 < _; omega
          · show c1 < _; omega
          · show c2 < _; omega) ?_ ?_ ⟨by decide, hq⟩
        · rw [hs]
          have : t = 0 ∨ t = 1 ∨ t = 2 := by omega
          rcases this with rfl | rfl | rfl
          · have : c0 ≠ 0 := hne
            omega
          · have : c1 ≠ 0 := hne
            omega
          · have : c2 ≠ 0 := hne
            omega
        · rw [hs]; omega
    · have e : [] ++ ((rangeD 0 3).filter fun d => match d with | .int t => decide (([c0, c1, c2] : List Int).getD t.toNat 0 ≠ 0) | _ => false).map (fun d => match d with | .int t => .tup [.int t, shD (([c0, c1, c2] : List Int).getD t.toNat 0) ([c0, c1, c2] : List Int).sum] | d => d) = shL c0 c1 c2 := by
        rw [show rangeD 0 3 = [D.int 0, D.int 1, D.int 2] from rfl, List.nil_append]
        unfold shL
        by_cases z0 : c0 = 0 <;> by_cases z1 : c1 = 0 <;> by_cases z2 : c2 = 0 <;> simp [List.filter, z0, z1, z2]
      rw [e]
      refine ⟨_, rfl, .inr ⟨_, rfl, ?_⟩⟩
      refine ⟨_, M, fun c o ec => ?_, .refl _, hk⟩
      rw [MS.set_ne (fun z => by rw [z, hp] at ec; cases ec)]; exact ec
end LW

set_option Elab.async false
set_option maxRecDepth 100000
set_option maxHeartbeats 4000000
/-! k42: both counts are one; the law -/
namespace DL
open PySem PySem.Spec L2
section
variable {n : Int} {rs : List (List Int)} {ws : List Lamp} (hn : (ws.length : Int) = n) (hok : ∀ w ∈ ws, LampOk w) {ra : List Int} (ha : LW.RowOk ws ra)
theorem count_flat {α : Type} (P : Int × List Int → Bool) (rows : List (List Int)) : ∀ m : Nat, (statesUp m rows).countP P = ((List.range m).map fun x : Nat => (rows.map fun r => ((x : Int), r)).countP P).sum
  | m => by unfold statesUp; rw [List.countP_flatMap]; rfl
include hn hok
theorem rows_W : ((rowsUp (ws.map (·.1))).length : Int) = allW n ws := by
  rw [rows_all, prodN_pI, allW_eq hn hok, List.length_map, show ws.length = n.toNat by omega]
  exact pI_congr fun i hi => let_all i (by have := pos_at hn hok hi; omega)
include ha
theorem near_W (j : Nat) (x : Int) : (((rowsUp (ws.map (·.1))).countP (allB (goodF (farB rs j x) ra) 0) : Nat) : Int) = nearW n rs ws j x := by
  rw [rows_count, prodN_pI, List.length_map, show ws.length = n.toNat by omega]
  unfold nearW
  refine pI_congr fun i hi => ?_
  have h1 : i < ws.length := by omega
  have h2 : i < ra.length := by rw [ha.1]; exact h1
  refine let_good ?_
  have := ha.2 i ra[i] ws[i] (List.getElem?_eq_getElem h2) (List.getElem?_eq_getElem h1)
  rw [List.getD_eq_getElem?_getD, List.getElem?_eq_getElem h2, List.getD_eq_getElem?_getD, List.getElem?_map, List.getElem?_eq_getElem h1]
  exact this
theorem counts_eq (j : Nat) (x : Int) (h1 : 1 ≤ n) :
    (((statesUp n.toNat (rowsUp (ws.map (·.1)))).countP fun s => decide (clsS rs j x ra s = 0) : Nat) : Int) = c0S n rs ws j x ∧
    (((statesUp n.toNat (rowsUp (ws.map (·.1)))).countP fun s => decide (clsS rs j x ra s = 1) : Nat) : Int) = c1S n rs ws j x ∧
    (((statesUp n.toNat (rowsUp (ws.map (·.1)))).countP fun s => decide (clsS rs j x ra s = 2) : Nat) : Int) = c2S n rs ws j x := by
  have hW := rows_W hn hok
  have hN := near_W (rs := rs) hn hok ha j x
  have hlen := statesUp_len n.toNat (rowsUp (ws.map (·.1)))
  have hsum := cls_sum (clsS rs j x ra) (fun s => by unfold clsS; split; exact .inr (.inl rfl); split; exact .inl rfl; exact .inr (.inr rfl)) (statesUp n.toNat (rowsUp (ws.map (·.1))))
  have hf : (farL n rs j x).length = (List.range n.toNat).countP (farB rs j x) := by unfold farL; rw [List.length_map, List.countP_eq_length_filter]
  have e1 : ((statesUp n.toNat (rowsUp (ws.map (·.1)))).countP fun s => decide (clsS rs j x ra s = 1)) = (List.range n.toNat).countP (farB rs j x) * (rowsUp (ws.map (·.1))).length := by
    rw [count_flat (α := Unit), ← sum_ifs]
    congr 1
    refine List.map_congr_left fun y hy => ?_
    rw [List.countP_map]
    by_cases c : farB rs j x y = true
    · rw [if_pos c]
      refine List.countP_eq_length.mpr fun r _ => ?_
      simp only [Function.comp]
      refine decide_eq_true ?_
      unfold clsS
      rw [if_pos (by rw [Int.toNat_natCast]; exact c)]
    · rw [if_neg c]
      refine List.countP_eq_zero.mpr fun r _ => ?_
      simp only [Function.comp, decide_eq_true_eq]
      unfold clsS
      rw [if_neg (by rw [Int.toNat_natCast]; exact c)]
      split <;> omega
  have e0 : ((statesUp n.toNat (rowsUp (ws.map (·.1)))).countP fun s => decide (clsS rs j x ra s = 0)) = ((List.range n.toNat).countP fun y => !farB rs j x y) * (rowsUp (ws.map (·.1))).countP (allB (goodF (farB rs j x) ra) 0) := by
    rw [count_flat (α := Unit), ← sum_ifs]
    congr 1
    refine List.map_congr_left fun y hy => ?_
    rw [List.countP_map]
    by_cases c : farB rs j x y = true
    · rw [if_neg (by rw [c]; decide)]
      refine List.countP_eq_zero.mpr fun r _ => ?_
      simp only [Function.comp, decide_eq_true_eq]
      unfold clsS
      rw [if_pos (by rw [Int.toNat_natCast]; exact c)]
      decide
    · have c' : farB rs j x y = false := by simpa using c
      rw [if_pos (by rw [c']; rfl)]
      refine List.countP_congr fun r _ => ?_
      simp only [Function.comp, decide_eq_true_eq]
      unfold clsS
      rw [if_neg (by rw [Int.toNat_natCast]; exact c)]
      constructor
      · intro z
        split at z
        · assumption
        · cases z
      · intro z; rw [if_pos z]
  have hnot : ((List.range n.toNat).countP fun y => !farB rs j x y) + (List.range n.toNat).countP (farB rs j x) = n.toNat := by
    have := List.length_eq_countP_add_countP (farB rs j x) (l := List.range n.toNat)
    rw [List.length_range] at this
    have e : ((List.range n.toNat).countP fun y => !farB rs j x y) = (List.range n.toNat).countP fun y => decide ¬ farB rs j x y = true := by
      refine List.countP_congr fun y _ => ?_
      simp
    omega
  have r0 : (((statesUp n.toNat (rowsUp (ws.map (·.1)))).countP fun s => decide (clsS rs j x ra s = 0) : Nat) : Int) = c0S n rs ws j x := by
    rw [e0, Int.natCast_mul, hN]
    unfold c0S
    rw [hf]
    congr 1
    omega
  have r1 : (((statesUp n.toNat (rowsUp (ws.map (·.1)))).countP fun s => decide (clsS rs j x ra s = 1) : Nat) : Int) = c1S n rs ws j x := by
    rw [e1, Int.natCast_mul, hW]
    unfold c1S
    rw [hf]
  refine ⟨r0, r1, ?_⟩
  have r3 : ((statesUp n.toNat (rowsUp (ws.map (·.1)))).length : Int) = n * allW n ws := by
    rw [hlen, Int.natCast_mul, hW]
    congr 1
    omega
  unfold c2S
  omega
end
end DL

set_option Elab.async false
set_option maxRecDepth 100000
set_option maxHeartbeats 4000000
/-! k42: the law -/
namespace DL
open PySem PySem.Spec L2
def sh3 (q : Int × Int × Int) : D := .tup [.int q.1, .tup [.int q.2.1, .int q.2.2]]
def sh3P (q : Int × Int × Int) : PyData := .tuple [.int q.1, .tuple [.int q.2.1, .int q.2.2]]
theorem sh3_toPs : ∀ l : List (Int × Int × Int), toPs (l.map sh3) = some (l.map sh3P)
  | [] => rfl
  | a :: l => by simp only [List.map_cons, toPs, sh3, toP, sh3_toPs l, sh3P]
theorem sh3_shaped (l : List (Int × Int × Int)) : SeqAt.shaped (.tuple (l.map sh3P)) = true := by
  have cl : PyData.canLayAll0 (l.map sh3P) = true := by
    induction l with
    | nil => rfl
    | cons a l ih => simp only [List.map_cons, sh3P, PyData.canLayAll0, PyData.canLay0, ih, Bool.and_self]
  have dp : PyData.depthAll (l.map sh3P) ≤ 2 := by
    clear cl
    induction l with
    | nil => simp [PyData.depthAll]
    | cons a l ih => simp only [List.map_cons, sh3P, PyData.depthAll, PyData.depth] at ih ⊢; omega
  simp only [SeqAt.shaped, PyData.canLay0, cl, PyData.depth, Bool.true_and]
  exact decide_eq_true (by omega)
theorem shL_sh3 (c0 c1 c2 : Int) : ∃ l : List (Int × Int × Int), shL c0 c1 c2 = l.map sh3 := ⟨(([(0, c0), (1, c1), (2, c2)] : List (Int × Int)).filter fun p => decide (p.2 ≠ 0)).map fun p => (p.1, p.2 / ((Nat.gcd p.2.natAbs (([c0, c1, c2] : List Int).sum).natAbs : Nat) : Int), ([c0, c1, c2] : List Int).sum / ((Nat.gcd p.2.natAbs (([c0, c1, c2] : List Int).sum).natAbs : Nat) : Int)), by
  unfold shL; rw [List.map_map]; rfl⟩
theorem ne_same42 {M : MS} {Q : QD} {d d' : D} {p : PyData} (h : toPM M d = some p) (h' : toPM M d' = some p) (s : SeqAt.shaped p = true) (k : Q (.bl false) M) : gNe d d' M Q := by
  refine ⟨p, p, h, h', s, s, ?_⟩
  have : PyData.eqv p p = true := by
    refine SeqAt.eqv_refl p ?_
    unfold SeqAt.shaped at s
    simp only [Bool.and_eq_true] at s
    exact s.1
  rw [this]; exact k
theorem eq_same42 {M : MS} {Q : QD} {d d' : D} {p : PyData} (h : toPM M d = some p) (h' : toPM M d' = some p) (s : SeqAt.shaped p = true) (k : Q (.bl true) M) : gEq d d' M Q := by
  refine ⟨p, p, h, h', s, s, ?_⟩
  have : PyData.eqv p p = true := by
    refine SeqAt.eqv_refl p ?_
    unfold SeqAt.shaped at s
    simp only [Bool.and_eq_true] at s
    exact s.1
  rw [this]; exact k
theorem okstr_p42 : PyData.strOk ("place" : Str) = true := by decide +kernel
theorem okstr_r42 : PyData.strOk ("road" : Str) = true := by decide +kernel
end DL
namespace LW
open PySem PySem.Spec L2 DL
variable {G : GEnv} {M : MS} {Q : QD} {R : RK}
theorem lawmany42 {n : Int} {rs : List (List Int)} {ws : List Lamp} (hn : (ws.length : Int) = n) (hok : ∀ w ∈ ws, LampOk w) (k : ∀ v : Int, Q (.int v) M) : sp__law_states_many G [landD rs ws] M Q R := by
  refine ⟨rfl, ?_⟩
  simp only [T__law_states_many, dSeq, dIf, dTest, dBin, dVar, dC, dAsg, dStore, dRet, dB, dCons, dNil, dTup, dLst, dLstM, dDrop, dM, dCall, dCallK, dTru, dNotT, dAndT, dOrT, dAndE, dOrE, dNotE, dIfE, dChain, dChain3, dNeg, dFor, dPar, dSlice, dPart, dNoPart, z_fld, dSetF, dRaise, dRz, dNext, dBreak, dCont, dRetN, dYes, dComp, iSeq, iRange1, iRange2, DL.iZip, DL.iEnum, startD, retD, asg, asgs, asT, gMod, gMul, DL.gSub, gGt, gGe, gFdiv, gPow, wipeD, finF, finM, perm,
    List.map_cons, List.map_nil, List.length_cons, List.length_nil, List.replicate, List.cons_append, List.nil_append, List.getElem?_cons_zero, List.getElem?_cons_succ, List.set, List.getD_cons_zero, List.getD_cons_succ, Option.some.injEq, exists_eq_left', exists_eq_left, D.int.injEq, D.bl.injEq, D.ref.injEq, D.str.injEq, List.cons.injEq, and_true, true_and, exists_and_left, exists_and_right, decide_eq_true_eq, Bool.false_eq_true, if_true, if_false, ite_true, ite_false, Nat.zero_add, Nat.reduceAdd, Nat.reduceSub,
    z_gI, z_add, z_lt, z_le, z_int, z_intb, z_ixr, z_ixt, z_ixk, z_ixs, z_ixl, z_asQ, z_asQt, z_asQk, z_asQs, z_asQl, z_asL, z_asLl, z_at0, z_at1, z_at2, z_store, z_i20, z_i21, z_eq, z_ne, z_max2, z_min2, z_addt, z_sl, z_trb, z_trt, z_trk, z_trl, z_trs, List.isEmpty_cons, List.isEmpty_nil, Bool.not_true, Bool.not_false, z_len, z_lenl, z_lenk, z_lenr, z_lens, MS.set_set, MS.set_same]
  refine for_inv (fun i ρ M' => M' = M ∧ ∃ v o o', ρ = [some (landD rs ws), some (.int v), o, o']) (fun _ _ _ _ => trivial) ?_ ?_ ⟨rfl, _, none, none, rfl⟩
  · rintro i d ρ M' hd ⟨rfl, v, o, o', rfl⟩
    rw [List.getElem?_map] at hd
    obtain ⟨w, hw, rfl⟩ := Option.map_eq_some_iff.mp hd
    refine ⟨_, rfl, fun K hK => ?_⟩
    simp only [dSeq, dIf, dTest, dBin, dVar, dC, dAsg, dStore, dRet, dB, dCons, dNil, dTup, dLst, dLstM, dDrop, dM, dCall, dCallK, dTru, dNotT, dAndT, dOrT, dAndE, dOrE, dNotE, dIfE, dChain, dChain3, dNeg, dFor, dPar, dSlice, dPart, dNoPart, z_fld, dSetF, dRaise, dRz, dNext, dBreak, dCont, dRetN, dYes, dComp, iSeq, iRange1, iRange2, DL.iZip, DL.iEnum, startD, retD, asg, asgs, asT, gMod, gMul, DL.gSub, gGt, gGe, gFdiv, gPow, wipeD, finF, finM, perm,
    List.map_cons, List.map_nil, List.length_cons, List.length_nil, List.replicate, List.cons_append, List.nil_append, List.getElem?_cons_zero, List.getElem?_cons_succ, List.set, List.getD_cons_zero, List.getD_cons_succ, Option.some.injEq, exists_eq_left', exists_eq_left, D.int.injEq, D.bl.injEq, D.ref.injEq, D.str.injEq, List.cons.injEq, and_true, true_and, exists_and_left, exists_and_right, decide_eq_true_eq, Bool.false_eq_true, if_true, if_false, ite_true, ite_false, Nat.zero_add, Nat.reduceAdd, Nat.reduceSub,
    z_gI, z_add, z_lt, z_le, z_int, z_intb, z_ixr, z_ixt, z_ixk, z_ixs, z_ixl, z_asQ, z_asQt, z_asQk, z_asQs, z_asQl, z_asL, z_asLl, z_at0, z_at1, z_at2, z_store, z_i20, z_i21, z_eq, z_ne, z_max2, z_min2, z_addt, z_sl, z_trb, z_trt, z_trk, z_trl, z_trs, List.isEmpty_cons, List.isEmpty_nil, Bool.not_true, Bool.not_false, z_len, z_lenl, z_lenk, z_lenr, z_lens, MS.set_set, MS.set_same]
    obtain ⟨w1, w2, _⟩ := hok w (List.mem_of_getElem? hw)
    exact ⟨.inr (by omega), hK _ _ ⟨rfl, _, some (.int w.1), some (rdsD w.2), rfl⟩⟩
  · rintro ρ M' ⟨rfl, v, o, o', rfl⟩
    simp only [dSeq, dIf, dTest, dBin, dVar, dC, dAsg, dStore, dRet, dB, dCons, dNil, dTup, dLst, dLstM, dDrop, dM, dCall, dCallK, dTru, dNotT, dAndT, dOrT, dAndE, dOrE, dNotE, dIfE, dChain, dChain3, dNeg, dFor, dPar, dSlice, dPart, dNoPart, z_fld, dSetF, dRaise, dRz, dNext, dBreak, dCont, dRetN, dYes, dComp, iSeq, iRange1, iRange2, DL.iZip, DL.iEnum, startD, retD, asg, asgs, asT, gMod, gMul, DL.gSub, gGt, gGe, gFdiv, gPow, wipeD, finF, finM, perm,
    List.map_cons, List.map_nil, List.length_cons, List.length_nil, List.replicate, List.cons_append, List.nil_append, List.getElem?_cons_zero, List.getElem?_cons_succ, List.set, List.getD_cons_zero, List.getD_cons_succ, Option.some.injEq, exists_eq_left', exists_eq_left, D.int.injEq, D.bl.injEq, D.ref.injEq, D.str.injEq, List.cons.injEq, and_true, true_and, exists_and_left, exists_and_right, decide_eq_true_eq, Bool.false_eq_true, if_true, if_false, ite_true, ite_false, Nat.zero_add, Nat.reduceAdd, Nat.reduceSub,
    z_gI, z_add, z_lt, z_le, z_int, z_intb, z_ixr, z_ixt, z_ixk, z_ixs, z_ixl, z_asQ, z_asQt, z_asQk, z_asQs, z_asQl, z_asL, z_asLl, z_at0, z_at1, z_at2, z_store, z_i20, z_i21, z_eq, z_ne, z_max2, z_min2, z_addt, z_sl, z_trb, z_trt, z_trk, z_trl, z_trs, List.isEmpty_cons, List.isEmpty_nil, Bool.not_true, Bool.not_false, z_len, z_lenl, z_lenk, z_lenr, z_lens, MS.set_set, MS.set_same]
    exact RetOk.of (k v)
theorem lawsmall42 {a : Addr} {M0 : MS} {b m most : Int} (hb : 0 ≤ b) (hm : 0 ≤ m)
    (k : ∀ n roads ws b' m', 0 ≤ b' → 0 ≤ m' → LandOk n roads ws → n ≤ 5 → (roads.length : Int) = n - 1 → Q (landD roads ws) (M0.set a (src b' m'))) : sp__law_small G [.ref a, .int most] (M0.set a (src b m)) Q R := by
  refine ⟨rfl, ?_⟩
  simp only [T__law_small, dSeq, dIf, dTest, dBin, dVar, dC, dAsg, dStore, dRet, dB, dCons, dNil, dTup, dLst, dLstM, dDrop, dM, dCall, dCallK, dTru, dNotT, dAndT, dOrT, dAndE, dOrE, dNotE, dIfE, dChain, dChain3, dNeg, dFor, dPar, dSlice, dPart, dNoPart, z_fld, dSetF, dRaise, dRz, dNext, dBreak, dCont, dRetN, dYes, dComp, iSeq, iRange1, iRange2, DL.iZip, DL.iEnum, startD, retD, asg, asgs, asT, gMod, gMul, DL.gSub, gGt, gGe, gFdiv, gPow, wipeD, finF, finM, perm,
    List.map_cons, List.map_nil, List.length_cons, List.length_nil, List.replicate, List.cons_append, List.nil_append, List.getElem?_cons_zero, List.getElem?_cons_succ, List.set, List.getD_cons_zero, List.getD_cons_succ, Option.some.injEq, exists_eq_left', exists_eq_left, D.int.injEq, D.bl.injEq, D.ref.injEq, D.str.injEq, List.cons.injEq, and_true, true_and, exists_and_left, exists_and_right, decide_eq_true_eq, Bool.false_eq_true, if_true, if_false, ite_true, ite_false, Nat.zero_add, Nat.reduceAdd, Nat.reduceSub,
    z_gI, z_add, z_lt, z_le, z_int, z_intb, z_ixr, z_ixt, z_ixk, z_ixs, z_ixl, z_asQ, z_asQt, z_asQk, z_asQs, z_asQl, z_asL, z_asLl, z_at0, z_at1, z_at2, z_store, z_i20, z_i21, z_eq, z_ne, z_max2, z_min2, z_addt, z_sl, z_trb, z_trt, z_trk, z_trl, z_trs, List.isEmpty_cons, List.isEmpty_nil, Bool.not_true, Bool.not_false, z_len, z_lenl, z_lenk, z_lenr, z_lens, MS.set_set, MS.set_same]
  refine ⟨by decide, by decide, ?_⟩
  refine for_inv (fun i ρ M' => ∃ (b' m' : Int) (o2 o3 : Option D), 0 ≤ b' ∧ 0 ≤ m' ∧ M' = M0.set a (src b' m') ∧ ρ = [some (.ref a), some (.int most), o2, o3]) (fun _ _ _ _ => trivial) ?_ ?_ ⟨b, m, none, none, hb, hm, rfl, rfl⟩
  · rintro i d ρ M' hd ⟨b1, m1, o2, o3, hb1, hm1, rfl, rfl⟩
    refine ⟨_, rfl, fun K hK => ?_⟩
    simp only [dSeq, dIf, dTest, dBin, dVar, dC, dAsg, dStore, dRet, dB, dCons, dNil, dTup, dLst, dLstM, dDrop, dM, dCall, dCallK, dTru, dNotT, dAndT, dOrT, dAndE, dOrE, dNotE, dIfE, dChain, dChain3, dNeg, dFor, dPar, dSlice, dPart, dNoPart, z_fld, dSetF, dRaise, dRz, dNext, dBreak, dCont, dRetN, dYes, dComp, iSeq, iRange1, iRange2, DL.iZip, DL.iEnum, startD, retD, asg, asgs, asT, gMod, gMul, DL.gSub, gGt, gGe, gFdiv, gPow, wipeD, finF, finM, perm,
    List.map_cons, List.map_nil, List.length_cons, List.length_nil, List.replicate, List.cons_append, List.nil_append, List.getElem?_cons_zero, List.getElem?_cons_succ, List.set, List.getD_cons_zero, List.getD_cons_succ, Option.some.injEq, exists_eq_left', exists_eq_left, D.int.injEq, D.bl.injEq, D.ref.injEq, D.str.injEq, List.cons.injEq, and_true, true_and, exists_and_left, exists_and_right, decide_eq_true_eq, Bool.false_eq_true, if_true, if_false, ite_true, ite_false, Nat.zero_add, Nat.reduceAdd, Nat.reduceSub,
    z_gI, z_add, z_lt, z_le, z_int, z_intb, z_ixr, z_ixt, z_ixk, z_ixs, z_ixl, z_asQ, z_asQt, z_asQk, z_asQs, z_asQl, z_asL, z_asLl, z_at0, z_at1, z_at2, z_store, z_i20, z_i21, z_eq, z_ne, z_max2, z_min2, z_addt, z_sl, z_trb, z_trt, z_trk, z_trl, z_trs, List.isEmpty_cons, List.isEmpty_nil, Bool.not_true, Bool.not_false, z_len, z_lenl, z_lenk, z_lenr, z_lens, MS.set_set, MS.set_same]
    refine ⟨by decide, by decide, ?_⟩
    refine one_spec (l := [.int 1, .int 7, .int 100]) hb1 hm1 (.inr (.inl rfl)) (by simp) (by simp) fun e he b2 m2 hb2 hm2 => ?_
    have hz : ∃ v : Int, e = .int v ∧ 1 ≤ v ∧ v ≤ 100 := by
      simp only [List.mem_cons, List.not_mem_nil, or_false] at he
      rcases he with rfl | rfl | rfl
      · exact ⟨_, rfl, by decide, by decide⟩
      · exact ⟨_, rfl, by decide, by decide⟩
      · exact ⟨_, rfl, by decide, by decide⟩
    obtain ⟨v, rfl, v1, v2⟩ := hz
    refine ⟨by decide, ?_⟩
    refine land_specT (ms := [2, 3, 4, 1, 3, 2, 3]) (ls := [1, 1, 2, 3, v]) hb2 hm2 (by decide) (by decide) (by simp) (fun w hw => ?_) fun n rs ws b3 m3 hb3 hm3 hL hnm htr hls => ?_
    · simp only [List.mem_cons, List.not_mem_nil, or_false] at hw
      rcases hw with rfl | rfl | rfl | rfl | rfl <;> omega
    have hn4 : n ≤ 5 := by
      simp only [List.mem_cons, List.not_mem_nil, or_false] at hnm
      omega
    try simp only [dSeq, dIf, dTest, dBin, dVar, dC, dAsg, dStore, dRet, dB, dCons, dNil, dTup, dLst, dLstM, dDrop, dM, dCall, dCallK, dTru, dNotT, dAndT, dOrT, dAndE, dOrE, dNotE, dIfE, dChain, dChain3, dNeg, dFor, dPar, dSlice, dPart, dNoPart, z_fld, dSetF, dRaise, dRz, dNext, dBreak, dCont, dRetN, dYes, dComp, iSeq, iRange1, iRange2, DL.iZip, DL.iEnum, startD, retD, asg, asgs, asT, gMod, gMul, DL.gSub, gGt, gGe, gFdiv, gPow, wipeD, finF, finM, perm,
    List.map_cons, List.map_nil, List.length_cons, List.length_nil, List.replicate, List.cons_append, List.nil_append, List.getElem?_cons_zero, List.getElem?_cons_succ, List.set, List.getD_cons_zero, List.getD_cons_succ, Option.some.injEq, exists_eq_left', exists_eq_left, D.int.injEq, D.bl.injEq, D.ref.injEq, D.str.injEq, List.cons.injEq, and_true, true_and, exists_and_left, exists_and_right, decide_eq_true_eq, Bool.false_eq_true, if_true, if_false, ite_true, ite_false, Nat.zero_add, Nat.reduceAdd, Nat.reduceSub,
    z_gI, z_add, z_lt, z_le, z_int, z_intb, z_ixr, z_ixt, z_ixk, z_ixs, z_ixl, z_asQ, z_asQt, z_asQk, z_asQs, z_asQl, z_asL, z_asLl, z_at0, z_at1, z_at2, z_store, z_i20, z_i21, z_eq, z_ne, z_max2, z_min2, z_addt, z_sl, z_trb, z_trt, z_trk, z_trl, z_trs, List.isEmpty_cons, List.isEmpty_nil, Bool.not_true, Bool.not_false, z_len, z_lenl, z_lenk, z_lenr, z_lens, MS.set_set, MS.set_same]
    refine lawmany42 hL.all hL.ok fun s => ?_
    refine z_le.mpr ⟨_, rfl, ?_⟩
    split
    · exact RetOk.of (k n rs ws b3 m3 hb3 hm3 hL hn4 htr)
    · exact hK _ _ ⟨b3, m3, _, _, hb3, hm3, rfl, rfl⟩
  · rintro ρ M' ⟨b1, m1, o2, o3, hb1, hm1, rfl, rfl⟩
    simp only [dSeq, dIf, dTest, dBin, dVar, dC, dAsg, dStore, dRet, dB, dCons, dNil, dTup, dLst, dLstM, dDrop, dM, dCall, dCallK, dTru, dNotT, dAndT, dOrT, dAndE, dOrE, dNotE, dIfE, dChain, dChain3, dNeg, dFor, dPar, dSlice, dPart, dNoPart, z_fld, dSetF, dRaise, dRz, dNext, dBreak, dCont, dRetN, dYes, dComp, iSeq, iRange1, iRange2, DL.iZip, DL.iEnum, startD, retD, asg, asgs, asT, gMod, gMul, DL.gSub, gGt, gGe, gFdiv, gPow, wipeD, finF, finM, perm,
    List.map_cons, List.map_nil, List.length_cons, List.length_nil, List.replicate, List.cons_append, List.nil_append, List.getElem?_cons_zero, List.getElem?_cons_succ, List.set, List.getD_cons_zero, List.getD_cons_succ, Option.some.injEq, exists_eq_left', exists_eq_left, D.int.injEq, D.bl.injEq, D.ref.injEq, D.str.injEq, List.cons.injEq, and_true, true_and, exists_and_left, exists_and_right, decide_eq_true_eq, Bool.false_eq_true, if_true, if_false, ite_true, ite_false, Nat.zero_add, Nat.reduceAdd, Nat.reduceSub,
    z_gI, z_add, z_lt, z_le, z_int, z_intb, z_ixr, z_ixt, z_ixk, z_ixs, z_ixl, z_asQ, z_asQt, z_asQk, z_asQs, z_asQl, z_asL, z_asLl, z_at0, z_at1, z_at2, z_store, z_i20, z_i21, z_eq, z_ne, z_max2, z_min2, z_addt, z_sl, z_trb, z_trt, z_trk, z_trl, z_trs, List.isEmpty_cons, List.isEmpty_nil, Bool.not_true, Bool.not_false, z_len, z_lenl, z_lenk, z_lenr, z_lens, MS.set_set, MS.set_same]
    refine ⟨by decide, by decide, by decide, by decide, by decide, by decide, by decide, by decide, by decide, by decide, by decide, by decide, by decide, RetOk.of ?_⟩
    have two : ∀ f : Int, 1 ≤ f → f ≤ 100 → LampOk ((2, [[0, 1, f]]) : Lamp) := fun f f1 f2 => by
      refine ⟨(show (1 : Int) ≤ 2 by decide), (show (2 : Int) ≤ 6 by decide), ⟨⟨fun r hr => ?_, by simp, fun x x0 x1 => ⟨0, f, ?_, by decide, by omega⟩⟩, by simp⟩, (show 1 ≤ 20 by decide)⟩
      · rw [List.mem_singleton.mp hr]; exact ⟨0, 1, f, rfl, by decide, by decide, (show (1 : Int) < 2 by decide), f1, f2⟩
      · have x1 : x < 2 := x1
        have : x = 1 := by omega
        rw [this]; exact List.mem_singleton.mpr rfl
    have one : LampOk ((1, []) : Lamp) := ⟨by decide, by decide, ⟨⟨fun r hr => (by cases hr), by simp, fun x x0 x1 => by
      have x1 : x < 1 := x1
      omega⟩, by simp⟩, by decide⟩
    refine k 3 [[0, 1, 2], [1, 2, 1]] [(2, [[0, 1, 1]]), (1, []), (2, [[0, 1, 3]])] b1 m1 hb1 hm1 ⟨by decide, by decide, ⟨⟨fun r hr => ?_, by decide, fun x x0 x1 => ?_⟩, ?_⟩, by decide, rfl, fun w hw => ?_⟩ (by decide) rfl
    · simp only [List.mem_cons, List.not_mem_nil, or_false] at hr
      rcases hr with rfl | rfl
      · exact ⟨0, 1, 2, rfl, by decide, by decide, by decide, by decide, by decide⟩
      · exact ⟨1, 2, 1, rfl, by decide, by decide, by decide, by decide, by decide⟩
    · have : x = 1 ∨ x = 2 := by omega
      rcases this with rfl | rfl
      · exact ⟨0, 2, by simp, by decide, by decide⟩
      · exact ⟨1, 1, by simp, by decide, by decide⟩
    · refine List.pairwise_cons.mpr ⟨fun s hs => ?_, by simp⟩
      rw [List.mem_singleton.mp hs]
      exact .inl (by decide)
    · simp only [List.mem_cons, List.not_mem_nil, or_false] at hw
      rcases hw with rfl | rfl | rfl
      · exact two 1 (by decide) (by decide)
      · exact one
      · exact two 3 (by decide) (by decide)
theorem lawright42 (F : GF G) (W : GR G) {p : Addr} {M0 : MS} {b m : Int} (hb : 0 ≤ b) (hm : 0 ≤ m) (k : ∀ b' m', Q (.bl true) (M0.set p (src b' m'))) : sp__law_right G [.ref p] (M0.set p (src b m)) Q R := by
  have h9 : (10 : Int) ^ Int.toNat 9 = 1000000000 := by decide
  refine ⟨rfl, ?_⟩
  simp only [T__law_right, dSeq, dIf, dTest, dBin, dVar, dC, dAsg, dStore, dRet, dB, dCons, dNil, dTup, dLst, dLstM, dDrop, dM, dCall, dCallK, dTru, dNotT, dAndT, dOrT, dAndE, dOrE, dNotE, dIfE, dChain, dChain3, dNeg, dFor, dPar, dSlice, dPart, dNoPart, z_fld, dSetF, dRaise, dRz, dNext, dBreak, dCont, dRetN, dYes, dComp, iSeq, iRange1, iRange2, DL.iZip, DL.iEnum, startD, retD, asg, asgs, asT, gMod, gMul, DL.gSub, gGt, gGe, gFdiv, gPow, wipeD, finF, finM, perm,
    List.map_cons, List.map_nil, List.length_cons, List.length_nil, List.replicate, List.cons_append, List.nil_append, List.getElem?_cons_zero, List.getElem?_cons_succ, List.set, List.getD_cons_zero, List.getD_cons_succ, Option.some.injEq, exists_eq_left', exists_eq_left, D.int.injEq, D.bl.injEq, D.ref.injEq, D.str.injEq, List.cons.injEq, and_true, true_and, exists_and_left, exists_and_right, decide_eq_true_eq, Bool.false_eq_true, if_true, if_false, ite_true, ite_false, Nat.zero_add, Nat.reduceAdd, Nat.reduceSub,
    z_gI, z_add, z_lt, z_le, z_int, z_intb, z_ixr, z_ixt, z_ixk, z_ixs, z_ixl, z_asQ, z_asQt, z_asQk, z_asQs, z_asQl, z_asL, z_asLl, z_at0, z_at1, z_at2, z_store, z_i20, z_i21, z_eq, z_ne, z_max2, z_min2, z_addt, z_sl, z_trb, z_trt, z_trk, z_trl, z_trs, List.isEmpty_cons, List.isEmpty_nil, Bool.not_true, Bool.not_false, z_len, z_lenl, z_lenk, z_lenr, z_lens, MS.set_set, MS.set_same]
  refine lawsmall42 hb hm fun n rs ws b1 m1 hb1 hm1 hL hn5 htr => ?_
  have hn := hL.all
  have h10 := hL.hi
  have hlo := hL.lo
  have hW : n * allW n ws ≤ 1000000 := by
    rw [← rows_W hn hL.ok]
    have a := rowsUp_le (ms := ws.map (·.1)) fun m hm => by
      obtain ⟨w, hw, rfl⟩ := List.mem_map.mp hm
      exact (hL.ok w hw).2.1
    have b : (ws.map (·.1)).length ≤ 5 := by rw [List.length_map]; omega
    have c := Nat.le_trans a (Nat.pow_le_pow_right (by decide) b)
    have c2 : ((rowsUp (ws.map (·.1))).length : Int) ≤ 7776 := by
      have : 6 ^ 5 = 7776 := by decide
      omega
    have := Int.mul_le_mul hn5 c2 (by omega) (by decide)
    omega
  try simp only [dSeq, dIf, dTest, dBin, dVar, dC, dAsg, dStore, dRet, dB, dCons, dNil, dTup, dLst, dLstM, dDrop, dM, dCall, dCallK, dTru, dNotT, dAndT, dOrT, dAndE, dOrE, dNotE, dIfE, dChain, dChain3, dNeg, dFor, dPar, dSlice, dPart, dNoPart, z_fld, dSetF, dRaise, dRz, dNext, dBreak, dCont, dRetN, dYes, dComp, iSeq, iRange1, iRange2, DL.iZip, DL.iEnum, startD, retD, asg, asgs, asT, gMod, gMul, DL.gSub, gGt, gGe, gFdiv, gPow, wipeD, finF, finM, perm,
    List.map_cons, List.map_nil, List.length_cons, List.length_nil, List.replicate, List.cons_append, List.nil_append, List.getElem?_cons_zero, List.getElem?_cons_succ, List.set, List.getD_cons_zero, List.getD_cons_succ, Option.some.injEq, exists_eq_left', exists_eq_left, D.int.injEq, D.bl.injEq, D.ref.injEq, D.str.injEq, List.cons.injEq, and_true, true_and, exists_and_left, exists_and_right, decide_eq_true_eq, Bool.false_eq_true, if_true, if_false, ite_true, ite_false, Nat.zero_add, Nat.reduceAdd, Nat.reduceSub,
    z_gI, z_add, z_lt, z_le, z_int, z_intb, z_ixr, z_ixt, z_ixk, z_ixs, z_ixl, z_asQ, z_asQt, z_asQk, z_asQs, z_asQl, z_asL, z_asLl, z_at0, z_at1, z_at2, z_store, z_i20, z_i21, z_eq, z_ne, z_max2, z_min2, z_addt, z_sl, z_trb, z_trt, z_trk, z_trl, z_trs, List.isEmpty_cons, List.isEmpty_nil, Bool.not_true, Bool.not_false, z_len, z_lenl, z_lenk, z_lenr, z_lens, MS.set_set, MS.set_same]
  refine law_made_spec13 F hL ?_
  try simp only [dSeq, dIf, dTest, dBin, dVar, dC, dAsg, dStore, dRet, dB, dCons, dNil, dTup, dLst, dLstM, dDrop, dM, dCall, dCallK, dTru, dNotT, dAndT, dOrT, dAndE, dOrE, dNotE, dIfE, dChain, dChain3, dNeg, dFor, dPar, dSlice, dPart, dNoPart, z_fld, dSetF, dRaise, dRz, dNext, dBreak, dCont, dRetN, dYes, dComp, iSeq, iRange1, iRange2, DL.iZip, DL.iEnum, startD, retD, asg, asgs, asT, gMod, gMul, DL.gSub, gGt, gGe, gFdiv, gPow, wipeD, finF, finM, perm,
    List.map_cons, List.map_nil, List.length_cons, List.length_nil, List.replicate, List.cons_append, List.nil_append, List.getElem?_cons_zero, List.getElem?_cons_succ, List.set, List.getD_cons_zero, List.getD_cons_succ, Option.some.injEq, exists_eq_left', exists_eq_left, D.int.injEq, D.bl.injEq, D.ref.injEq, D.str.injEq, List.cons.injEq, and_true, true_and, exists_and_left, exists_and_right, decide_eq_true_eq, Bool.false_eq_true, if_true, if_false, ite_true, ite_false, Nat.zero_add, Nat.reduceAdd, Nat.reduceSub,
    z_gI, z_add, z_lt, z_le, z_int, z_intb, z_ixr, z_ixt, z_ixk, z_ixs, z_ixl, z_asQ, z_asQt, z_asQk, z_asQs, z_asQl, z_asL, z_asLl, z_at0, z_at1, z_at2, z_store, z_i20, z_i21, z_eq, z_ne, z_max2, z_min2, z_addt, z_sl, z_trb, z_trt, z_trk, z_trl, z_trs, List.isEmpty_cons, List.isEmpty_nil, Bool.not_true, Bool.not_false, z_len, z_lenl, z_lenk, z_lenr, z_lens, MS.set_set, MS.set_same]
  refine state_spec hb1 hm1 (by omega) (by omega) hL.ok fun pa ra b2 m2 hb2 hm2 hpa0 hpa1 hra => ?_
  have hpa : 0 ≤ pa ∧ pa < n := ⟨hpa0, by omega⟩
  have lA := hra.1
  try simp only [dSeq, dIf, dTest, dBin, dVar, dC, dAsg, dStore, dRet, dB, dCons, dNil, dTup, dLst, dLstM, dDrop, dM, dCall, dCallK, dTru, dNotT, dAndT, dOrT, dAndE, dOrE, dNotE, dIfE, dChain, dChain3, dNeg, dFor, dPar, dSlice, dPart, dNoPart, z_fld, dSetF, dRaise, dRz, dNext, dBreak, dCont, dRetN, dYes, dComp, iSeq, iRange1, iRange2, DL.iZip, DL.iEnum, startD, retD, asg, asgs, asT, gMod, gMul, DL.gSub, gGt, gGe, gFdiv, gPow, wipeD, finF, finM, perm,
    List.map_cons, List.map_nil, List.length_cons, List.length_nil, List.replicate, List.cons_append, List.nil_append, List.getElem?_cons_zero, List.getElem?_cons_succ, List.set, List.getD_cons_zero, List.getD_cons_succ, Option.some.injEq, exists_eq_left', exists_eq_left, D.int.injEq, D.bl.injEq, D.ref.injEq, D.str.injEq, List.cons.injEq, and_true, true_and, exists_and_left, exists_and_right, decide_eq_true_eq, Bool.false_eq_true, if_true, if_false, ite_true, ite_false, Nat.zero_add, Nat.reduceAdd, Nat.reduceSub,
    z_gI, z_add, z_lt, z_le, z_int, z_intb, z_ixr, z_ixt, z_ixk, z_ixs, z_ixl, z_asQ, z_asQt, z_asQk, z_asQs, z_asQl, z_asL, z_asLl, z_at0, z_at1, z_at2, z_store, z_i20, z_i21, z_eq, z_ne, z_max2, z_min2, z_addt, z_sl, z_trb, z_trt, z_trk, z_trl, z_trs, List.isEmpty_cons, List.isEmpty_nil, Bool.not_true, Bool.not_false, z_len, z_lenl, z_lenk, z_lenr, z_lens, MS.set_set, MS.set_same]
  refine ⟨_, _, ⟨rfl, rfl⟩, ?_⟩
  rw [List.length_map]
  refine ⟨by omega, by omega, ?_⟩
  refine for_inv (fun i ρ M' => M' = M0.set p (src b2 m2) ∧ ∃ (o4 o5 : Option D), ρ = [some (.ref p), some (landD rs ws), some (landV G n rs ws), some (stD pa ra), o4, o5]) (fun _ _ _ _ => trivial) ?_ ?_ ⟨rfl, _, _, rfl⟩
  · rintro j d ρ M' hd ⟨rfl, o4, o5, rfl⟩
    obtain ⟨hj, rfl⟩ := rangeD_get hd
    have hj2 : j < rs.length := by omega
    refine ⟨_, rfl, fun K hK => ?_⟩
    simp only [Int.zero_add, dSeq, dIf, dTest, dBin, dVar, dC, dAsg, dStore, dRet, dB, dCons, dNil, dTup, dLst, dLstM, dDrop, dM, dCall, dCallK, dTru, dNotT, dAndT, dOrT, dAndE, dOrE, dNotE, dIfE, dChain, dChain3, dNeg, dFor, dPar, dSlice, dPart, dNoPart, z_fld, dSetF, dRaise, dRz, dNext, dBreak, dCont, dRetN, dYes, dComp, iSeq, iRange1, iRange2, DL.iZip, DL.iEnum, startD, retD, asg, asgs, asT, gMod, gMul, DL.gSub, gGt, gGe, gFdiv, gPow, wipeD, finF, finM, perm,
    List.map_cons, List.map_nil, List.length_cons, List.length_nil, List.replicate, List.cons_append, List.nil_append, List.getElem?_cons_zero, List.getElem?_cons_succ, List.set, List.getD_cons_zero, List.getD_cons_succ, Option.some.injEq, exists_eq_left', exists_eq_left, D.int.injEq, D.bl.injEq, D.ref.injEq, D.str.injEq, List.cons.injEq, and_true, true_and, exists_and_left, exists_and_right, decide_eq_true_eq, Bool.false_eq_true, if_true, if_false, ite_true, ite_false, Nat.zero_add, Nat.reduceAdd, Nat.reduceSub,
    z_gI, z_add, z_lt, z_le, z_int, z_intb, z_ixr, z_ixt, z_ixk, z_ixs, z_ixl, z_asQ, z_asQt, z_asQk, z_asQs, z_asQl, z_asL, z_asLl, z_at0, z_at1, z_at2, z_store, z_i20, z_i21, z_eq, z_ne, z_max2, z_min2, z_addt, z_sl, z_trb, z_trt, z_trk, z_trl, z_trs, List.isEmpty_cons, List.isEmpty_nil, Bool.not_true, Bool.not_false, z_len, z_lenl, z_lenk, z_lenr, z_lens, MS.set_set, MS.set_same]
    refine told42 F hL htr hW hpa hra hj2 ?_
    refine due_spec42 hL hn5 hpa hra hj2 fun c0 c1 c2 e0 e1 e2 => ?_
    obtain ⟨r0, r1, r2⟩ := counts_eq (rs := rs) hn hL.ok hra j pa hlo
    rw [← e0] at r0; rw [← e1] at r1; rw [← e2] at r2
    rw [← r0, ← r1, ← r2]
    obtain ⟨l, el⟩ := shL_sh3 c0 c1 c2
    rw [el]
    refine ne_same42 (p := .tuple (l.map sh3P)) (by simp only [toPM, toP, sh3_toPs]) (by simp only [toPM, toP, sh3_toPs]) (sh3_shaped l) ⟨_, rfl, ?_⟩
    rw [if_neg (by decide)]
    exact hK _ _ ⟨rfl, _, _, rfl⟩
  · rintro ρ M' ⟨rfl, o4, o5, rfl⟩
    simp only [dSeq, dIf, dTest, dBin, dVar, dC, dAsg, dStore, dRet, dB, dCons, dNil, dTup, dLst, dLstM, dDrop, dM, dCall, dCallK, dTru, dNotT, dAndT, dOrT, dAndE, dOrE, dNotE, dIfE, dChain, dChain3, dNeg, dFor, dPar, dSlice, dPart, dNoPart, z_fld, dSetF, dRaise, dRz, dNext, dBreak, dCont, dRetN, dYes, dComp, iSeq, iRange1, iRange2, DL.iZip, DL.iEnum, startD, retD, asg, asgs, asT, gMod, gMul, DL.gSub, gGt, gGe, gFdiv, gPow, wipeD, finF, finM, perm,
    List.map_cons, List.map_nil, List.length_cons, List.length_nil, List.replicate, List.cons_append, List.nil_append, List.getElem?_cons_zero, List.getElem?_cons_succ, List.set, List.getD_cons_zero, List.getD_cons_succ, Option.some.injEq, exists_eq_left', exists_eq_left, D.int.injEq, D.bl.injEq, D.ref.injEq, D.str.injEq, List.cons.injEq, and_true, true_and, exists_and_left, exists_and_right, decide_eq_true_eq, Bool.false_eq_true, if_true, if_false, ite_true, ite_false, Nat.zero_add, Nat.reduceAdd, Nat.reduceSub,
    z_gI, z_add, z_lt, z_le, z_int, z_intb, z_ixr, z_ixt, z_ixk, z_ixs, z_ixl, z_asQ, z_asQt, z_asQk, z_asQs, z_asQl, z_asL, z_asLl, z_at0, z_at1, z_at2, z_store, z_i20, z_i21, z_eq, z_ne, z_max2, z_min2, z_addt, z_sl, z_trb, z_trt, z_trk, z_trl, z_trs, List.isEmpty_cons, List.isEmpty_nil, Bool.not_true, Bool.not_false, z_len, z_lenl, z_lenk, z_lenr, z_lens, MS.set_set, MS.set_same]
    refine ⟨⟨by decide, by decide, by decide⟩, ?_⟩
    rw [h9]
    refine take_spec hb2 hm2 (by decide) (by decide) fun t b3 m3 t0 t1 hb3 hm3 => ?_
    refine z_add.mpr ⟨by decide, ?_⟩
    rw [List.length_map, List.length_map, hn]
    refine for_inv (fun i ρ M' => M' = M0.set p (src b3 m3) ∧ ∃ (o4 : Option D), ρ = [some (.ref p), some (landD rs ws), some (landV G n rs ws), some (stD pa ra), o4, some (.int n)]) (fun _ _ _ _ => trivial) ?_ ?_ ⟨rfl, _, rfl⟩
    · rintro j d ρ M' hd ⟨rfl, o4, rfl⟩
      have hz : ∃ road : Int, d = .int road ∧ ¬ (0 ≤ road ∧ road < rs.length) := by
        have := List.mem_of_getElem? hd
        simp only [List.mem_cons, List.not_mem_nil, or_false] at this
        rcases this with rfl | rfl | rfl
        · exact ⟨_, rfl, by omega⟩
        · exact ⟨_, rfl, by omega⟩
        · exact ⟨_, rfl, by omega⟩
      obtain ⟨road, rfl, hr⟩ := hz
      refine ⟨_, rfl, fun K hK => ?_⟩
      simp only [dSeq, dIf, dTest, dBin, dVar, dC, dAsg, dStore, dRet, dB, dCons, dNil, dTup, dLst, dLstM, dDrop, dM, dCall, dCallK, dTru, dNotT, dAndT, dOrT, dAndE, dOrE, dNotE, dIfE, dChain, dChain3, dNeg, dFor, dPar, dSlice, dPart, dNoPart, z_fld, dSetF, dRaise, dRz, dNext, dBreak, dCont, dRetN, dYes, dComp, iSeq, iRange1, iRange2, DL.iZip, DL.iEnum, startD, retD, asg, asgs, asT, gMod, gMul, DL.gSub, gGt, gGe, gFdiv, gPow, wipeD, finF, finM, perm,
    List.map_cons, List.map_nil, List.length_cons, List.length_nil, List.replicate, List.cons_append, List.nil_append, List.getElem?_cons_zero, List.getElem?_cons_succ, List.set, List.getD_cons_zero, List.getD_cons_succ, Option.some.injEq, exists_eq_left', exists_eq_left, D.int.injEq, D.bl.injEq, D.ref.injEq, D.str.injEq, List.cons.injEq, and_true, true_and, exists_and_left, exists_and_right, decide_eq_true_eq, Bool.false_eq_true, if_true, if_false, ite_true, ite_false, Nat.zero_add, Nat.reduceAdd, Nat.reduceSub,
    z_gI, z_add, z_lt, z_le, z_int, z_intb, z_ixr, z_ixt, z_ixk, z_ixs, z_ixl, z_asQ, z_asQt, z_asQk, z_asQs, z_asQl, z_asL, z_asLl, z_at0, z_at1, z_at2, z_store, z_i20, z_i21, z_eq, z_ne, z_max2, z_min2, z_addt, z_sl, z_trb, z_trt, z_trk, z_trl, z_trs, List.isEmpty_cons, List.isEmpty_nil, Bool.not_true, Bool.not_false, z_len, z_lenl, z_lenk, z_lenr, z_lens, MS.set_set, MS.set_same]
      refine told42_road F hL htr W hpa hra hr ?_
      refine ⟨by decide, ?_⟩
      refine ne_same42 (p := .tuple [.str "road", .int road]) rfl rfl (by simp only [SeqAt.shaped, PyData.canLay0, PyData.canLayAll0, okstr_r42, PyData.depth, PyData.depthAll, Bool.true_and]; exact decide_eq_true (by omega)) ⟨_, rfl, ?_⟩
      rw [if_neg (by decide)]
      try refine ⟨by decide, ?_⟩
      refine told42_place F hL htr W (by omega) ?_
      refine ⟨by decide, ?_⟩
      refine ne_same42 (p := .tuple [.str "place", .int n]) rfl rfl (by simp only [SeqAt.shaped, PyData.canLay0, PyData.canLayAll0, okstr_p42, PyData.depth, PyData.depthAll, Bool.true_and]; exact decide_eq_true (by omega)) ⟨_, rfl, ?_⟩
      rw [if_neg (by decide)]
      exact hK _ _ ⟨rfl, _, rfl⟩
    · rintro ρ M' ⟨rfl, o4, rfl⟩
      simp only [dSeq, dIf, dTest, dBin, dVar, dC, dAsg, dStore, dRet, dB, dCons, dNil, dTup, dLst, dLstM, dDrop, dM, dCall, dCallK, dTru, dNotT, dAndT, dOrT, dAndE, dOrE, dNotE, dIfE, dChain, dChain3, dNeg, dFor, dPar, dSlice, dPart, dNoPart, z_fld, dSetF, dRaise, dRz, dNext, dBreak, dCont, dRetN, dYes, dComp, iSeq, iRange1, iRange2, DL.iZip, DL.iEnum, startD, retD, asg, asgs, asT, gMod, gMul, DL.gSub, gGt, gGe, gFdiv, gPow, wipeD, finF, finM, perm,
    List.map_cons, List.map_nil, List.length_cons, List.length_nil, List.replicate, List.cons_append, List.nil_append, List.getElem?_cons_zero, List.getElem?_cons_succ, List.set, List.getD_cons_zero, List.getD_cons_succ, Option.some.injEq, exists_eq_left', exists_eq_left, D.int.injEq, D.bl.injEq, D.ref.injEq, D.str.injEq, List.cons.injEq, and_true, true_and, exists_and_left, exists_and_right, decide_eq_true_eq, Bool.false_eq_true, if_true, if_false, ite_true, ite_false, Nat.zero_add, Nat.reduceAdd, Nat.reduceSub,
    z_gI, z_add, z_lt, z_le, z_int, z_intb, z_ixr, z_ixt, z_ixk, z_ixs, z_ixl, z_asQ, z_asQt, z_asQk, z_asQs, z_asQl, z_asL, z_asLl, z_at0, z_at1, z_at2, z_store, z_i20, z_i21, z_eq, z_ne, z_max2, z_min2, z_addt, z_sl, z_trb, z_trt, z_trk, z_trl, z_trs, List.isEmpty_cons, List.isEmpty_nil, Bool.not_true, Bool.not_false, z_len, z_lenl, z_lenk, z_lenr, z_lens, MS.set_set, MS.set_same]
      exact RetOk.of (k _ _)
theorem law_read (F : GF G) (W : GR G) {ns : List Int} (hl : ns.length ≤ 63) (k : ∀ M', Q (.bl true) M') : sp_law G [.klst (ns.map D.int)] M Q R := by
  refine ⟨rfl, ?_⟩
  simp only [T_law, dSeq, dIf, dTest, dBin, dVar, dC, dAsg, dStore, dRet, dB, dCons, dNil, dTup, dLst, dLstM, dDrop, dM, dCall, dCallK, dTru, dNotT, dAndT, dOrT, dAndE, dOrE, dNotE, dIfE, dChain, dChain3, dNeg, dFor, dPar, dSlice, dPart, dNoPart, z_fld, dSetF, dRaise, dRz, dNext, dBreak, dCont, dRetN, dYes, dComp, iSeq, iRange1, iRange2, DL.iZip, DL.iEnum, startD, retD, asg, asgs, asT, gMod, gMul, DL.gSub, gGt, gGe, gFdiv, gPow, wipeD, finF, finM, perm,
    List.map_cons, List.map_nil, List.length_cons, List.length_nil, List.replicate, List.cons_append, List.nil_append, List.getElem?_cons_zero, List.getElem?_cons_succ, List.set, List.getD_cons_zero, List.getD_cons_succ, Option.some.injEq, exists_eq_left', exists_eq_left, D.int.injEq, D.bl.injEq, D.ref.injEq, D.str.injEq, List.cons.injEq, and_true, true_and, exists_and_left, exists_and_right, decide_eq_true_eq, Bool.false_eq_true, if_true, if_false, ite_true, ite_false, Nat.zero_add, Nat.reduceAdd, Nat.reduceSub,
    z_gI, z_add, z_lt, z_le, z_int, z_intb, z_ixr, z_ixt, z_ixk, z_ixs, z_ixl, z_asQ, z_asQt, z_asQk, z_asQs, z_asQl, z_asL, z_asLl, z_at0, z_at1, z_at2, z_store, z_i20, z_i21, z_eq, z_ne, z_max2, z_min2, z_addt, z_sl, z_trb, z_trt, z_trk, z_trl, z_trs, List.isEmpty_cons, List.isEmpty_nil, Bool.not_true, Bool.not_false, z_len, z_lenl, z_lenk, z_lenr, z_lens, MS.set_set, MS.set_same]
  have hm : 0 ≤ (if (if 2 < (ns.length : Int) then (2 : Int) else ns.length) > 1 then (if 2 < (ns.length : Int) then (2 : Int) else ns.length) else 1) ∧ (if (if 2 < (ns.length : Int) then (2 : Int) else ns.length) > 1 then (if 2 < (ns.length : Int) then (2 : Int) else ns.length) else 1) ≤ 2 := by split <;> split <;> omega
  simp only [List.length_map]
  generalize (if (if 2 < (ns.length : Int) then (2 : Int) else ns.length) > 1 then (if 2 < (ns.length : Int) then (2 : Int) else ns.length) else 1) = times at hm ⊢
  refine ⟨by omega, by omega, ?_⟩
  refine for_inv (fun i ρ M' => ∃ (o1 : Option D), ρ = [some (.klst (ns.map D.int)), o1]) (fun _ _ _ _ => trivial) ?_ ?_ ⟨none, rfl⟩
  · rintro i d ρ M' hd ⟨o1, rfl⟩
    obtain ⟨hi, rfl⟩ := rangeD_get hd
    refine ⟨_, rfl, fun K hK => ?_⟩
    simp only [dSeq, dIf, dTest, dBin, dVar, dC, dAsg, dStore, dRet, dB, dCons, dNil, dTup, dLst, dLstM, dDrop, dM, dCall, dCallK, dTru, dNotT, dAndT, dOrT, dAndE, dOrE, dNotE, dIfE, dChain, dChain3, dNeg, dFor, dPar, dSlice, dPart, dNoPart, z_fld, dSetF, dRaise, dRz, dNext, dBreak, dCont, dRetN, dYes, dComp, iSeq, iRange1, iRange2, DL.iZip, DL.iEnum, startD, retD, asg, asgs, asT, gMod, gMul, DL.gSub, gGt, gGe, gFdiv, gPow, wipeD, finF, finM, perm,
    List.map_cons, List.map_nil, List.length_cons, List.length_nil, List.replicate, List.cons_append, List.nil_append, List.getElem?_cons_zero, List.getElem?_cons_succ, List.set, List.getD_cons_zero, List.getD_cons_succ, Option.some.injEq, exists_eq_left', exists_eq_left, D.int.injEq, D.bl.injEq, D.ref.injEq, D.str.injEq, List.cons.injEq, and_true, true_and, exists_and_left, exists_and_right, decide_eq_true_eq, Bool.false_eq_true, if_true, if_false, ite_true, ite_false, Nat.zero_add, Nat.reduceAdd, Nat.reduceSub,
    z_gI, z_add, z_lt, z_le, z_int, z_intb, z_ixr, z_ixt, z_ixk, z_ixs, z_ixl, z_asQ, z_asQt, z_asQk, z_asQs, z_asQl, z_asL, z_asLl, z_at0, z_at1, z_at2, z_store, z_i20, z_i21, z_eq, z_ne, z_max2, z_min2, z_addt, z_sl, z_trb, z_trt, z_trk, z_trl, z_trs, List.isEmpty_cons, List.isEmpty_nil, Bool.not_true, Bool.not_false, z_len, z_lenl, z_lenk, z_lenr, z_lens, MS.set_set, MS.set_same]
    refine pool_two hl (by omega) fun p b m hp hb hm => ?_
    refine lawright42 F W hb hm fun b' m' => ⟨_, rfl, ?_⟩
    rw [if_neg (by decide)]
    exact hK _ _ ⟨_, rfl⟩
  · rintro ρ M' ⟨o1, rfl⟩
    simp only [dSeq, dIf, dTest, dBin, dVar, dC, dAsg, dStore, dRet, dB, dCons, dNil, dTup, dLst, dLstM, dDrop, dM, dCall, dCallK, dTru, dNotT, dAndT, dOrT, dAndE, dOrE, dNotE, dIfE, dChain, dChain3, dNeg, dFor, dPar, dSlice, dPart, dNoPart, z_fld, dSetF, dRaise, dRz, dNext, dBreak, dCont, dRetN, dYes, dComp, iSeq, iRange1, iRange2, DL.iZip, DL.iEnum, startD, retD, asg, asgs, asT, gMod, gMul, DL.gSub, gGt, gGe, gFdiv, gPow, wipeD, finF, finM, perm,
    List.map_cons, List.map_nil, List.length_cons, List.length_nil, List.replicate, List.cons_append, List.nil_append, List.getElem?_cons_zero, List.getElem?_cons_succ, List.set, List.getD_cons_zero, List.getD_cons_succ, Option.some.injEq, exists_eq_left', exists_eq_left, D.int.injEq, D.bl.injEq, D.ref.injEq, D.str.injEq, List.cons.injEq, and_true, true_and, exists_and_left, exists_and_right, decide_eq_true_eq, Bool.false_eq_true, if_true, if_false, ite_true, ite_false, Nat.zero_add, Nat.reduceAdd, Nat.reduceSub,
    z_gI, z_add, z_lt, z_le, z_int, z_intb, z_ixr, z_ixt, z_ixk, z_ixs, z_ixl, z_asQ, z_asQt, z_asQk, z_asQs, z_asQl, z_asL, z_asLl, z_at0, z_at1, z_at2, z_store, z_i20, z_i21, z_eq, z_ne, z_max2, z_min2, z_addt, z_sl, z_trb, z_trt, z_trk, z_trl, z_trs, List.isEmpty_cons, List.isEmpty_nil, Bool.not_true, Bool.not_false, z_len, z_lenl, z_lenk, z_lenr, z_lens, MS.set_set, MS.set_same]
    exact RetOk.of (k _)
end LW

set_option Elab.async false
set_option maxRecDepth 100000
set_option maxHeartbeats 4000000
namespace LW
open PySem PySem.Spec L2 DL
open PyProof.Rows (envOfC)
abbrev PP : Program := PySem.Challenge.pw_lampwalks_k42_how_often_a_road_is_crosse
def top (i : Nat) : Stmt := PP.main.body.getD i (.Pass ⟨0, 0, 0, 0⟩)
abbrev s__law_take : Stmt := top 52
abbrev s__law_one : Stmt := top 53
abbrev s__law_tree_roads : Stmt := top 54
abbrev s__law_web : Stmt := top 55
abbrev s__law_land : Stmt := top 56
abbrev s__law_states_many : Stmt := top 62
abbrev s__law_small : Stmt := top 64
abbrev s__law_row : Stmt := top 57
abbrev s__law_state : Stmt := top 58
abbrev s_is_number : Stmt := top 16
abbrev s__is_road : Stmt := top 19
abbrev s_is_length : Stmt := top 17
abbrev s_check_roads : Stmt := top 20
abbrev s_tied : Stmt := top 22
abbrev s_lengths_from : Stmt := top 23
abbrev s_check_together : Stmt := top 21
abbrev s__check_lamps : Stmt := top 32
abbrev s_Land_init : Stmt := inClass (top 31) 0
abbrev s_made_land : Stmt := top 33
abbrev s_check_size : Stmt := top 27
abbrev s_Web_init : Stmt := inClass (top 26) 0
abbrev s_made_web : Stmt := top 28
abbrev s__law_made : Stmt := top 63
abbrev s_is_tree : Stmt := top 34
abbrev s_check_tree : Stmt := top 35
abbrev s_check_place : Stmt := top 18
abbrev s_check_row : Stmt := top 42
abbrev s_check_state : Stmt := top 43
abbrev s_check_road : Stmt := top 37
abbrev s_share : Stmt := top 40
abbrev s__shares : Stmt := top 49
abbrev s_parted : Stmt := top 38
abbrev s_rows_many : Stmt := top 45
abbrev s_states_many : Stmt := top 44
abbrev s_crossing_counts : Stmt := top 48
abbrev s_road_shares : Stmt := top 47
abbrev s__law_told : Stmt := top 67
abbrev s__law_tied : Stmt := top 59
abbrev s__law_side : Stmt := top 60
abbrev s__law_states : Stmt := top 61
abbrev s__law_share : Stmt := top 65
abbrev s__law_due : Stmt := top 66
abbrev s__law_right : Stmt := top 68
abbrev s__law_pool : Stmt := top 51
abbrev s_law : Stmt := top 69
abbrev s_refI : Stmt := inClass (top 3) 0
structure ZA where
  refI : Addr
  dRefI : FuncData
  a__law_take : Addr
  d__law_take : FuncData
  a__law_one : Addr
  d__law_one : FuncData
  a__law_tree_roads : Addr
  d__law_tree_roads : FuncData
  a__law_web : Addr
  d__law_web : FuncData
  a__law_land : Addr
  d__law_land : FuncData
  a__law_states_many : Addr
  d__law_states_many : FuncData
  a__law_small : Addr
  d__law_small : FuncData
  a__law_row : Addr
  d__law_row : FuncData
  a__law_state : Addr
  d__law_state : FuncData
  a_is_number : Addr
  d_is_number : FuncData
  a__is_road : Addr
  d__is_road : FuncData
  a_is_length : Addr
  d_is_length : FuncData
  a_check_roads : Addr
  d_check_roads : FuncData
  a_tied : Addr
  d_tied : FuncData
  a_lengths_from : Addr
  d_lengths_from : FuncData
  a_check_together : Addr
  d_check_together : FuncData
  a__check_lamps : Addr
  d__check_lamps : FuncData
  a_Land_init : Addr
  d_Land_init : FuncData
  a_made_land : Addr
  d_made_land : FuncData
  a_check_size : Addr
  d_check_size : FuncData
  a_Web_init : Addr
  d_Web_init : FuncData
  a_made_web : Addr
  d_made_web : FuncData
  a__law_made : Addr
  d__law_made : FuncData
  a_is_tree : Addr
  d_is_tree : FuncData
  a_check_tree : Addr
  d_check_tree : FuncData
  a_check_place : Addr
  d_check_place : FuncData
  a_check_row : Addr
  d_check_row : FuncData
  a_check_state : Addr
  d_check_state : FuncData
  a_check_road : Addr
  d_check_road : FuncData
  a_share : Addr
  d_share : FuncData
  a__shares : Addr
  d__shares : FuncData
  a_parted : Addr
  d_parted : FuncData
  a_rows_many : Addr
  d_rows_many : FuncData
  a_states_many : Addr
  d_states_many : FuncData
  a_crossing_counts : Addr
  d_crossing_counts : FuncData
  a_road_shares : Addr
  d_road_shares : FuncData
  a__law_told : Addr
  d__law_told : FuncData
  a__law_tied : Addr
  d__law_tied : FuncData
  a__law_side : Addr
  d__law_side : FuncData
  a__law_states : Addr
  d__law_states : FuncData
  a__law_share : Addr
  d__law_share : FuncData
  a__law_due : Addr
  d__law_due : FuncData
  a__law_right : Addr
  d__law_right : FuncData
  a__law_pool : Addr
  d__law_pool : FuncData
  a_law : Addr
  d_law : FuncData
structure Z (mg : Str → Option Value) (G : GEnv) (A : ZA) : Prop where
  tI : PySem.W.typeIn G.K (.ref A.refI) = some (.type "function")
  F_refI : Fun G.K "__init__" "Refused.__init__" s_refI A.refI A.dRefI
  F__law_take : Fun G.K "_law_take" "_law_take" s__law_take A.a__law_take A.d__law_take
  m__law_take : mg "_law_take" = some (.ref A.a__law_take)
  F__law_one : Fun G.K "_law_one" "_law_one" s__law_one A.a__law_one A.d__law_one
  m__law_one : mg "_law_one" = some (.ref A.a__law_one)
  F__law_tree_roads : Fun G.K "_law_tree_roads" "_law_tree_roads" s__law_tree_roads A.a__law_tree_roads A.d__law_tree_roads
  m__law_tree_roads : mg "_law_tree_roads" = some (.ref A.a__law_tree_roads)
  F__law_web : Fun G.K "_law_web" "_law_web" s__law_web A.a__law_web A.d__law_web
  m__law_web : mg "_law_web" = some (.ref A.a__law_web)
  F__law_land : Fun G.K "_law_land" "_law_land" s__law_land A.a__law_land A.d__law_land
  m__law_land : mg "_law_land" = some (.ref A.a__law_land)
  F__law_states_many : Fun G.K "_law_states_many" "_law_states_many" s__law_states_many A.a__law_states_many A.d__law_states_many
  m__law_states_many : mg "_law_states_many" = some (.ref A.a__law_states_many)
  F__law_small : Fun G.K "_law_small" "_law_small" s__law_small A.a__law_small A.d__law_small
  m__law_small : mg "_law_small" = some (.ref A.a__law_small)
  F__law_row : Fun G.K "_law_row" "_law_row" s__law_row A.a__law_row A.d__law_row
  m__law_row : mg "_law_row" = some (.ref A.a__law_row)
  F__law_state : Fun G.K "_law_state" "_law_state" s__law_state A.a__law_state A.d__law_state
  m__law_state : mg "_law_state" = some (.ref A.a__law_state)
  F_is_number : Fun G.K "is_number" "is_number" s_is_number A.a_is_number A.d_is_number
  m_is_number : mg "is_number" = some (.ref A.a_is_number)
  F__is_road : Fun G.K "_is_road" "_is_road" s__is_road A.a__is_road A.d__is_road
  m__is_road : mg "_is_road" = some (.ref A.a__is_road)
  F_is_length : Fun G.K "is_length" "is_length" s_is_length A.a_is_length A.d_is_length
  m_is_length : mg "is_length" = some (.ref A.a_is_length)
  F_check_roads : Fun G.K "check_roads" "check_roads" s_check_roads A.a_check_roads A.d_check_roads
  m_check_roads : mg "check_roads" = some (.ref A.a_check_roads)
  F_tied : Fun G.K "tied" "tied" s_tied A.a_tied A.d_tied
  m_tied : mg "tied" = some (.ref A.a_tied)
  F_lengths_from : Fun G.K "lengths_from" "lengths_from" s_lengths_from A.a_lengths_from A.d_lengths_from
  m_lengths_from : mg "lengths_from" = some (.ref A.a_lengths_from)
  F_check_together : Fun G.K "check_together" "check_together" s_check_together A.a_check_together A.d_check_together
  m_check_together : mg "check_together" = some (.ref A.a_check_together)
  F__check_lamps : Fun G.K "_check_lamps" "_check_lamps" s__check_lamps A.a__check_lamps A.d__check_lamps
  m__check_lamps : mg "_check_lamps" = some (.ref A.a__check_lamps)
  F_Land_init : Fun G.K "__init__" "Land.__init__" s_Land_init A.a_Land_init A.d_Land_init
  F_made_land : Fun G.K "made_land" "made_land" s_made_land A.a_made_land A.d_made_land
  m_made_land : mg "made_land" = some (.ref A.a_made_land)
  F_check_size : Fun G.K "check_size" "check_size" s_check_size A.a_check_size A.d_check_size
  m_check_size : mg "check_size" = some (.ref A.a_check_size)
  F_Web_init : Fun G.K "__init__" "Web.__init__" s_Web_init A.a_Web_init A.d_Web_init
  F_made_web : Fun G.K "made_web" "made_web" s_made_web A.a_made_web A.d_made_web
  m_made_web : mg "made_web" = some (.ref A.a_made_web)
  F__law_made : Fun G.K "_law_made" "_law_made" s__law_made A.a__law_made A.d__law_made
  m__law_made : mg "_law_made" = some (.ref A.a__law_made)
  F_is_tree : Fun G.K "is_tree" "is_tree" s_is_tree A.a_is_tree A.d_is_tree
  m_is_tree : mg "is_tree" = some (.ref A.a_is_tree)
  F_check_tree : Fun G.K "check_tree" "check_tree" s_check_tree A.a_check_tree A.d_check_tree
  m_check_tree : mg "check_tree" = some (.ref A.a_check_tree)
  F_check_place : Fun G.K "check_place" "check_place" s_check_place A.a_check_place A.d_check_place
  m_check_place : mg "check_place" = some (.ref A.a_check_place)
  F_check_row : Fun G.K "check_row" "check_row" s_check_row A.a_check_row A.d_check_row
  m_check_row : mg "check_row" = some (.ref A.a_check_row)
  F_check_state : Fun G.K "check_state" "check_state" s_check_state A.a_check_state A.d_check_state
  m_check_state : mg "check_state" = some (.ref A.a_check_state)
  F_check_road : Fun G.K "check_road" "check_road" s_check_road A.a_check_road A.d_check_road
  m_check_road : mg "check_road" = some (.ref A.a_check_road)
  F_share : Fun G.K "share" "share" s_share A.a_share A.d_share
  m_share : mg "share" = some (.ref A.a_share)
  F__shares : Fun G.K "_shares" "_shares" s__shares A.a__shares A.d__shares
  m__shares : mg "_shares" = some (.ref A.a__shares)
  F_parted : Fun G.K "parted" "parted" s_parted A.a_parted A.d_parted
  m_parted : mg "parted" = some (.ref A.a_parted)
  F_rows_many : Fun G.K "rows_many" "rows_many" s_rows_many A.a_rows_many A.d_rows_many
  m_rows_many : mg "rows_many" = some (.ref A.a_rows_many)
  F_states_many : Fun G.K "states_many" "states_many" s_states_many A.a_states_many A.d_states_many
  m_states_many : mg "states_many" = some (.ref A.a_states_many)
  F_crossing_counts : Fun G.K "crossing_counts" "crossing_counts" s_crossing_counts A.a_crossing_counts A.d_crossing_counts
  m_crossing_counts : mg "crossing_counts" = some (.ref A.a_crossing_counts)
  F_road_shares : Fun G.K "road_shares" "road_shares" s_road_shares A.a_road_shares A.d_road_shares
  m_road_shares : mg "road_shares" = some (.ref A.a_road_shares)
  F__law_told : Fun G.K "_law_told" "_law_told" s__law_told A.a__law_told A.d__law_told
  m__law_told : mg "_law_told" = some (.ref A.a__law_told)
  F__law_tied : Fun G.K "_law_tied" "_law_tied" s__law_tied A.a__law_tied A.d__law_tied
  m__law_tied : mg "_law_tied" = some (.ref A.a__law_tied)
  F__law_side : Fun G.K "_law_side" "_law_side" s__law_side A.a__law_side A.d__law_side
  m__law_side : mg "_law_side" = some (.ref A.a__law_side)
  F__law_states : Fun G.K "_law_states" "_law_states" s__law_states A.a__law_states A.d__law_states
  m__law_states : mg "_law_states" = some (.ref A.a__law_states)
  F__law_share : Fun G.K "_law_share" "_law_share" s__law_share A.a__law_share A.d__law_share
  m__law_share : mg "_law_share" = some (.ref A.a__law_share)
  F__law_due : Fun G.K "_law_due" "_law_due" s__law_due A.a__law_due A.d__law_due
  m__law_due : mg "_law_due" = some (.ref A.a__law_due)
  F__law_right : Fun G.K "_law_right" "_law_right" s__law_right A.a__law_right A.d__law_right
  m__law_right : mg "_law_right" = some (.ref A.a__law_right)
  F__law_pool : Fun G.K "_law_pool" "_law_pool" s__law_pool A.a__law_pool A.d__law_pool
  m__law_pool : mg "_law_pool" = some (.ref A.a__law_pool)
  F_law : Fun G.K "law" "law" s_law A.a_law A.d_law
  m_law : mg "law" = some (.ref A.a_law)
  m_Refused : mg "Refused" = some (.ref (G.cls 0))
  m_BadSize : mg "BadSize" = some (.ref (G.cls 1))
  m_BadRoad : mg "BadRoad" = some (.ref (G.cls 2))
  m_Parted : mg "Parted" = some (.ref (G.cls 3))
  m_BadLength : mg "BadLength" = some (.ref (G.cls 4))
  m_BadLamp : mg "BadLamp" = some (.ref (G.cls 5))
  m_BadPlace : mg "BadPlace" = some (.ref (G.cls 6))
  m_BadState : mg "BadState" = some (.ref (G.cls 7))
  m_BadCount : mg "BadCount" = some (.ref (G.cls 9))
  m_NotTree : mg "NotTree" = some (.ref (G.cls 14))
  m_Web : mg "Web" = some (.ref (G.cls 22))
  m_Land : mg "Land" = some (.ref (G.cls 23))
  mk_Web : Mk G.K (G.cls 22) A.a_Web_init
  mk_Land : Mk G.K (G.cls 23) A.a_Land_init
  r_BadCount : RefC G.K A.refI (G.cls 9)
  r_BadLamp : RefC G.K A.refI (G.cls 5)
  r_BadLength : RefC G.K A.refI (G.cls 4)
  r_BadPlace : RefC G.K A.refI (G.cls 6)
  r_BadRoad : RefC G.K A.refI (G.cls 2)
  r_BadSize : RefC G.K A.refI (G.cls 1)
  r_BadState : RefC G.K A.refI (G.cls 7)
  r_NotTree : RefC G.K A.refI (G.cls 14)
  r_Parted : RefC G.K A.refI (G.cls 3)
  n_lamps : ∀ C, G.isCls C → Cls G.K C ∧ NoAttr G.K C "lamps"
  n_many : ∀ C, G.isCls C → Cls G.K C ∧ NoAttr G.K C "many"
  n_roads : ∀ C, G.isCls C → Cls G.K C ∧ NoAttr G.K C "roads"
  isCls : ∀ C, G.isCls C → C8.InsC G.K C
  isExc : ∀ C, G.isExc C → XfC G.K C ∧ PySem.W.findIn G.K (.ref C) kWhat = some none
  isErr : ∀ C, G.isExc C → L2.ExcC G.K C
  b_all : mg "all" = none
  b_bool : mg "bool" = none
  b_enumerate : mg "enumerate" = none
  b_int : mg "int" = none
  b_isinstance : mg "isinstance" = none
  b_len : mg "len" = none
  b_list : mg "list" = none
  b_max : mg "max" = none
  b_min : mg "min" = none
  b_range : mg "range" = none
  b_sorted : mg "sorted" = none
  b_sum : mg "sum" = none
  b_tuple : mg "tuple" = none
  m_LONGEST : ∃ t, mg "LONGEST" = some (.int 100 t)
  m_MOST_PLACES : ∃ t, mg "MOST_PLACES" = some (.int 10 t)
  m_MOST_POSITIONS : ∃ t, mg "MOST_POSITIONS" = some (.int 6 t)
  m_SHORTEST : ∃ t, mg "SHORTEST" = some (.int 1 t)
  m_gcd : mg "gcd" = some (.builtin "math.gcd")
  m_heappop : mg "heappop" = some (.builtin "_heapq.heappop")
  m_heappush : mg "heappush" = some (.builtin "_heapq.heappush")
variable {w : World} {mg : Str → Option Value} {base : Heap} {G : GEnv} {A : ZA}
theorem sc_refI : FnScope ["self", kWhat] ["self", kWhat] (defScope s_refI) := ⟨rfl, rfl, rfl, by decide +kernel, rfl, by decide +kernel, by decide +kernel⟩
theorem B_refI (Z : Z mg G A) : Binds G.K A.dRefI ["self", kWhat] [] := Z.F_refI.binds fun _ _ _ _ _ _ us hl => match us, hl with | [_, _], _ => rfl
theorem ok_refI' (Z : Z mg G A) : FnOk PP w G.K mg base CX0 1 A.refI A.dRefI ["self", kWhat] (spRI G.K) := ok_refI Z.F_refI sc_refI rfl rfl rfl
theorem sc__law_take : FnScope ["source", "top", "drawn"] ["source", "top"] (defScope s__law_take) := ⟨rfl, rfl, rfl, by decide +kernel, rfl, by decide +kernel, by decide +kernel⟩
theorem B__law_take (Z : Z mg G A) : Binds G.K A.d__law_take ["source", "top"] [] := Z.F__law_take.binds fun _ _ _ _ _ _ us hl => match us, hl with | [_, _], _ => rfl
theorem ok__law_take (Z : Z mg G A) : Okd PP w G.K mg base 1 A.a__law_take A.d__law_take ["source", "top"] (sp__law_take G) :=
  ok_def Z.F__law_take sc__law_take (T__law_take G) (fun ds M Q R h => h.1) (fun cdv A' outer s H E hr => by
    have nd := sc__law_take.nd
    obtain ⟨hu0, hu1, hu64, hu65⟩ := room_units hr
    have tk := takes_of (X := cxOf (L2.CX PP w) PP w G.K mg base ["source", "top", "drawn"] "_law_take" (defScope s__law_take) A.a__law_take cdv A' outer s H E) (E := E) rfl rfl rfl rfl
    have hp := passes_of (X := cxOf (L2.CX PP w) PP w G.K mg base ["source", "top", "drawn"] "_law_take" (defScope s__law_take) A.a__law_take cdv A' outer s H E) rfl
    exact (b_cons (s_if (t_cmp op_gtD (e_ix hu1 (e_var 0 (pv 0)) e_int (fun _ _ => rfl)) e_int (nomark _)) (b_cons (s_set (i := 2) nd rfl (by first | exact Or.inl rfl | exact Or.inr rfl) (e_bin op_modD (e_ty c_int rfl Z.b_int PyProof.Rows.boot_int (a_cons (e_ix hu1 (e_var 0 (pv 0)) e_int (fun _ _ => rfl)) a_nil)) (e_var 1 (pv 1))))
    (b_cons (s_store hu1 (e_bin op_fdivD (e_ix hu1 (e_var 0 (pv 0)) e_int (fun _ _ => rfl)) (e_var 1 (pv 1))) (e_var 0 (pv 0)) e_int)
    (b_one (s_ret (e_var 2 (pv 2)))))) b_nil)
    (b_cons (s_store hu1 (e_bin op_modD (e_ty c_int rfl Z.b_int PyProof.Rows.boot_int (a_cons (e_bin op_addD (e_bin op_mulD (e_ix hu1 (e_var 0 (pv 0)) e_int (fun _ _ => rfl)) e_int) e_int) a_nil)) e_int) (e_var 0 (pv 0)) e_int)
    (b_one (s_ret (e_bin op_modD (e_ty c_int rfl Z.b_int PyProof.Rows.boot_int (a_cons (e_bin op_fdivD (e_bin op_modD (e_ty c_int rfl Z.b_int PyProof.Rows.boot_int (a_cons (e_bin op_mulD (e_ix hu1 (e_var 0 (pv 0)) e_int (fun _ _ => rfl)) (e_ix hu1 (e_var 0 (pv 0)) e_int (fun _ _ => rfl))) a_nil)) e_int) e_int) a_nil)) (e_var 1 (pv 1)))))))) (fun ds M Q R h => h.2)
theorem sc__law_one : FnScope ["source", "things"] ["source", "things"] (defScope s__law_one) := ⟨rfl, rfl, rfl, by decide +kernel, rfl, by decide +kernel, by decide +kernel⟩
theorem B__law_one (Z : Z mg G A) : Binds G.K A.d__law_one ["source", "things"] [] := Z.F__law_one.binds fun _ _ _ _ _ _ us hl => match us, hl with | [_, _], _ => rfl
theorem ok__law_one (Z : Z mg G A) : Okd PP w G.K mg base 2 A.a__law_one A.d__law_one ["source", "things"] (sp__law_one G) :=
  ok_def Z.F__law_one sc__law_one (T__law_one G) (fun ds M Q R h => h.1) (fun cdv A' outer s H E hr => by
    have nd := sc__law_one.nd
    obtain ⟨hu0, hu1, hu64, hu65⟩ := room_units hr
    have tk := takes_of (X := cxOf (L2.CX PP w) PP w G.K mg base ["source", "things"] "_law_one" (defScope s__law_one) A.a__law_one cdv A' outer s H E) (E := E) rfl rfl rfl rfl
    have hp := passes_of (X := cxOf (L2.CX PP w) PP w G.K mg base ["source", "things"] "_law_one" (defScope s__law_one) A.a__law_one cdv A' outer s H E) rfl
    exact (b_one (s_ret (e_ix hu1 (e_var 1 (pv 1)) (e_call tk (ok__law_take Z) (hr.mono (by decide)) rfl Z.m__law_take Z.F__law_take.kp (B__law_take Z) (a_cons (e_var 0 (pv 0)) (a_cons (e_b c_len rfl Z.b_len PySem.boot_len (a_cons (e_var 1 (pv 1)) a_nil)) a_nil))) (fun _ _ => rfl))))) (fun ds M Q R h => h.2)
theorem sc__law_tree_roads : FnScope ["source", "many", "lengths", "found", "x"] ["source", "many", "lengths"] (defScope s__law_tree_roads) := ⟨rfl, rfl, rfl, by decide +kernel, rfl, by decide +kernel, by decide +kernel⟩
theorem B__law_tree_roads (Z : Z mg G A) : Binds G.K A.d__law_tree_roads ["source", "many", "lengths"] [] := Z.F__law_tree_roads.binds fun _ _ _ _ _ _ us hl => match us, hl with | [_, _, _], _ => rfl
theorem ok__law_tree_roads (Z : Z mg G A) : Okd PP w G.K mg base 3 A.a__law_tree_roads A.d__law_tree_roads ["source", "many", "lengths"] (sp__law_tree_roads G) :=
  ok_def Z.F__law_tree_roads sc__law_tree_roads (T__law_tree_roads G) (fun ds M Q R h => h.1) (fun cdv A' outer s H E hr => by
    have nd := sc__law_tree_roads.nd
    obtain ⟨hu0, hu1, hu64, hu65⟩ := room_units hr
    have tk := takes_of (X := cxOf (L2.CX PP w) PP w G.K mg base ["source", "many", "lengths", "found", "x"] "_law_tree_roads" (defScope s__law_tree_roads) A.a__law_tree_roads cdv A' outer s H E) (E := E) rfl rfl rfl rfl
    have hp := passes_of (X := cxOf (L2.CX PP w) PP w G.K mg base ["source", "many", "lengths", "found", "x"] "_law_tree_roads" (defScope s__law_tree_roads) A.a__law_tree_roads cdv A' outer s H E) rfl
    exact (b_cons (s_set (i := 3) nd rfl (by first | exact Or.inl rfl | exact Or.inr rfl) (e_lstM a_nil))
    (b_cons (s_for hp rfl (i_range2 rfl Z.b_range (a_cons e_int (a_cons (e_var 1 (pv 1)) a_nil))) (pg_name (i := 4) nd rfl (by first | exact Or.inl rfl | exact Or.inr rfl)) (gok_name 4) (b_one (s_expr (e_bm ty_list PySem.F.plainAttrs_list PySem.F.slot_list_append PySem.F.type_list_append m_append (e_var 3 (pv 3)) (a_cons (e_tup (a_cons (e_call tk (ok__law_take Z) (hr.mono (by decide)) rfl Z.m__law_take Z.F__law_take.kp (B__law_take Z) (a_cons (e_var 0 (pv 0)) (a_cons (e_var 4 (pv 4)) a_nil))) (a_cons (e_var 4 (pv 4)) (a_cons (e_call tk (ok__law_one Z) (hr.mono (by decide)) rfl Z.m__law_one Z.F__law_one.kp (B__law_one Z) (a_cons (e_var 0 (pv 0)) (a_cons (e_var 2 (pv 2)) a_nil))) a_nil)))) a_nil)))))
    (b_one (s_ret (e_ty c_tuple rfl Z.b_tuple PyProof.Rows.boot_tuple (a_cons (e_b (c_sortedT finF_ok (by decide)) rfl Z.b_sorted PyProof.Rows.boot_sorted (a_cons (e_var 3 (pv 3)) a_nil)) a_nil))))))) (fun ds M Q R h => h.2)
theorem sc__law_web : FnScope ["source", "menu", "lengths", "many", "roads", "free", "used", "road", "q", "p"] ["source", "menu", "lengths"] (defScope s__law_web) := ⟨rfl, rfl, rfl, by decide +kernel, rfl, by decide +kernel, by decide +kernel⟩
theorem B__law_web (Z : Z mg G A) : Binds G.K A.d__law_web ["source", "menu", "lengths"] [] := Z.F__law_web.binds fun _ _ _ _ _ _ us hl => match us, hl with | [_, _, _], _ => rfl
theorem ok__law_web (Z : Z mg G A) : Okd PP w G.K mg base 4 A.a__law_web A.d__law_web ["source", "menu", "lengths"] (sp__law_web G) :=
  ok_def Z.F__law_web sc__law_web (T__law_web G) (fun ds M Q R h => h.1) (fun cdv A' outer s H E hr => by
    have nd := sc__law_web.nd
    obtain ⟨hu0, hu1, hu64, hu65⟩ := room_units hr
    have tk := takes_of (X := cxOf (L2.CX PP w) PP w G.K mg base ["source", "menu", "lengths", "many", "roads", "free", "used", "road", "q", "p"] "_law_web" (defScope s__law_web) A.a__law_web cdv A' outer s H E) (E := E) rfl rfl rfl rfl
    have hp := passes_of (X := cxOf (L2.CX PP w) PP w G.K mg base ["source", "menu", "lengths", "many", "roads", "free", "used", "road", "q", "p"] "_law_web" (defScope s__law_web) A.a__law_web cdv A' outer s H E) rfl
    exact (b_cons (s_set (i := 3) nd rfl (by first | exact Or.inl rfl | exact Or.inr rfl) (e_call tk (ok__law_one Z) (hr.mono (by decide)) rfl Z.m__law_one Z.F__law_one.kp (B__law_one Z) (a_cons (e_var 0 (pv 0)) (a_cons (e_var 1 (pv 1)) a_nil))))
    (b_cons (s_set (i := 4) nd rfl (by first | exact Or.inl rfl | exact Or.inr rfl) (e_ty (c_list finM_ok) rfl Z.b_list PyProof.Rows.boot_list (a_cons (e_call tk (ok__law_tree_roads Z) (hr.mono (by decide)) rfl Z.m__law_tree_roads Z.F__law_tree_roads.kp (B__law_tree_roads Z) (a_cons (e_var 0 (pv 0)) (a_cons (e_var 3 (pv 3)) (a_cons (e_var 2 (pv 2)) a_nil)))) a_nil)))
    (b_cons (s_if (t_w (w_and (t_cmp op_gtD (e_var 3 (pv 3)) e_int (nomark _)) (w_and1 (t_cmp (op_eqDD hu64) (e_call tk (ok__law_take Z) (hr.mono (by decide)) rfl Z.m__law_take Z.F__law_take.kp (B__law_take Z) (a_cons (e_var 0 (pv 0)) (a_cons e_int a_nil))) e_int (nomark _))))) (b_cons (s_asg (e_tup (a_cons (e_lstM a_nil) (a_cons (e_comp finF_ok (own := [("road", 7)]) rfl nd (i_seq (e_var 4 (pv 4))) (blkOk_by (own := [("road", 7)]) (by kernel_rfl)) (fun _ _ _ _ _ => (pg_name (i := 7) nd rfl (by first | exact Or.inl rfl | exact Or.inr rfl))) (gok_name 7) (by decide) (fun _ _ _ _ _ => pts_nil) dYes_ok (fun _ _ _ _ _ => (e_slice (e_var 7 (pv 7)) o_none (o_some e_int)))) a_nil))) (pg_tup rfl (pgs_cons (pg_name (i := 5) nd rfl (by first | exact Or.inl rfl | exact Or.inr rfl)) (pgs_cons (pg_name (i := 6) nd rfl (by first | exact Or.inl rfl | exact Or.inr rfl)) pgs_nil))) (gok_tup (gsok_cons (gok_name 5) (gsok_cons (gok_name 6) gsok_nil)) rfl))
    (b_cons (s_for hp rfl (i_range1 rfl Z.b_range (a_cons (e_var 3 (pv 3)) a_nil)) (pg_name (i := 8) nd rfl (by first | exact Or.inl rfl | exact Or.inr rfl)) (gok_name 8) (b_one (s_expr (e_bm ty_list PySem.F.plainAttrs_list PySem.F.slot_list_extend PySem.F.type_list_extend m_extend (e_var 5 (pv 5)) (a_cons (e_comp finF_ok (own := [("p", 9)]) rfl nd (i_range1 rfl Z.b_range (a_cons (e_var 8 (pv 8)) a_nil)) (blkOk_by (own := [("p", 9)]) (by kernel_rfl)) (fun _ _ _ _ _ => (pg_name (i := 9) nd rfl (by first | exact Or.inl rfl | exact Or.inr rfl))) (gok_name 9) (by decide) (fun _ _ _ _ _ => pts_one (by exact (t_cmp (op_inDD true hu65) (e_tup (a_cons (e_var 9 (pv 9)) (a_cons (e_var 8 (pv 8)) a_nil))) (e_var 6 (pv 6)) rfl))) (fun _ _ _ h => h) (fun _ _ _ _ _ => (e_tup (a_cons (e_var 9 (pv 9)) (a_cons (e_var 8 (pv 8)) a_nil))))) a_nil)))))
    (b_one (s_expr (e_bm ty_list PySem.F.plainAttrs_list PySem.F.slot_list_append PySem.F.type_list_append m_append (e_var 4 (pv 4)) (a_cons (e_bin op_addD (e_call tk (ok__law_one Z) (hr.mono (by decide)) rfl Z.m__law_one Z.F__law_one.kp (B__law_one Z) (a_cons (e_var 0 (pv 0)) (a_cons (e_var 5 (pv 5)) a_nil))) (e_tup (a_cons (e_call tk (ok__law_one Z) (hr.mono (by decide)) rfl Z.m__law_one Z.F__law_one.kp (B__law_one Z) (a_cons (e_var 0 (pv 0)) (a_cons (e_var 2 (pv 2)) a_nil))) a_nil))) a_nil)))))) b_nil)
    (b_one (s_ret (e_tup (a_cons (e_var 3 (pv 3)) (a_cons (e_ty c_tuple rfl Z.b_tuple PyProof.Rows.boot_tuple (a_cons (e_b (c_sortedT finF_ok (by decide)) rfl Z.b_sorted PyProof.Rows.boot_sorted (a_cons (e_var 4 (pv 4)) a_nil)) a_nil)) a_nil))))))))) (fun ds M Q R h => h.2)
theorem sc__law_land : FnScope ["source", "menu", "lengths", "n", "roads", "x"] ["source", "menu", "lengths"] (defScope s__law_land) := ⟨rfl, rfl, rfl, by decide +kernel, rfl, by decide +kernel, by decide +kernel⟩
theorem B__law_land (Z : Z mg G A) : Binds G.K A.d__law_land ["source", "menu", "lengths"] [] := Z.F__law_land.binds fun _ _ _ _ _ _ us hl => match us, hl with | [_, _, _], _ => rfl
theorem ok__law_land (Z : Z mg G A) : Okd PP w G.K mg base 5 A.a__law_land A.d__law_land ["source", "menu", "lengths"] (sp__law_land G) :=
  ok_def Z.F__law_land sc__law_land (T__law_land G) (fun ds M Q R h => h.1) (fun cdv A' outer s H E hr => by
    have nd := sc__law_land.nd
    obtain ⟨hu0, hu1, hu64, hu65⟩ := room_units hr
    have tk := takes_of (X := cxOf (L2.CX PP w) PP w G.K mg base ["source", "menu", "lengths", "n", "roads", "x"] "_law_land" (defScope s__law_land) A.a__law_land cdv A' outer s H E) (E := E) rfl rfl rfl rfl
    have hp := passes_of (X := cxOf (L2.CX PP w) PP w G.K mg base ["source", "menu", "lengths", "n", "roads", "x"] "_law_land" (defScope s__law_land) A.a__law_land cdv A' outer s H E) rfl
    exact (b_cons (s_set (i := 3) nd rfl (by first | exact Or.inl rfl | exact Or.inr rfl) (e_call tk (ok__law_one Z) (hr.mono (by decide)) rfl Z.m__law_one Z.F__law_one.kp (B__law_one Z) (a_cons (e_var 0 (pv 0)) (a_cons (e_var 1 (pv 1)) a_nil))))
    (b_cons (s_set (i := 4) nd rfl (by first | exact Or.inl rfl | exact Or.inr rfl) (e_call tk (ok__law_tree_roads Z) (hr.mono (by decide)) rfl Z.m__law_tree_roads Z.F__law_tree_roads.kp (B__law_tree_roads Z) (a_cons (e_var 0 (pv 0)) (a_cons (e_var 3 (pv 3)) (a_cons (e_var 2 (pv 2)) a_nil)))))
    (b_one (s_ret (e_tup (a_cons (e_var 4 (pv 4)) (a_cons (e_ty c_tuple rfl Z.b_tuple PyProof.Rows.boot_tuple (a_cons (e_comp finF_ok (own := [("x", 5)]) rfl nd (i_range1 rfl Z.b_range (a_cons (e_var 3 (pv 3)) a_nil)) (blkOk_by (own := [("x", 5)]) (by kernel_rfl)) (fun _ _ _ _ _ => (pg_name (i := 5) nd rfl (by first | exact Or.inl rfl | exact Or.inr rfl))) (gok_name 5) (by decide) (fun _ _ _ _ _ => pts_nil) dYes_ok (fun _ _ _ _ _ => (e_call takes0 (ok__law_web Z) (hr.mono (by decide)) rfl Z.m__law_web Z.F__law_web.kp (B__law_web Z) (a_cons (e_var 0 (pv 0)) (a_cons (e_lst (a_cons e_int (a_cons e_int (a_cons e_int (a_cons e_int a_nil))))) (a_cons (e_var 2 (pv 2)) a_nil)))))) a_nil)) a_nil)))))))) (fun ds M Q R h => h.2)
theorem sc__law_states_many : FnScope ["land", "found", "many", "roads"] ["land"] (defScope s__law_states_many) := ⟨rfl, rfl, rfl, by decide +kernel, rfl, by decide +kernel, by decide +kernel⟩
theorem B__law_states_many (Z : Z mg G A) : Binds G.K A.d__law_states_many ["land"] [] := Z.F__law_states_many.binds fun _ _ _ _ _ _ us hl => match us, hl with | [_], _ => rfl
theorem ok__law_states_many (Z : Z mg G A) : Okd PP w G.K mg base 1 A.a__law_states_many A.d__law_states_many ["land"] (sp__law_states_many G) :=
  ok_def Z.F__law_states_many sc__law_states_many (T__law_states_many G) (fun ds M Q R h => h.1) (fun cdv A' outer s H E hr => by
    have nd := sc__law_states_many.nd
    obtain ⟨hu0, hu1, hu64, hu65⟩ := room_units hr
    have tk := takes_of (X := cxOf (L2.CX PP w) PP w G.K mg base ["land", "found", "many", "roads"] "_law_states_many" (defScope s__law_states_many) A.a__law_states_many cdv A' outer s H E) (E := E) rfl rfl rfl rfl
    have hp := passes_of (X := cxOf (L2.CX PP w) PP w G.K mg base ["land", "found", "many", "roads"] "_law_states_many" (defScope s__law_states_many) A.a__law_states_many cdv A' outer s H E) rfl
    exact (b_cons (s_set (i := 1) nd rfl (by first | exact Or.inl rfl | exact Or.inr rfl) (e_b c_len rfl Z.b_len PySem.boot_len (a_cons (e_ix hu1 (e_var 0 (pv 0)) e_int (fun _ _ => rfl)) a_nil)))
    (b_cons (s_for hp rfl (i_seq (e_ix hu1 (e_var 0 (pv 0)) e_int (fun _ _ => rfl))) (pg_tup rfl (pgs_cons (pg_name (i := 2) nd rfl (by first | exact Or.inl rfl | exact Or.inr rfl)) (pgs_cons (pg_name (i := 3) nd rfl (by first | exact Or.inl rfl | exact Or.inr rfl)) pgs_nil))) (gok_tup (gsok_cons (gok_name 2) (gsok_cons (gok_name 3) gsok_nil)) rfl) (b_one (s_set (i := 1) nd rfl (by first | exact Or.inl rfl | exact Or.inr rfl) (e_bin op_mulD (e_var 1 (pv 1)) (e_var 2 (pv 2))))))
    (b_one (s_ret (e_var 1 (pv 1))))))) (fun ds M Q R h => h.2)
theorem sc__law_small : FnScope ["source", "most", "turn", "land"] ["source", "most"] (defScope s__law_small) := ⟨rfl, rfl, rfl, by decide +kernel, rfl, by decide +kernel, by decide +kernel⟩
theorem B__law_small (Z : Z mg G A) : Binds G.K A.d__law_small ["source", "most"] [] := Z.F__law_small.binds fun _ _ _ _ _ _ us hl => match us, hl with | [_, _], _ => rfl
theorem ok__law_small (Z : Z mg G A) : Okd PP w G.K mg base 6 A.a__law_small A.d__law_small ["source", "most"] (sp__law_small G) :=
  ok_def Z.F__law_small sc__law_small (T__law_small G) (fun ds M Q R h => h.1) (fun cdv A' outer s H E hr => by
    have nd := sc__law_small.nd
    obtain ⟨hu0, hu1, hu64, hu65⟩ := room_units hr
    have tk := takes_of (X := cxOf (L2.CX PP w) PP w G.K mg base ["source", "most", "turn", "land"] "_law_small" (defScope s__law_small) A.a__law_small cdv A' outer s H E) (E := E) rfl rfl rfl rfl
    have hp := passes_of (X := cxOf (L2.CX PP w) PP w G.K mg base ["source", "most", "turn", "land"] "_law_small" (defScope s__law_small) A.a__law_small cdv A' outer s H E) rfl
    exact (b_cons (s_for hp rfl (i_range1 rfl Z.b_range (a_cons e_int a_nil)) (pg_name (i := 2) nd rfl (by first | exact Or.inl rfl | exact Or.inr rfl)) (gok_name 2) (b_cons (s_set (i := 3) nd rfl (by first | exact Or.inl rfl | exact Or.inr rfl) (e_call tk (ok__law_land Z) (hr.mono (by decide)) rfl Z.m__law_land Z.F__law_land.kp (B__law_land Z) (a_cons (e_var 0 (pv 0)) (a_cons (e_lst (a_cons e_int (a_cons e_int (a_cons e_int (a_cons e_int (a_cons e_int (a_cons e_int (a_cons e_int a_nil)))))))) (a_cons (e_lst (a_cons e_int (a_cons e_int (a_cons e_int (a_cons e_int (a_cons (e_call tk (ok__law_one Z) (hr.mono (by decide)) rfl Z.m__law_one Z.F__law_one.kp (B__law_one Z) (a_cons (e_var 0 (pv 0)) (a_cons (e_lst (a_cons e_int (a_cons e_int (a_cons e_int a_nil)))) a_nil))) a_nil)))))) a_nil)))))
    (b_one (s_if (t_cmp (op_leD hu0) (e_call tk (ok__law_states_many Z) (hr.mono (by decide)) rfl Z.m__law_states_many Z.F__law_states_many.kp (B__law_states_many Z) (a_cons (e_var 3 (pv 3)) a_nil)) (e_var 1 (pv 1)) (nomark _)) (b_one (s_ret (e_var 3 (pv 3)))) b_nil))))
    (b_one (s_ret (e_tup (a_cons (e_tup (a_cons (e_tup (a_cons e_int (a_cons e_int (a_cons e_int a_nil)))) (a_cons (e_tup (a_cons e_int (a_cons e_int (a_cons e_int a_nil)))) a_nil))) (a_cons (e_tup (a_cons (e_tup (a_cons e_int (a_cons (e_tup (a_cons (e_tup (a_cons e_int (a_cons e_int (a_cons e_int a_nil)))) a_nil)) a_nil))) (a_cons (e_tup (a_cons e_int (a_cons (e_tup a_nil) a_nil))) (a_cons (e_tup (a_cons e_int (a_cons (e_tup (a_cons (e_tup (a_cons e_int (a_cons e_int (a_cons e_int a_nil)))) a_nil)) a_nil))) a_nil)))) a_nil))))))) (fun ds M Q R h => h.2)
theorem sc__law_row : FnScope ["source", "lamps", "many", "roads"] ["source", "lamps"] (defScope s__law_row) := ⟨rfl, rfl, rfl, by decide +kernel, rfl, by decide +kernel, by decide +kernel⟩
theorem B__law_row (Z : Z mg G A) : Binds G.K A.d__law_row ["source", "lamps"] [] := Z.F__law_row.binds fun _ _ _ _ _ _ us hl => match us, hl with | [_, _], _ => rfl
theorem ok__law_row (Z : Z mg G A) : Okd PP w G.K mg base 2 A.a__law_row A.d__law_row ["source", "lamps"] (sp__law_row G) :=
  ok_def Z.F__law_row sc__law_row (T__law_row G) (fun ds M Q R h => h.1) (fun cdv A' outer s H E hr => by
    have nd := sc__law_row.nd
    obtain ⟨hu0, hu1, hu64, hu65⟩ := room_units hr
    have tk := takes_of (X := cxOf (L2.CX PP w) PP w G.K mg base ["source", "lamps", "many", "roads"] "_law_row" (defScope s__law_row) A.a__law_row cdv A' outer s H E) (E := E) rfl rfl rfl rfl
    have hp := passes_of (X := cxOf (L2.CX PP w) PP w G.K mg base ["source", "lamps", "many", "roads"] "_law_row" (defScope s__law_row) A.a__law_row cdv A' outer s H E) rfl
    exact (b_one (s_ret (e_ty c_tuple rfl Z.b_tuple PyProof.Rows.boot_tuple (a_cons (e_comp finF_ok (own := [("many", 2), ("roads", 3)]) rfl nd (i_seq (e_var 1 (pv 1))) (blkOk_by (own := [("many", 2), ("roads", 3)]) (by kernel_rfl)) (fun _ _ _ _ _ => (pg_tup rfl (pgs_cons (pg_name (i := 2) nd rfl (by first | exact Or.inl rfl | exact Or.inr rfl)) (pgs_cons (pg_name (i := 3) nd rfl (by first | exact Or.inl rfl | exact Or.inr rfl)) pgs_nil)))) (gok_tup (gsok_cons (gok_name 2) (gsok_cons (gok_name 3) gsok_nil)) rfl) (by decide) (fun _ _ _ _ _ => pts_nil) dYes_ok (fun _ _ _ _ _ => (e_call takes0 (ok__law_take Z) (hr.mono (by decide)) rfl Z.m__law_take Z.F__law_take.kp (B__law_take Z) (a_cons (e_var 0 (pv 0)) (a_cons (e_var 2 (pv 2)) a_nil))))) a_nil))))) (fun ds M Q R h => h.2)
theorem sc__law_state : FnScope ["source", "lamps"] ["source", "lamps"] (defScope s__law_state) := ⟨rfl, rfl, rfl, by decide +kernel, rfl, by decide +kernel, by decide +kernel⟩
theorem B__law_state (Z : Z mg G A) : Binds G.K A.d__law_state ["source", "lamps"] [] := Z.F__law_state.binds fun _ _ _ _ _ _ us hl => match us, hl with | [_, _], _ => rfl
theorem ok__law_state (Z : Z mg G A) : Okd PP w G.K mg base 3 A.a__law_state A.d__law_state ["source", "lamps"] (sp__law_state G) :=
  ok_def Z.F__law_state sc__law_state (T__law_state G) (fun ds M Q R h => h.1) (fun cdv A' outer s H E hr => by
    have nd := sc__law_state.nd
    obtain ⟨hu0, hu1, hu64, hu65⟩ := room_units hr
    have tk := takes_of (X := cxOf (L2.CX PP w) PP w G.K mg base ["source", "lamps"] "_law_state" (defScope s__law_state) A.a__law_state cdv A' outer s H E) (E := E) rfl rfl rfl rfl
    have hp := passes_of (X := cxOf (L2.CX PP w) PP w G.K mg base ["source", "lamps"] "_law_state" (defScope s__law_state) A.a__law_state cdv A' outer s H E) rfl
    exact (b_one (s_ret (e_tup (a_cons (e_call tk (ok__law_take Z) (hr.mono (by decide)) rfl Z.m__law_take Z.F__law_take.kp (B__law_take Z) (a_cons (e_var 0 (pv 0)) (a_cons (e_b c_len rfl Z.b_len PySem.boot_len (a_cons (e_var 1 (pv 1)) a_nil)) a_nil))) (a_cons (e_call tk (ok__law_row Z) (hr.mono (by decide)) rfl Z.m__law_row Z.F__law_row.kp (B__law_row Z) (a_cons (e_var 0 (pv 0)) (a_cons (e_var 1 (pv 1)) a_nil))) a_nil)))))) (fun ds M Q R h => h.2)
theorem sc_is_number : FnScope ["thing"] ["thing"] (defScope s_is_number) := ⟨rfl, rfl, rfl, by decide +kernel, rfl, by decide +kernel, by decide +kernel⟩
theorem B_is_number (Z : Z mg G A) : Binds G.K A.d_is_number ["thing"] [] := Z.F_is_number.binds fun _ _ _ _ _ _ us hl => match us, hl with | [_], _ => rfl
theorem ok_is_number (Z : Z mg G A) : Okd PP w G.K mg base 1 A.a_is_number A.d_is_number ["thing"] (sp_is_number G) :=
  ok_def Z.F_is_number sc_is_number (T_is_number G) (fun ds M Q R h => h.1) (fun cdv A' outer s H E hr => by
    have nd := sc_is_number.nd
    obtain ⟨hu0, hu1, hu64, hu65⟩ := room_units hr
    have tk := takes_of (X := cxOf (L2.CX PP w) PP w G.K mg base ["thing"] "is_number" (defScope s_is_number) A.a_is_number cdv A' outer s H E) (E := E) rfl rfl rfl rfl
    have hp := passes_of (X := cxOf (L2.CX PP w) PP w G.K mg base ["thing"] "is_number" (defScope s_is_number) A.a_is_number cdv A' outer s H E) rfl
    exact (b_one (s_ret (e_and (e_b (c_isi Z.isCls) rfl Z.b_isinstance PyProof.Rows.boot_isinstance (a_cons (e_var 0 (pv 0)) (a_cons (e_bltTy rfl Z.b_int PyProof.Rows.boot_int) a_nil))) (e_one (e_not (e_b (c_isi Z.isCls) rfl Z.b_isinstance PyProof.Rows.boot_isinstance (a_cons (e_var 0 (pv 0)) (a_cons (e_bltTy rfl Z.b_bool PyProof.Rows.boot_bool) a_nil))))))))) (fun ds M Q R h => h.2)
theorem sc__is_road : FnScope ["many", "thing", "part"] ["many", "thing"] (defScope s__is_road) := ⟨rfl, rfl, rfl, by decide +kernel, rfl, by decide +kernel, by decide +kernel⟩
theorem B__is_road (Z : Z mg G A) : Binds G.K A.d__is_road ["many", "thing"] [] := Z.F__is_road.binds fun _ _ _ _ _ _ us hl => match us, hl with | [_, _], _ => rfl
theorem ok__is_road (Z : Z mg G A) : Okd PP w G.K mg base 2 A.a__is_road A.d__is_road ["many", "thing"] (sp__is_road G) :=
  ok_def Z.F__is_road sc__is_road (T__is_road G) (fun ds M Q R h => h.1) (fun cdv A' outer s H E hr => by
    have nd := sc__is_road.nd
    obtain ⟨hu0, hu1, hu64, hu65⟩ := room_units hr
    have tk := takes_of (X := cxOf (L2.CX PP w) PP w G.K mg base ["many", "thing", "part"] "_is_road" (defScope s__is_road) A.a__is_road cdv A' outer s H E) (E := E) rfl rfl rfl rfl
    have hp := passes_of (X := cxOf (L2.CX PP w) PP w G.K mg base ["many", "thing", "part"] "_is_road" (defScope s__is_road) A.a__is_road cdv A' outer s H E) rfl
    exact (b_cons (s_if (t_w (w_or (t_not (t_tru (e_b (c_isi Z.isCls) rfl Z.b_isinstance PyProof.Rows.boot_isinstance (a_cons (e_var 1 (pv 1)) (a_cons (e_bltTy rfl Z.b_tuple PyProof.Rows.boot_tuple) a_nil))) (fun _ => rfl))) (w_or1 (t_cmp (op_neDD hu64) (e_b c_len rfl Z.b_len PySem.boot_len (a_cons (e_var 1 (pv 1)) a_nil)) e_int (nomark _))))) (b_one (s_ret e_bl)) b_nil)
    (b_cons (s_if (t_not (t_tru (e_b (c_all rfl) rfl Z.b_all PyProof.Rows.boot_all (a_cons (e_comp finF_ok (own := [("part", 2)]) rfl nd (i_seq (e_var 1 (pv 1))) (blkOk_by (own := [("part", 2)]) (by kernel_rfl)) (fun _ _ _ _ _ => (pg_name (i := 2) nd rfl (by first | exact Or.inl rfl | exact Or.inr rfl))) (gok_name 2) (by decide) (fun _ _ _ _ _ => pts_nil) dYes_ok (fun _ _ _ _ _ => (e_call takes0 (ok_is_number Z) (hr.mono (by decide)) rfl Z.m_is_number Z.F_is_number.kp (B_is_number Z) (a_cons (e_var 2 (pv 2)) a_nil)))) a_nil)) (fun _ => rfl))) (b_one (s_ret e_bl)) b_nil)
    (b_one (s_ret (e_chain3 (op_leD hu0) (op_ltD hu0) (op_ltD hu0) e_int (e_ix hu1 (e_var 1 (pv 1)) e_int (fun _ _ => rfl)) (e_ix hu1 (e_var 1 (pv 1)) e_int (fun _ _ => rfl)) (e_var 0 (pv 0)))))))) (fun ds M Q R h => h.2)
theorem sc_is_length : FnScope ["length"] ["length"] (defScope s_is_length) := ⟨rfl, rfl, rfl, by decide +kernel, rfl, by decide +kernel, by decide +kernel⟩
theorem B_is_length (Z : Z mg G A) : Binds G.K A.d_is_length ["length"] [] := Z.F_is_length.binds fun _ _ _ _ _ _ us hl => match us, hl with | [_], _ => rfl
theorem ok_is_length (Z : Z mg G A) : Okd PP w G.K mg base 1 A.a_is_length A.d_is_length ["length"] (sp_is_length G) :=
  ok_def Z.F_is_length sc_is_length (T_is_length G) (fun ds M Q R h => h.1) (fun cdv A' outer s H E hr => by
    have nd := sc_is_length.nd
    obtain ⟨hu0, hu1, hu64, hu65⟩ := room_units hr
    have tk := takes_of (X := cxOf (L2.CX PP w) PP w G.K mg base ["length"] "is_length" (defScope s_is_length) A.a_is_length cdv A' outer s H E) (E := E) rfl rfl rfl rfl
    have hp := passes_of (X := cxOf (L2.CX PP w) PP w G.K mg base ["length"] "is_length" (defScope s_is_length) A.a_is_length cdv A' outer s H E) rfl
    exact (b_one (s_ret (e_chain (op_leD hu0) (op_leD hu0) (e_globInt rfl Z.m_SHORTEST.choose_spec) (e_var 0 (pv 0)) (e_globInt rfl Z.m_LONGEST.choose_spec))))) (fun ds M Q R h => h.2)
theorem sc_check_roads : FnScope ["many", "roads", "i", "road"] ["many", "roads"] (defScope s_check_roads) := ⟨rfl, rfl, rfl, by decide +kernel, rfl, by decide +kernel, by decide +kernel⟩
theorem B_check_roads (Z : Z mg G A) : Binds G.K A.d_check_roads ["many", "roads"] [] := Z.F_check_roads.binds fun _ _ _ _ _ _ us hl => match us, hl with | [_, _], _ => rfl
theorem ok_check_roads (Z : Z mg G A) : Okd PP w G.K mg base 3 A.a_check_roads A.d_check_roads ["many", "roads"] (sp_check_roads G) :=
  ok_def Z.F_check_roads sc_check_roads (T_check_roads G) (fun ds M Q R h => h.1) (fun cdv A' outer s H E hr => by
    have nd := sc_check_roads.nd
    obtain ⟨hu0, hu1, hu64, hu65⟩ := room_units hr
    have tk := takes_of (X := cxOf (L2.CX PP w) PP w G.K mg base ["many", "roads", "i", "road"] "check_roads" (defScope s_check_roads) A.a_check_roads cdv A' outer s H E) (E := E) rfl rfl rfl rfl
    have hp := passes_of (X := cxOf (L2.CX PP w) PP w G.K mg base ["many", "roads", "i", "road"] "check_roads" (defScope s_check_roads) A.a_check_roads cdv A' outer s H E) rfl
    exact (b_cons (s_for hp rfl (i_enum rfl Z.b_enumerate (a_cons (e_var 1 (pv 1)) a_nil)) (pg_tup rfl (pgs_cons (pg_name (i := 2) nd rfl (by first | exact Or.inl rfl | exact Or.inr rfl)) (pgs_cons (pg_name (i := 3) nd rfl (by first | exact Or.inl rfl | exact Or.inr rfl)) pgs_nil))) (gok_tup (gsok_cons (gok_name 2) (gsok_cons (gok_name 3) gsok_nil)) rfl) (b_cons (s_if (t_not (t_tru (e_call tk (ok__is_road Z) (hr.mono (by decide)) rfl Z.m__is_road Z.F__is_road.kp (B__is_road Z) (a_cons (e_var 0 (pv 0)) (a_cons (e_var 3 (pv 3)) a_nil))) (fun _ => rfl))) (b_one (s_raise rfl tk Z.r_BadRoad Z.tI (ok_refI' Z) (hr.mono (by decide)) (B_refI Z) rfl Z.m_BadRoad (e_var 2 (pv 2)))) b_nil)
    (b_one (s_if (t_w (w_and (t_cmp op_gtD (e_var 2 (pv 2)) e_int (nomark _)) (w_and1 (t_cmp (op_leD hu0) (e_slice (e_var 3 (pv 3)) o_none (o_some e_int)) (e_slice (e_ix hu1 (e_var 1 (pv 1)) (e_bin op_subD (e_var 2 (pv 2)) e_int) (fun _ _ => rfl)) o_none (o_some e_int)) (nomark _))))) (b_one (s_raise rfl tk Z.r_BadRoad Z.tI (ok_refI' Z) (hr.mono (by decide)) (B_refI Z) rfl Z.m_BadRoad (e_var 2 (pv 2)))) b_nil))))
    (b_one (s_for hp rfl (i_enum rfl Z.b_enumerate (a_cons (e_var 1 (pv 1)) a_nil)) (pg_tup rfl (pgs_cons (pg_name (i := 2) nd rfl (by first | exact Or.inl rfl | exact Or.inr rfl)) (pgs_cons (pg_name (i := 3) nd rfl (by first | exact Or.inl rfl | exact Or.inr rfl)) pgs_nil))) (gok_tup (gsok_cons (gok_name 2) (gsok_cons (gok_name 3) gsok_nil)) rfl) (b_one (s_if (t_not (t_tru (e_call tk (ok_is_length Z) (hr.mono (by decide)) rfl Z.m_is_length Z.F_is_length.kp (B_is_length Z) (a_cons (e_ix hu1 (e_var 3 (pv 3)) e_int (fun _ _ => rfl)) a_nil)) (fun _ => rfl))) (b_one (s_raise rfl tk Z.r_BadLength Z.tI (ok_refI' Z) (hr.mono (by decide)) (B_refI Z) rfl Z.m_BadLength (e_var 2 (pv 2)))) b_nil)))))) (fun ds M Q R h => h.2)
theorem sc_tied : FnScope ["roads", "x", "before", "p", "q", "length", "behind"] ["roads", "x"] (defScope s_tied) := ⟨rfl, rfl, rfl, by decide +kernel, rfl, by decide +kernel, by decide +kernel⟩
theorem B_tied (Z : Z mg G A) : Binds G.K A.d_tied ["roads", "x"] [] := Z.F_tied.binds fun _ _ _ _ _ _ us hl => match us, hl with | [_, _], _ => rfl
theorem ok_tied (Z : Z mg G A) : Okd PP w G.K mg base 1 A.a_tied A.d_tied ["roads", "x"] (sp_tied G) :=
  ok_def Z.F_tied sc_tied (T_tied G) (fun ds M Q R h => h.1) (fun cdv A' outer s H E hr => by
    have nd := sc_tied.nd
    obtain ⟨hu0, hu1, hu64, hu65⟩ := room_units hr
    have tk := takes_of (X := cxOf (L2.CX PP w) PP w G.K mg base ["roads", "x", "before", "p", "q", "length", "behind"] "tied" (defScope s_tied) A.a_tied cdv A' outer s H E) (E := E) rfl rfl rfl rfl
    have hp := passes_of (X := cxOf (L2.CX PP w) PP w G.K mg base ["roads", "x", "before", "p", "q", "length", "behind"] "tied" (defScope s_tied) A.a_tied cdv A' outer s H E) rfl
    exact (b_cons (by first | exact (s_setComp finF_ok (own := [("p", 3), ("q", 4), ("length", 5)]) (i := 2) rfl nd rfl rfl (sw_true rfl rfl rfl (by kernel_rfl)) (i_seq (e_var 0 (pv 0))) (blkOk_by (own := [("p", 3), ("q", 4), ("length", 5)]) (by kernel_rfl)) (fun _ _ _ _ _ => (pg_tup rfl (pgs_cons (pg_name (i := 3) nd rfl (by first | exact Or.inl rfl | exact Or.inr rfl)) (pgs_cons (pg_name (i := 4) nd rfl (by first | exact Or.inl rfl | exact Or.inr rfl)) (pgs_cons (pg_name (i := 5) nd rfl (by first | exact Or.inl rfl | exact Or.inr rfl)) pgs_nil))))) (gok_tup (gsok_cons (gok_name 3) (gsok_cons (gok_name 4) (gsok_cons (gok_name 5) gsok_nil))) rfl) (by decide) (fun _ _ _ _ _ => pts_one (by exact (t_cmp (op_eqDD hu64) (e_var 4 (pv 4)) (e_var 1 (pv 1)) (nomark _)))) (fun _ _ _ h => h) (fun _ _ _ _ _ => (e_tup (a_cons (e_var 3 (pv 3)) (a_cons (e_var 5 (pv 5)) a_nil))))) | exact (s_set (i := 2) nd rfl (by first | exact Or.inl rfl | exact Or.inr rfl) (e_comp finF_ok (own := [("p", 3), ("q", 4), ("length", 5)]) rfl nd (i_seq (e_var 0 (pv 0))) (blkOk_by (own := [("p", 3), ("q", 4), ("length", 5)]) (by kernel_rfl)) (fun _ _ _ _ _ => (pg_tup rfl (pgs_cons (pg_name (i := 3) nd rfl (by first | exact Or.inl rfl | exact Or.inr rfl)) (pgs_cons (pg_name (i := 4) nd rfl (by first | exact Or.inl rfl | exact Or.inr rfl)) (pgs_cons (pg_name (i := 5) nd rfl (by first | exact Or.inl rfl | exact Or.inr rfl)) pgs_nil))))) (gok_tup (gsok_cons (gok_name 3) (gsok_cons (gok_name 4) (gsok_cons (gok_name 5) gsok_nil))) rfl) (by decide) (fun _ _ _ _ _ => pts_one (by exact (t_cmp (op_eqDD hu64) (e_var 4 (pv 4)) (e_var 1 (pv 1)) (nomark _)))) (fun _ _ _ h => h) (fun _ _ _ _ _ => (e_tup (a_cons (e_var 3 (pv 3)) (a_cons (e_var 5 (pv 5)) a_nil)))))))
    (b_cons (by first | exact (s_setComp finF_ok (own := [("p", 3), ("q", 4), ("length", 5)]) (i := 6) rfl nd rfl rfl (sw_true rfl rfl rfl (by kernel_rfl)) (i_seq (e_var 0 (pv 0))) (blkOk_by (own := [("p", 3), ("q", 4), ("length", 5)]) (by kernel_rfl)) (fun _ _ _ _ _ => (pg_tup rfl (pgs_cons (pg_name (i := 3) nd rfl (by first | exact Or.inl rfl | exact Or.inr rfl)) (pgs_cons (pg_name (i := 4) nd rfl (by first | exact Or.inl rfl | exact Or.inr rfl)) (pgs_cons (pg_name (i := 5) nd rfl (by first | exact Or.inl rfl | exact Or.inr rfl)) pgs_nil))))) (gok_tup (gsok_cons (gok_name 3) (gsok_cons (gok_name 4) (gsok_cons (gok_name 5) gsok_nil))) rfl) (by decide) (fun _ _ _ _ _ => pts_one (by exact (t_cmp (op_eqDD hu64) (e_var 3 (pv 3)) (e_var 1 (pv 1)) (nomark _)))) (fun _ _ _ h => h) (fun _ _ _ _ _ => (e_tup (a_cons (e_var 4 (pv 4)) (a_cons (e_var 5 (pv 5)) a_nil))))) | exact (s_set (i := 6) nd rfl (by first | exact Or.inl rfl | exact Or.inr rfl) (e_comp finF_ok (own := [("p", 3), ("q", 4), ("length", 5)]) rfl nd (i_seq (e_var 0 (pv 0))) (blkOk_by (own := [("p", 3), ("q", 4), ("length", 5)]) (by kernel_rfl)) (fun _ _ _ _ _ => (pg_tup rfl (pgs_cons (pg_name (i := 3) nd rfl (by first | exact Or.inl rfl | exact Or.inr rfl)) (pgs_cons (pg_name (i := 4) nd rfl (by first | exact Or.inl rfl | exact Or.inr rfl)) (pgs_cons (pg_name (i := 5) nd rfl (by first | exact Or.inl rfl | exact Or.inr rfl)) pgs_nil))))) (gok_tup (gsok_cons (gok_name 3) (gsok_cons (gok_name 4) (gsok_cons (gok_name 5) gsok_nil))) rfl) (by decide) (fun _ _ _ _ _ => pts_one (by exact (t_cmp (op_eqDD hu64) (e_var 3 (pv 3)) (e_var 1 (pv 1)) (nomark _)))) (fun _ _ _ h => h) (fun _ _ _ _ _ => (e_tup (a_cons (e_var 4 (pv 4)) (a_cons (e_var 5 (pv 5)) a_nil)))))))
    (b_one (s_ret (e_ty c_tuple rfl Z.b_tuple PyProof.Rows.boot_tuple (a_cons (e_bin op_addD (e_var 2 (pv 2)) (e_var 6 (pv 6))) a_nil))))))) (fun ds M Q R h => h.2)
theorem sc_lengths_from : FnScope ["roads", "x", "found", "queue", "length", "p", "q", "further"] ["roads", "x"] (defScope s_lengths_from) := ⟨rfl, rfl, rfl, by decide +kernel, rfl, by decide +kernel, by decide +kernel⟩
theorem B_lengths_from (Z : Z mg G A) : Binds G.K A.d_lengths_from ["roads", "x"] [] := Z.F_lengths_from.binds fun _ _ _ _ _ _ us hl => match us, hl with | [_, _], _ => rfl
theorem ok_lengths_from (Z : Z mg G A) : Okd PP w G.K mg base 2 A.a_lengths_from A.d_lengths_from ["roads", "x"] (sp_lengths_from G) :=
  ok_def Z.F_lengths_from sc_lengths_from (T_lengths_from G) (fun ds M Q R h => h.1) (fun cdv A' outer s H E hr => by
    have nd := sc_lengths_from.nd
    obtain ⟨hu0, hu1, hu64, hu65⟩ := room_units hr
    have tk := takes_of (X := cxOf (L2.CX PP w) PP w G.K mg base ["roads", "x", "found", "queue", "length", "p", "q", "further"] "lengths_from" (defScope s_lengths_from) A.a_lengths_from cdv A' outer s H E) (E := E) rfl rfl rfl rfl
    have hp := passes_of (X := cxOf (L2.CX PP w) PP w G.K mg base ["roads", "x", "found", "queue", "length", "p", "q", "further"] "lengths_from" (defScope s_lengths_from) A.a_lengths_from cdv A' outer s H E) rfl
    exact (b_cons (s_set (i := 2) nd rfl (by first | exact Or.inl rfl | exact Or.inr rfl) e_dictK0)
    (b_cons (s_set (i := 3) nd rfl (by first | exact Or.inl rfl | exact Or.inr rfl) (e_lstM (a_cons (e_tup (a_cons e_int (a_cons (e_var 1 (pv 1)) a_nil))) a_nil)))
    (b_cons (s_while hp (t_cmp op_gtD (e_b c_len rfl Z.b_len PySem.boot_len (a_cons (e_var 3 (pv 3)) a_nil)) e_int (nomark _)) (b_cons (s_asg (e_bf (c_heappop hu1) rfl Z.m_heappop (a_cons (e_var 3 (pv 3)) a_nil)) (pg_tup rfl (pgs_cons (pg_name (i := 4) nd rfl (by first | exact Or.inl rfl | exact Or.inr rfl)) (pgs_cons (pg_name (i := 5) nd rfl (by first | exact Or.inl rfl | exact Or.inr rfl)) pgs_nil))) (gok_tup (gsok_cons (gok_name 4) (gsok_cons (gok_name 5) gsok_nil)) rfl))
    (b_one (s_if (t_cmp (op_inDD true hu65) (e_var 5 (pv 5)) (e_var 2 (pv 2)) rfl) (b_cons (s_store hu1 (e_var 4 (pv 4)) (e_var 2 (pv 2)) (e_var 5 (pv 5)))
    (b_one (s_for hp rfl (i_seq (e_call tk (ok_tied Z) (hr.mono (by decide)) rfl Z.m_tied Z.F_tied.kp (B_tied Z) (a_cons (e_var 0 (pv 0)) (a_cons (e_var 5 (pv 5)) a_nil)))) (pg_tup rfl (pgs_cons (pg_name (i := 6) nd rfl (by first | exact Or.inl rfl | exact Or.inr rfl)) (pgs_cons (pg_name (i := 7) nd rfl (by first | exact Or.inl rfl | exact Or.inr rfl)) pgs_nil))) (gok_tup (gsok_cons (gok_name 6) (gsok_cons (gok_name 7) gsok_nil)) rfl) (b_one (s_expr (e_bf (c_heappush hu1) rfl Z.m_heappush (a_cons (e_var 3 (pv 3)) (a_cons (e_tup (a_cons (e_bin op_addD (e_var 4 (pv 4)) (e_var 7 (pv 7))) (a_cons (e_var 6 (pv 6)) a_nil))) a_nil)))))))) b_nil))))
    (b_one (s_ret (e_var 2 (pv 2)))))))) (fun ds M Q R h => h.2)
theorem sc_check_together : FnScope ["many", "roads", "found", "x"] ["many", "roads"] (defScope s_check_together) := ⟨rfl, rfl, rfl, by decide +kernel, rfl, by decide +kernel, by decide +kernel⟩
theorem B_check_together (Z : Z mg G A) : Binds G.K A.d_check_together ["many", "roads"] [] := Z.F_check_together.binds fun _ _ _ _ _ _ us hl => match us, hl with | [_, _], _ => rfl
theorem ok_check_together (Z : Z mg G A) : Okd PP w G.K mg base 3 A.a_check_together A.d_check_together ["many", "roads"] (sp_check_together G) :=
  ok_def Z.F_check_together sc_check_together (T_check_together G) (fun ds M Q R h => h.1) (fun cdv A' outer s H E hr => by
    have nd := sc_check_together.nd
    obtain ⟨hu0, hu1, hu64, hu65⟩ := room_units hr
    have tk := takes_of (X := cxOf (L2.CX PP w) PP w G.K mg base ["many", "roads", "found", "x"] "check_together" (defScope s_check_together) A.a_check_together cdv A' outer s H E) (E := E) rfl rfl rfl rfl
    have hp := passes_of (X := cxOf (L2.CX PP w) PP w G.K mg base ["many", "roads", "found", "x"] "check_together" (defScope s_check_together) A.a_check_together cdv A' outer s H E) rfl
    exact (b_cons (s_set (i := 2) nd rfl (by first | exact Or.inl rfl | exact Or.inr rfl) (e_call tk (ok_lengths_from Z) (hr.mono (by decide)) rfl Z.m_lengths_from Z.F_lengths_from.kp (B_lengths_from Z) (a_cons (e_var 1 (pv 1)) (a_cons e_int a_nil))))
    (b_one (s_for hp rfl (i_range1 rfl Z.b_range (a_cons (e_var 0 (pv 0)) a_nil)) (pg_name (i := 3) nd rfl (by first | exact Or.inl rfl | exact Or.inr rfl)) (gok_name 3) (b_one (s_if (t_cmp (op_inDD true hu65) (e_var 3 (pv 3)) (e_var 2 (pv 2)) rfl) (b_one (s_raise rfl tk Z.r_Parted Z.tI (ok_refI' Z) (hr.mono (by decide)) (B_refI Z) rfl Z.m_Parted (e_var 3 (pv 3)))) b_nil)))))) (fun ds M Q R h => h.2)
theorem sc__check_lamps : FnScope ["n", "lamps", "i", "lamp"] ["n", "lamps"] (defScope s__check_lamps) := ⟨rfl, rfl, rfl, by decide +kernel, rfl, by decide +kernel, by decide +kernel⟩
theorem B__check_lamps (Z : Z mg G A) : Binds G.K A.d__check_lamps ["n", "lamps"] [] := Z.F__check_lamps.binds fun _ _ _ _ _ _ us hl => match us, hl with | [_, _], _ => rfl
theorem ok__check_lamps (Z : Z mg G A) : Okd PP w G.K mg base 3 A.a__check_lamps A.d__check_lamps ["n", "lamps"] (sp__check_lamps G) :=
  ok_def Z.F__check_lamps sc__check_lamps (T__check_lamps G) (fun ds M Q R h => h.1) (fun cdv A' outer s H E hr => by
    have nd := sc__check_lamps.nd
    obtain ⟨hu0, hu1, hu64, hu65⟩ := room_units hr
    have tk := takes_of (X := cxOf (L2.CX PP w) PP w G.K mg base ["n", "lamps", "i", "lamp"] "_check_lamps" (defScope s__check_lamps) A.a__check_lamps cdv A' outer s H E) (E := E) rfl rfl rfl rfl
    have hp := passes_of (X := cxOf (L2.CX PP w) PP w G.K mg base ["n", "lamps", "i", "lamp"] "_check_lamps" (defScope s__check_lamps) A.a__check_lamps cdv A' outer s H E) rfl
    exact (b_cons (s_if (t_cmp (op_neDD hu64) (e_b c_len rfl Z.b_len PySem.boot_len (a_cons (e_var 1 (pv 1)) a_nil)) (e_var 0 (pv 0)) (nomark _)) (b_one (s_raise rfl tk Z.r_BadLamp Z.tI (ok_refI' Z) (hr.mono (by decide)) (B_refI Z) rfl Z.m_BadLamp (e_b c_len rfl Z.b_len PySem.boot_len (a_cons (e_var 1 (pv 1)) a_nil)))) b_nil)
    (b_one (s_for hp rfl (i_enum rfl Z.b_enumerate (a_cons (e_var 1 (pv 1)) a_nil)) (pg_tup rfl (pgs_cons (pg_name (i := 2) nd rfl (by first | exact Or.inl rfl | exact Or.inr rfl)) (pgs_cons (pg_name (i := 3) nd rfl (by first | exact Or.inl rfl | exact Or.inr rfl)) pgs_nil))) (gok_tup (gsok_cons (gok_name 2) (gsok_cons (gok_name 3) gsok_nil)) rfl) (b_one (s_if (t_not (t_tru (e_b (c_isi Z.isCls) rfl Z.b_isinstance PyProof.Rows.boot_isinstance (a_cons (e_var 3 (pv 3)) (a_cons (e_globRef rfl Z.m_Web) a_nil))) (fun _ => rfl))) (b_one (s_raise rfl tk Z.r_BadLamp Z.tI (ok_refI' Z) (hr.mono (by decide)) (B_refI Z) rfl Z.m_BadLamp (e_tup (a_cons (e_var 2 (pv 2)) a_nil)))) b_nil)))))) (fun ds M Q R h => h.2)
theorem sc_Land_init : FnScope ["self", "many", "roads", "lamps"] ["self", "many", "roads", "lamps"] (defScope s_Land_init) := ⟨rfl, rfl, rfl, by decide +kernel, rfl, by decide +kernel, by decide +kernel⟩
theorem B_Land_init (Z : Z mg G A) : Binds G.K A.d_Land_init ["self", "many", "roads", "lamps"] [] := Z.F_Land_init.binds fun _ _ _ _ _ _ us hl => match us, hl with | [_, _, _, _], _ => rfl
theorem ok_Land_init (Z : Z mg G A) : Okd PP w G.K mg base 1 A.a_Land_init A.d_Land_init ["self", "many", "roads", "lamps"] (sp_Land_init G) :=
  ok_def Z.F_Land_init sc_Land_init (T_Land_init G) (fun ds M Q R h => h.1) (fun cdv A' outer s H E hr => by
    have nd := sc_Land_init.nd
    obtain ⟨hu0, hu1, hu64, hu65⟩ := room_units hr
    have tk := takes_of (X := cxOf (L2.CX PP w) PP w G.K mg base ["self", "many", "roads", "lamps"] "Land.__init__" (defScope s_Land_init) A.a_Land_init cdv A' outer s H E) (E := E) rfl rfl rfl rfl
    have hp := passes_of (X := cxOf (L2.CX PP w) PP w G.K mg base ["self", "many", "roads", "lamps"] "Land.__init__" (defScope s_Land_init) A.a_Land_init cdv A' outer s H E) rfl
    exact (b_cons (s_setF Z.n_many (e_var 0 (pv 0)) (e_var 1 (pv 1)))
    (b_cons (s_setF Z.n_roads (e_var 0 (pv 0)) (e_var 2 (pv 2)))
    (b_one (s_setF Z.n_lamps (e_var 0 (pv 0)) (e_var 3 (pv 3))))))) (fun ds M Q R h => h.2)
theorem sc_made_land : FnScope ["n", "roads", "lamps"] ["n", "roads", "lamps"] (defScope s_made_land) := ⟨rfl, rfl, rfl, by decide +kernel, rfl, by decide +kernel, by decide +kernel⟩
theorem B_made_land (Z : Z mg G A) : Binds G.K A.d_made_land ["n", "roads", "lamps"] [] := Z.F_made_land.binds fun _ _ _ _ _ _ us hl => match us, hl with | [_, _, _], _ => rfl
theorem ok_made_land (Z : Z mg G A) : Okd PP w G.K mg base 4 A.a_made_land A.d_made_land ["n", "roads", "lamps"] (sp_made_land G) :=
  ok_def Z.F_made_land sc_made_land (T_made_land G) (fun ds M Q R h => h.1) (fun cdv A' outer s H E hr => by
    have nd := sc_made_land.nd
    obtain ⟨hu0, hu1, hu64, hu65⟩ := room_units hr
    have tk := takes_of (X := cxOf (L2.CX PP w) PP w G.K mg base ["n", "roads", "lamps"] "made_land" (defScope s_made_land) A.a_made_land cdv A' outer s H E) (E := E) rfl rfl rfl rfl
    have hp := passes_of (X := cxOf (L2.CX PP w) PP w G.K mg base ["n", "roads", "lamps"] "made_land" (defScope s_made_land) A.a_made_land cdv A' outer s H E) rfl
    exact (b_cons (s_if (t_not (t_chain (op_leD hu0) (op_leD hu0) e_int (e_var 0 (pv 0)) (e_globInt rfl Z.m_MOST_PLACES.choose_spec))) (b_one (s_raise rfl tk Z.r_BadSize Z.tI (ok_refI' Z) (hr.mono (by decide)) (B_refI Z) rfl Z.m_BadSize (e_var 0 (pv 0)))) b_nil)
    (b_cons (s_expr (e_call tk (ok_check_roads Z) (hr.mono (by decide)) rfl Z.m_check_roads Z.F_check_roads.kp (B_check_roads Z) (a_cons (e_var 0 (pv 0)) (a_cons (e_var 1 (pv 1)) a_nil))))
    (b_cons (s_if (t_cmp op_gtD (e_b c_len rfl Z.b_len PySem.boot_len (a_cons (e_var 1 (pv 1)) a_nil)) (e_var 0 (pv 0)) (nomark _)) (b_one (s_raise rfl tk Z.r_BadSize Z.tI (ok_refI' Z) (hr.mono (by decide)) (B_refI Z) rfl Z.m_BadSize (e_b c_len rfl Z.b_len PySem.boot_len (a_cons (e_var 1 (pv 1)) a_nil)))) b_nil)
    (b_cons (s_expr (e_call tk (ok_check_together Z) (hr.mono (by decide)) rfl Z.m_check_together Z.F_check_together.kp (B_check_together Z) (a_cons (e_var 0 (pv 0)) (a_cons (e_var 1 (pv 1)) a_nil))))
    (b_cons (s_expr (e_call tk (ok__check_lamps Z) (hr.mono (by decide)) rfl Z.m__check_lamps Z.F__check_lamps.kp (B__check_lamps Z) (a_cons (e_var 0 (pv 0)) (a_cons (e_var 2 (pv 2)) a_nil))))
    (b_one (s_ret (e_make Z.mk_Land (ok_Land_init Z) (hr.mono (by decide)) rfl Z.m_Land (B_Land_init Z) (a_cons (e_var 0 (pv 0)) (a_cons (e_var 1 (pv 1)) (a_cons (e_var 2 (pv 2)) a_nil)))))))))))) (fun ds M Q R h => h.2)
theorem sc_check_size : FnScope ["m", "least"] ["m", "least"] (defScope s_check_size) := ⟨rfl, rfl, rfl, by decide +kernel, rfl, by decide +kernel, by decide +kernel⟩
theorem B_check_size (Z : Z mg G A) : Binds G.K A.d_check_size ["m", "least"] [] := Z.F_check_size.binds fun _ _ _ _ _ _ us hl => match us, hl with | [_, _], _ => rfl
theorem ok_check_size (Z : Z mg G A) : Okd PP w G.K mg base 3 A.a_check_size A.d_check_size ["m", "least"] (sp_check_size G) :=
  ok_def Z.F_check_size sc_check_size (T_check_size G) (fun ds M Q R h => h.1) (fun cdv A' outer s H E hr => by
    have nd := sc_check_size.nd
    obtain ⟨hu0, hu1, hu64, hu65⟩ := room_units hr
    have tk := takes_of (X := cxOf (L2.CX PP w) PP w G.K mg base ["m", "least"] "check_size" (defScope s_check_size) A.a_check_size cdv A' outer s H E) (E := E) rfl rfl rfl rfl
    have hp := passes_of (X := cxOf (L2.CX PP w) PP w G.K mg base ["m", "least"] "check_size" (defScope s_check_size) A.a_check_size cdv A' outer s H E) rfl
    exact (b_one (s_if (t_not (t_chain (op_leD hu0) (op_leD hu0) (e_var 1 (pv 1)) (e_var 0 (pv 0)) (e_globInt rfl Z.m_MOST_POSITIONS.choose_spec))) (b_one (s_raise rfl tk Z.r_BadSize Z.tI (ok_refI' Z) (hr.mono (by decide)) (B_refI Z) rfl Z.m_BadSize (e_var 0 (pv 0)))) b_nil))) (fun ds M Q R h => h.2)
theorem sc_Web_init : FnScope ["self", "many", "roads"] ["self", "many", "roads"] (defScope s_Web_init) := ⟨rfl, rfl, rfl, by decide +kernel, rfl, by decide +kernel, by decide +kernel⟩
theorem B_Web_init (Z : Z mg G A) : Binds G.K A.d_Web_init ["self", "many", "roads"] [] := Z.F_Web_init.binds fun _ _ _ _ _ _ us hl => match us, hl with | [_, _, _], _ => rfl
theorem ok_Web_init (Z : Z mg G A) : Okd PP w G.K mg base 1 A.a_Web_init A.d_Web_init ["self", "many", "roads"] (sp_Web_init G) :=
  ok_def Z.F_Web_init sc_Web_init (T_Web_init G) (fun ds M Q R h => h.1) (fun cdv A' outer s H E hr => by
    have nd := sc_Web_init.nd
    obtain ⟨hu0, hu1, hu64, hu65⟩ := room_units hr
    have tk := takes_of (X := cxOf (L2.CX PP w) PP w G.K mg base ["self", "many", "roads"] "Web.__init__" (defScope s_Web_init) A.a_Web_init cdv A' outer s H E) (E := E) rfl rfl rfl rfl
    have hp := passes_of (X := cxOf (L2.CX PP w) PP w G.K mg base ["self", "many", "roads"] "Web.__init__" (defScope s_Web_init) A.a_Web_init cdv A' outer s H E) rfl
    exact (b_cons (s_setF Z.n_many (e_var 0 (pv 0)) (e_var 1 (pv 1)))
    (b_one (s_setF Z.n_roads (e_var 0 (pv 0)) (e_var 2 (pv 2)))))) (fun ds M Q R h => h.2)
theorem sc_made_web : FnScope ["m", "roads"] ["m", "roads"] (defScope s_made_web) := ⟨rfl, rfl, rfl, by decide +kernel, rfl, by decide +kernel, by decide +kernel⟩
theorem B_made_web (Z : Z mg G A) : Binds G.K A.d_made_web ["m", "roads"] [] := Z.F_made_web.binds fun _ _ _ _ _ _ us hl => match us, hl with | [_, _], _ => rfl
theorem ok_made_web (Z : Z mg G A) : Okd PP w G.K mg base 4 A.a_made_web A.d_made_web ["m", "roads"] (sp_made_web G) :=
  ok_def Z.F_made_web sc_made_web (T_made_web G) (fun ds M Q R h => h.1) (fun cdv A' outer s H E hr => by
    have nd := sc_made_web.nd
    obtain ⟨hu0, hu1, hu64, hu65⟩ := room_units hr
    have tk := takes_of (X := cxOf (L2.CX PP w) PP w G.K mg base ["m", "roads"] "made_web" (defScope s_made_web) A.a_made_web cdv A' outer s H E) (E := E) rfl rfl rfl rfl
    have hp := passes_of (X := cxOf (L2.CX PP w) PP w G.K mg base ["m", "roads"] "made_web" (defScope s_made_web) A.a_made_web cdv A' outer s H E) rfl
    exact (b_cons (s_expr (e_call tk (ok_check_size Z) (hr.mono (by decide)) rfl Z.m_check_size Z.F_check_size.kp (B_check_size Z) (a_cons (e_var 0 (pv 0)) (a_cons e_int a_nil))))
    (b_cons (s_expr (e_call tk (ok_check_roads Z) (hr.mono (by decide)) rfl Z.m_check_roads Z.F_check_roads.kp (B_check_roads Z) (a_cons (e_var 0 (pv 0)) (a_cons (e_var 1 (pv 1)) a_nil))))
    (b_cons (s_expr (e_call tk (ok_check_together Z) (hr.mono (by decide)) rfl Z.m_check_together Z.F_check_together.kp (B_check_together Z) (a_cons (e_var 0 (pv 0)) (a_cons (e_var 1 (pv 1)) a_nil))))
    (b_one (s_ret (e_make Z.mk_Web (ok_Web_init Z) (hr.mono (by decide)) rfl Z.m_Web (B_Web_init Z) (a_cons (e_var 0 (pv 0)) (a_cons (e_var 1 (pv 1)) a_nil))))))))) (fun ds M Q R h => h.2)
theorem sc__law_made : FnScope ["land", "roads", "lamps", "many", "ties"] ["land"] (defScope s__law_made) := ⟨rfl, rfl, rfl, by decide +kernel, rfl, by decide +kernel, by decide +kernel⟩
theorem B__law_made (Z : Z mg G A) : Binds G.K A.d__law_made ["land"] [] := Z.F__law_made.binds fun _ _ _ _ _ _ us hl => match us, hl with | [_], _ => rfl
theorem ok__law_made (Z : Z mg G A) : Okd PP w G.K mg base 5 A.a__law_made A.d__law_made ["land"] (sp__law_made G) :=
  ok_def Z.F__law_made sc__law_made (T__law_made G) (fun ds M Q R h => h.1) (fun cdv A' outer s H E hr => by
    have nd := sc__law_made.nd
    obtain ⟨hu0, hu1, hu64, hu65⟩ := room_units hr
    have tk := takes_of (X := cxOf (L2.CX PP w) PP w G.K mg base ["land", "roads", "lamps", "many", "ties"] "_law_made" (defScope s__law_made) A.a__law_made cdv A' outer s H E) (E := E) rfl rfl rfl rfl
    have hp := passes_of (X := cxOf (L2.CX PP w) PP w G.K mg base ["land", "roads", "lamps", "many", "ties"] "_law_made" (defScope s__law_made) A.a__law_made cdv A' outer s H E) rfl
    exact (b_cons (s_asg (e_var 0 (pv 0)) (pg_tup rfl (pgs_cons (pg_name (i := 1) nd rfl (by first | exact Or.inl rfl | exact Or.inr rfl)) (pgs_cons (pg_name (i := 2) nd rfl (by first | exact Or.inl rfl | exact Or.inr rfl)) pgs_nil))) (gok_tup (gsok_cons (gok_name 1) (gsok_cons (gok_name 2) gsok_nil)) rfl))
    (b_one (s_ret (e_call tk (ok_made_land Z) (hr.mono (by decide)) rfl Z.m_made_land Z.F_made_land.kp (B_made_land Z) (a_cons (e_b c_len rfl Z.b_len PySem.boot_len (a_cons (e_var 2 (pv 2)) a_nil)) (a_cons (e_var 1 (pv 1)) (a_cons (e_ty c_tuple rfl Z.b_tuple PyProof.Rows.boot_tuple (a_cons (e_comp finF_ok (own := [("many", 3), ("ties", 4)]) rfl nd (i_seq (e_var 2 (pv 2))) (blkOk_by (own := [("many", 3), ("ties", 4)]) (by kernel_rfl)) (fun _ _ _ _ _ => (pg_tup rfl (pgs_cons (pg_name (i := 3) nd rfl (by first | exact Or.inl rfl | exact Or.inr rfl)) (pgs_cons (pg_name (i := 4) nd rfl (by first | exact Or.inl rfl | exact Or.inr rfl)) pgs_nil)))) (gok_tup (gsok_cons (gok_name 3) (gsok_cons (gok_name 4) gsok_nil)) rfl) (by decide) (fun _ _ _ _ _ => pts_nil) dYes_ok (fun _ _ _ _ _ => (e_call takes0 (ok_made_web Z) (hr.mono (by decide)) rfl Z.m_made_web Z.F_made_web.kp (B_made_web Z) (a_cons (e_var 3 (pv 3)) (a_cons (e_var 4 (pv 4)) a_nil))))) a_nil)) a_nil)))))))) (fun ds M Q R h => h.2)
theorem sc_is_tree : FnScope ["land"] ["land"] (defScope s_is_tree) := ⟨rfl, rfl, rfl, by decide +kernel, rfl, by decide +kernel, by decide +kernel⟩
theorem B_is_tree (Z : Z mg G A) : Binds G.K A.d_is_tree ["land"] [] := Z.F_is_tree.binds fun _ _ _ _ _ _ us hl => match us, hl with | [_], _ => rfl
theorem ok_is_tree (Z : Z mg G A) : Okd PP w G.K mg base 1 A.a_is_tree A.d_is_tree ["land"] (sp_is_tree G) :=
  ok_def Z.F_is_tree sc_is_tree (T_is_tree G) (fun ds M Q R h => h.1) (fun cdv A' outer s H E hr => by
    have nd := sc_is_tree.nd
    obtain ⟨hu0, hu1, hu64, hu65⟩ := room_units hr
    have tk := takes_of (X := cxOf (L2.CX PP w) PP w G.K mg base ["land"] "is_tree" (defScope s_is_tree) A.a_is_tree cdv A' outer s H E) (E := E) rfl rfl rfl rfl
    have hp := passes_of (X := cxOf (L2.CX PP w) PP w G.K mg base ["land"] "is_tree" (defScope s_is_tree) A.a_is_tree cdv A' outer s H E) rfl
    exact (b_one (s_ret (e_cmp (op_eqDD hu64) (e_b c_len rfl Z.b_len PySem.boot_len (a_cons (e_fld Z.n_roads (e_var 0 (pv 0))) a_nil)) (e_bin op_subD (e_fld Z.n_many (e_var 0 (pv 0))) e_int) (nomark _))))) (fun ds M Q R h => h.2)
theorem sc_check_tree : FnScope ["land"] ["land"] (defScope s_check_tree) := ⟨rfl, rfl, rfl, by decide +kernel, rfl, by decide +kernel, by decide +kernel⟩
theorem B_check_tree (Z : Z mg G A) : Binds G.K A.d_check_tree ["land"] [] := Z.F_check_tree.binds fun _ _ _ _ _ _ us hl => match us, hl with | [_], _ => rfl
theorem ok_check_tree (Z : Z mg G A) : Okd PP w G.K mg base 3 A.a_check_tree A.d_check_tree ["land"] (sp_check_tree G) :=
  ok_def Z.F_check_tree sc_check_tree (T_check_tree G) (fun ds M Q R h => h.1) (fun cdv A' outer s H E hr => by
    have nd := sc_check_tree.nd
    obtain ⟨hu0, hu1, hu64, hu65⟩ := room_units hr
    have tk := takes_of (X := cxOf (L2.CX PP w) PP w G.K mg base ["land"] "check_tree" (defScope s_check_tree) A.a_check_tree cdv A' outer s H E) (E := E) rfl rfl rfl rfl
    have hp := passes_of (X := cxOf (L2.CX PP w) PP w G.K mg base ["land"] "check_tree" (defScope s_check_tree) A.a_check_tree cdv A' outer s H E) rfl
    exact (b_one (s_if (t_not (t_tru (e_call tk (ok_is_tree Z) (hr.mono (by decide)) rfl Z.m_is_tree Z.F_is_tree.kp (B_is_tree Z) (a_cons (e_var 0 (pv 0)) a_nil)) (fun _ => rfl))) (b_one (s_raise rfl tk Z.r_NotTree Z.tI (ok_refI' Z) (hr.mono (by decide)) (B_refI Z) rfl Z.m_NotTree e_int)) b_nil))) (fun ds M Q R h => h.2)
theorem sc_check_place : FnScope ["many", "x"] ["many", "x"] (defScope s_check_place) := ⟨rfl, rfl, rfl, by decide +kernel, rfl, by decide +kernel, by decide +kernel⟩
theorem B_check_place (Z : Z mg G A) : Binds G.K A.d_check_place ["many", "x"] [] := Z.F_check_place.binds fun _ _ _ _ _ _ us hl => match us, hl with | [_, _], _ => rfl
theorem ok_check_place (Z : Z mg G A) : Okd PP w G.K mg base 3 A.a_check_place A.d_check_place ["many", "x"] (sp_check_place G) :=
  ok_def Z.F_check_place sc_check_place (T_check_place G) (fun ds M Q R h => h.1) (fun cdv A' outer s H E hr => by
    have nd := sc_check_place.nd
    obtain ⟨hu0, hu1, hu64, hu65⟩ := room_units hr
    have tk := takes_of (X := cxOf (L2.CX PP w) PP w G.K mg base ["many", "x"] "check_place" (defScope s_check_place) A.a_check_place cdv A' outer s H E) (E := E) rfl rfl rfl rfl
    have hp := passes_of (X := cxOf (L2.CX PP w) PP w G.K mg base ["many", "x"] "check_place" (defScope s_check_place) A.a_check_place cdv A' outer s H E) rfl
    exact (b_one (s_if (t_not (t_chain (op_leD hu0) (op_ltD hu0) e_int (e_var 1 (pv 1)) (e_var 0 (pv 0)))) (b_one (s_raise rfl tk Z.r_BadPlace Z.tI (ok_refI' Z) (hr.mono (by decide)) (B_refI Z) rfl Z.m_BadPlace (e_var 1 (pv 1)))) b_nil))) (fun ds M Q R h => h.2)
theorem sc_check_row : FnScope ["land", "row", "i", "q"] ["land", "row"] (defScope s_check_row) := ⟨rfl, rfl, rfl, by decide +kernel, rfl, by decide +kernel, by decide +kernel⟩
theorem B_check_row (Z : Z mg G A) : Binds G.K A.d_check_row ["land", "row"] [] := Z.F_check_row.binds fun _ _ _ _ _ _ us hl => match us, hl with | [_, _], _ => rfl
theorem ok_check_row (Z : Z mg G A) : Okd PP w G.K mg base 3 A.a_check_row A.d_check_row ["land", "row"] (sp_check_row G) :=
  ok_def Z.F_check_row sc_check_row (T_check_row G) (fun ds M Q R h => h.1) (fun cdv A' outer s H E hr => by
    have nd := sc_check_row.nd
    obtain ⟨hu0, hu1, hu64, hu65⟩ := room_units hr
    have tk := takes_of (X := cxOf (L2.CX PP w) PP w G.K mg base ["land", "row", "i", "q"] "check_row" (defScope s_check_row) A.a_check_row cdv A' outer s H E) (E := E) rfl rfl rfl rfl
    have hp := passes_of (X := cxOf (L2.CX PP w) PP w G.K mg base ["land", "row", "i", "q"] "check_row" (defScope s_check_row) A.a_check_row cdv A' outer s H E) rfl
    exact (b_cons (s_if (t_cmp (op_neDD hu64) (e_b c_len rfl Z.b_len PySem.boot_len (a_cons (e_var 1 (pv 1)) a_nil)) (e_fld Z.n_many (e_var 0 (pv 0))) (nomark _)) (b_one (s_raise rfl tk Z.r_BadState Z.tI (ok_refI' Z) (hr.mono (by decide)) (B_refI Z) rfl Z.m_BadState (e_b c_len rfl Z.b_len PySem.boot_len (a_cons (e_var 1 (pv 1)) a_nil)))) b_nil)
    (b_one (s_for hp rfl (i_enum rfl Z.b_enumerate (a_cons (e_var 1 (pv 1)) a_nil)) (pg_tup rfl (pgs_cons (pg_name (i := 2) nd rfl (by first | exact Or.inl rfl | exact Or.inr rfl)) (pgs_cons (pg_name (i := 3) nd rfl (by first | exact Or.inl rfl | exact Or.inr rfl)) pgs_nil))) (gok_tup (gsok_cons (gok_name 2) (gsok_cons (gok_name 3) gsok_nil)) rfl) (b_one (s_if (t_not (t_chain (op_leD hu0) (op_ltD hu0) e_int (e_var 3 (pv 3)) (e_fld Z.n_many (e_ix hu1 (e_fld Z.n_lamps (e_var 0 (pv 0))) (e_var 2 (pv 2)) (fun _ _ => rfl))))) (b_one (s_raise rfl tk Z.r_BadState Z.tI (ok_refI' Z) (hr.mono (by decide)) (B_refI Z) rfl Z.m_BadState (e_tup (a_cons (e_var 2 (pv 2)) a_nil)))) b_nil)))))) (fun ds M Q R h => h.2)
theorem sc_check_state : FnScope ["land", "state", "place", "row"] ["land", "state"] (defScope s_check_state) := ⟨rfl, rfl, rfl, by decide +kernel, rfl, by decide +kernel, by decide +kernel⟩
theorem B_check_state (Z : Z mg G A) : Binds G.K A.d_check_state ["land", "state"] [] := Z.F_check_state.binds fun _ _ _ _ _ _ us hl => match us, hl with | [_, _], _ => rfl
theorem ok_check_state (Z : Z mg G A) : Okd PP w G.K mg base 4 A.a_check_state A.d_check_state ["land", "state"] (sp_check_state G) :=
  ok_def Z.F_check_state sc_check_state (T_check_state G) (fun ds M Q R h => h.1) (fun cdv A' outer s H E hr => by
    have nd := sc_check_state.nd
    obtain ⟨hu0, hu1, hu64, hu65⟩ := room_units hr
    have tk := takes_of (X := cxOf (L2.CX PP w) PP w G.K mg base ["land", "state", "place", "row"] "check_state" (defScope s_check_state) A.a_check_state cdv A' outer s H E) (E := E) rfl rfl rfl rfl
    have hp := passes_of (X := cxOf (L2.CX PP w) PP w G.K mg base ["land", "state", "place", "row"] "check_state" (defScope s_check_state) A.a_check_state cdv A' outer s H E) rfl
    exact (b_cons (s_asg (e_var 1 (pv 1)) (pg_tup rfl (pgs_cons (pg_name (i := 2) nd rfl (by first | exact Or.inl rfl | exact Or.inr rfl)) (pgs_cons (pg_name (i := 3) nd rfl (by first | exact Or.inl rfl | exact Or.inr rfl)) pgs_nil))) (gok_tup (gsok_cons (gok_name 2) (gsok_cons (gok_name 3) gsok_nil)) rfl))
    (b_cons (s_expr (e_call tk (ok_check_place Z) (hr.mono (by decide)) rfl Z.m_check_place Z.F_check_place.kp (B_check_place Z) (a_cons (e_fld Z.n_many (e_var 0 (pv 0))) (a_cons (e_var 2 (pv 2)) a_nil))))
    (b_one (s_expr (e_call tk (ok_check_row Z) (hr.mono (by decide)) rfl Z.m_check_row Z.F_check_row.kp (B_check_row Z) (a_cons (e_var 0 (pv 0)) (a_cons (e_var 3 (pv 3)) a_nil)))))))) (fun ds M Q R h => h.2)
theorem sc_check_road : FnScope ["land", "road"] ["land", "road"] (defScope s_check_road) := ⟨rfl, rfl, rfl, by decide +kernel, rfl, by decide +kernel, by decide +kernel⟩
theorem B_check_road (Z : Z mg G A) : Binds G.K A.d_check_road ["land", "road"] [] := Z.F_check_road.binds fun _ _ _ _ _ _ us hl => match us, hl with | [_, _], _ => rfl
theorem ok_check_road (Z : Z mg G A) : Okd PP w G.K mg base 3 A.a_check_road A.d_check_road ["land", "road"] (sp_check_road G) :=
  ok_def Z.F_check_road sc_check_road (T_check_road G) (fun ds M Q R h => h.1) (fun cdv A' outer s H E hr => by
    have nd := sc_check_road.nd
    obtain ⟨hu0, hu1, hu64, hu65⟩ := room_units hr
    have tk := takes_of (X := cxOf (L2.CX PP w) PP w G.K mg base ["land", "road"] "check_road" (defScope s_check_road) A.a_check_road cdv A' outer s H E) (E := E) rfl rfl rfl rfl
    have hp := passes_of (X := cxOf (L2.CX PP w) PP w G.K mg base ["land", "road"] "check_road" (defScope s_check_road) A.a_check_road cdv A' outer s H E) rfl
    exact (b_one (s_if (t_not (t_chain (op_leD hu0) (op_ltD hu0) e_int (e_var 1 (pv 1)) (e_b c_len rfl Z.b_len PySem.boot_len (a_cons (e_fld Z.n_roads (e_var 0 (pv 0))) a_nil)))) (b_one (s_raise rfl tk Z.r_BadRoad Z.tI (ok_refI' Z) (hr.mono (by decide)) (B_refI Z) rfl Z.m_BadRoad (e_var 1 (pv 1)))) b_nil))) (fun ds M Q R h => h.2)
theorem sc_share : FnScope ["n", "d", "common"] ["n", "d"] (defScope s_share) := ⟨rfl, rfl, rfl, by decide +kernel, rfl, by decide +kernel, by decide +kernel⟩
theorem B_share (Z : Z mg G A) : Binds G.K A.d_share ["n", "d"] [] := Z.F_share.binds fun _ _ _ _ _ _ us hl => match us, hl with | [_, _], _ => rfl
theorem ok_share (Z : Z mg G A) : Okd PP w G.K mg base 3 A.a_share A.d_share ["n", "d"] (sp_share G) :=
  ok_def Z.F_share sc_share (T_share G) (fun ds M Q R h => h.1) (fun cdv A' outer s H E hr => by
    have nd := sc_share.nd
    obtain ⟨hu0, hu1, hu64, hu65⟩ := room_units hr
    have tk := takes_of (X := cxOf (L2.CX PP w) PP w G.K mg base ["n", "d", "common"] "share" (defScope s_share) A.a_share cdv A' outer s H E) (E := E) rfl rfl rfl rfl
    have hp := passes_of (X := cxOf (L2.CX PP w) PP w G.K mg base ["n", "d", "common"] "share" (defScope s_share) A.a_share cdv A' outer s H E) rfl
    exact (b_cons (s_if (t_cmp (op_eqDD hu64) (e_var 1 (pv 1)) e_int (nomark _)) (b_one (s_raise rfl tk Z.r_BadCount Z.tI (ok_refI' Z) (hr.mono (by decide)) (B_refI Z) rfl Z.m_BadCount (e_var 1 (pv 1)))) b_nil)
    (b_cons (s_set (i := 2) nd rfl (by first | exact Or.inl rfl | exact Or.inr rfl) (e_bf c_gcd rfl Z.m_gcd (a_cons (e_var 0 (pv 0)) (a_cons (e_var 1 (pv 1)) a_nil))))
    (b_cons (s_if (t_cmp (op_ltD hu0) (e_var 1 (pv 1)) e_int (nomark _)) (b_one (s_set (i := 2) nd rfl (by first | exact Or.inl rfl | exact Or.inr rfl) (e_neg (e_var 2 (pv 2))))) b_nil)
    (b_one (s_ret (e_tup (a_cons (e_bin op_fdivD (e_var 0 (pv 0)) (e_var 2 (pv 2))) (a_cons (e_bin op_fdivD (e_var 1 (pv 1)) (e_var 2 (pv 2))) a_nil))))))))) (fun ds M Q R h => h.2)
theorem sc__shares : FnScope ["counts", "times", "many"] ["counts"] (defScope s__shares) := ⟨rfl, rfl, rfl, by decide +kernel, rfl, by decide +kernel, by decide +kernel⟩
theorem B__shares (Z : Z mg G A) : Binds G.K A.d__shares ["counts"] [] := Z.F__shares.binds fun _ _ _ _ _ _ us hl => match us, hl with | [_], _ => rfl
theorem ok__shares (Z : Z mg G A) : Okd PP w G.K mg base 4 A.a__shares A.d__shares ["counts"] (sp__shares G) :=
  ok_def Z.F__shares sc__shares (T__shares G) (fun ds M Q R h => h.1) (fun cdv A' outer s H E hr => by
    have nd := sc__shares.nd
    obtain ⟨hu0, hu1, hu64, hu65⟩ := room_units hr
    have tk := takes_of (X := cxOf (L2.CX PP w) PP w G.K mg base ["counts", "times", "many"] "_shares" (defScope s__shares) A.a__shares cdv A' outer s H E) (E := E) rfl rfl rfl rfl
    have hp := passes_of (X := cxOf (L2.CX PP w) PP w G.K mg base ["counts", "times", "many"] "_shares" (defScope s__shares) A.a__shares cdv A' outer s H E) rfl
    exact (b_one (s_ret (e_ty c_tuple rfl Z.b_tuple PyProof.Rows.boot_tuple (a_cons (e_comp finF_ok (own := [("times", 1), ("many", 2)]) rfl nd (i_enum rfl Z.b_enumerate (a_cons (e_var 0 (pv 0)) a_nil)) (blkOk_by (own := [("times", 1), ("many", 2)]) (by kernel_rfl)) (fun _ _ _ _ _ => (pg_tup rfl (pgs_cons (pg_name (i := 1) nd rfl (by first | exact Or.inl rfl | exact Or.inr rfl)) (pgs_cons (pg_name (i := 2) nd rfl (by first | exact Or.inl rfl | exact Or.inr rfl)) pgs_nil)))) (gok_tup (gsok_cons (gok_name 1) (gsok_cons (gok_name 2) gsok_nil)) rfl) (by decide) (fun _ _ _ _ _ => pts_one (by exact (t_cmp (op_neDD hu64) (e_var 2 (pv 2)) e_int (nomark _)))) (fun _ _ _ h => h) (fun _ _ _ _ _ => (e_tup (a_cons (e_var 1 (pv 1)) (a_cons (e_call takes0 (ok_share Z) (hr.mono (by decide)) rfl Z.m_share Z.F_share.kp (B_share Z) (a_cons (e_var 2 (pv 2)) (a_cons (e_b (c_sumQ rfl) rfl Z.b_sum PyProof.Rows.boot_sum (a_cons (e_var 0 (pv 0)) a_nil)) a_nil))) a_nil))))) a_nil))))) (fun ds M Q R h => h.2)
theorem sc_parted : FnScope ["land", "road", "x", "near", "y"] ["land", "road", "x"] (defScope s_parted) := ⟨rfl, rfl, rfl, by decide +kernel, rfl, by decide +kernel, by decide +kernel⟩
theorem B_parted (Z : Z mg G A) : Binds G.K A.d_parted ["land", "road", "x"] [] := Z.F_parted.binds fun _ _ _ _ _ _ us hl => match us, hl with | [_, _, _], _ => rfl
theorem ok_parted (Z : Z mg G A) : Okd PP w G.K mg base 3 A.a_parted A.d_parted ["land", "road", "x"] (sp_parted G) :=
  ok_def Z.F_parted sc_parted (T_parted G) (fun ds M Q R h => h.1) (fun cdv A' outer s H E hr => by
    have nd := sc_parted.nd
    obtain ⟨hu0, hu1, hu64, hu65⟩ := room_units hr
    have tk := takes_of (X := cxOf (L2.CX PP w) PP w G.K mg base ["land", "road", "x", "near", "y"] "parted" (defScope s_parted) A.a_parted cdv A' outer s H E) (E := E) rfl rfl rfl rfl
    have hp := passes_of (X := cxOf (L2.CX PP w) PP w G.K mg base ["land", "road", "x", "near", "y"] "parted" (defScope s_parted) A.a_parted cdv A' outer s H E) rfl
    exact (b_cons (s_set (i := 3) nd rfl (by first | exact Or.inl rfl | exact Or.inr rfl) (e_call tk (ok_lengths_from Z) (hr.mono (by decide)) rfl Z.m_lengths_from Z.F_lengths_from.kp (B_lengths_from Z) (a_cons (e_bin op_addD (e_slice (e_fld Z.n_roads (e_var 0 (pv 0))) o_none (o_some (e_var 1 (pv 1)))) (e_slice (e_fld Z.n_roads (e_var 0 (pv 0))) (o_some (e_bin op_addD (e_var 1 (pv 1)) e_int)) o_none)) (a_cons (e_var 2 (pv 2)) a_nil))))
    (b_one (s_ret (e_ty c_tuple rfl Z.b_tuple PyProof.Rows.boot_tuple (a_cons (e_comp finF_ok (own := [("y", 4)]) rfl nd (i_range1 rfl Z.b_range (a_cons (e_fld Z.n_many (e_var 0 (pv 0))) a_nil)) (blkOk_by (own := [("y", 4)]) (by kernel_rfl)) (fun _ _ _ _ _ => (pg_name (i := 4) nd rfl (by first | exact Or.inl rfl | exact Or.inr rfl))) (gok_name 4) (by decide) (fun _ _ _ _ _ => pts_one (by exact (t_cmp (op_inDD true hu65) (e_var 4 (pv 4)) (e_var 3 (pv 3)) rfl))) (fun _ _ _ h => h) (fun _ _ _ _ _ => (e_var 4 (pv 4)))) a_nil)))))) (fun ds M Q R h => h.2)
theorem sc_rows_many : FnScope ["land", "places", "many", "x"] ["land", "places"] (defScope s_rows_many) := ⟨rfl, rfl, rfl, by decide +kernel, rfl, by decide +kernel, by decide +kernel⟩
theorem B_rows_many (Z : Z mg G A) : Binds G.K A.d_rows_many ["land", "places"] [] := Z.F_rows_many.binds fun _ _ _ _ _ _ us hl => match us, hl with | [_, _], _ => rfl
theorem ok_rows_many (Z : Z mg G A) : Okd PP w G.K mg base 1 A.a_rows_many A.d_rows_many ["land", "places"] (sp_rows_many G) :=
  ok_def Z.F_rows_many sc_rows_many (T_rows_many G) (fun ds M Q R h => h.1) (fun cdv A' outer s H E hr => by
    have nd := sc_rows_many.nd
    obtain ⟨hu0, hu1, hu64, hu65⟩ := room_units hr
    have tk := takes_of (X := cxOf (L2.CX PP w) PP w G.K mg base ["land", "places", "many", "x"] "rows_many" (defScope s_rows_many) A.a_rows_many cdv A' outer s H E) (E := E) rfl rfl rfl rfl
    have hp := passes_of (X := cxOf (L2.CX PP w) PP w G.K mg base ["land", "places", "many", "x"] "rows_many" (defScope s_rows_many) A.a_rows_many cdv A' outer s H E) rfl
    exact (b_cons (s_set (i := 2) nd rfl (by first | exact Or.inl rfl | exact Or.inr rfl) e_int)
    (b_cons (s_for hp rfl (i_seq (e_var 1 (pv 1))) (pg_name (i := 3) nd rfl (by first | exact Or.inl rfl | exact Or.inr rfl)) (gok_name 3) (b_one (s_set (i := 2) nd rfl (by first | exact Or.inl rfl | exact Or.inr rfl) (e_bin op_mulD (e_var 2 (pv 2)) (e_fld Z.n_many (e_ix hu1 (e_fld Z.n_lamps (e_var 0 (pv 0))) (e_var 3 (pv 3)) (fun _ _ => rfl)))))))
    (b_one (s_ret (e_var 2 (pv 2))))))) (fun ds M Q R h => h.2)
theorem sc_states_many : FnScope ["land"] ["land"] (defScope s_states_many) := ⟨rfl, rfl, rfl, by decide +kernel, rfl, by decide +kernel, by decide +kernel⟩
theorem B_states_many (Z : Z mg G A) : Binds G.K A.d_states_many ["land"] [] := Z.F_states_many.binds fun _ _ _ _ _ _ us hl => match us, hl with | [_], _ => rfl
theorem ok_states_many (Z : Z mg G A) : Okd PP w G.K mg base 2 A.a_states_many A.d_states_many ["land"] (sp_states_many G) :=
  ok_def Z.F_states_many sc_states_many (T_states_many G) (fun ds M Q R h => h.1) (fun cdv A' outer s H E hr => by
    have nd := sc_states_many.nd
    obtain ⟨hu0, hu1, hu64, hu65⟩ := room_units hr
    have tk := takes_of (X := cxOf (L2.CX PP w) PP w G.K mg base ["land"] "states_many" (defScope s_states_many) A.a_states_many cdv A' outer s H E) (E := E) rfl rfl rfl rfl
    have hp := passes_of (X := cxOf (L2.CX PP w) PP w G.K mg base ["land"] "states_many" (defScope s_states_many) A.a_states_many cdv A' outer s H E) rfl
    exact (b_one (s_ret (e_bin op_mulD (e_fld Z.n_many (e_var 0 (pv 0))) (e_call tk (ok_rows_many Z) (hr.mono (by decide)) rfl Z.m_rows_many Z.F_rows_many.kp (B_rows_many Z) (a_cons (e_var 0 (pv 0)) (a_cons (e_tupRg1 rfl rfl Z.b_tuple rfl Z.b_range (e_fld Z.n_many (e_var 0 (pv 0)))) a_nil))))))) (fun ds M Q R h => h.2)
theorem sc_crossing_counts : FnScope ["land", "x", "road", "far", "whole", "none", "once"] ["land", "x", "road"] (defScope s_crossing_counts) := ⟨rfl, rfl, rfl, by decide +kernel, rfl, by decide +kernel, by decide +kernel⟩
theorem B_crossing_counts (Z : Z mg G A) : Binds G.K A.d_crossing_counts ["land", "x", "road"] [] := Z.F_crossing_counts.binds fun _ _ _ _ _ _ us hl => match us, hl with | [_, _, _], _ => rfl
theorem ok_crossing_counts (Z : Z mg G A) : Okd PP w G.K mg base 4 A.a_crossing_counts A.d_crossing_counts ["land", "x", "road"] (sp_crossing_counts G) :=
  ok_def Z.F_crossing_counts sc_crossing_counts (T_crossing_counts G) (fun ds M Q R h => h.1) (fun cdv A' outer s H E hr => by
    have nd := sc_crossing_counts.nd
    obtain ⟨hu0, hu1, hu64, hu65⟩ := room_units hr
    have tk := takes_of (X := cxOf (L2.CX PP w) PP w G.K mg base ["land", "x", "road", "far", "whole", "none", "once"] "crossing_counts" (defScope s_crossing_counts) A.a_crossing_counts cdv A' outer s H E) (E := E) rfl rfl rfl rfl
    have hp := passes_of (X := cxOf (L2.CX PP w) PP w G.K mg base ["land", "x", "road", "far", "whole", "none", "once"] "crossing_counts" (defScope s_crossing_counts) A.a_crossing_counts cdv A' outer s H E) rfl
    exact (b_cons (s_set (i := 3) nd rfl (by first | exact Or.inl rfl | exact Or.inr rfl) (e_call tk (ok_parted Z) (hr.mono (by decide)) rfl Z.m_parted Z.F_parted.kp (B_parted Z) (a_cons (e_var 0 (pv 0)) (a_cons (e_var 2 (pv 2)) (a_cons (e_var 1 (pv 1)) a_nil)))))
    (b_cons (s_set (i := 4) nd rfl (by first | exact Or.inl rfl | exact Or.inr rfl) (e_call tk (ok_states_many Z) (hr.mono (by decide)) rfl Z.m_states_many Z.F_states_many.kp (B_states_many Z) (a_cons (e_var 0 (pv 0)) a_nil)))
    (b_cons (s_set (i := 5) nd rfl (by first | exact Or.inl rfl | exact Or.inr rfl) (e_bin op_mulD (e_bin op_subD (e_fld Z.n_many (e_var 0 (pv 0))) (e_b c_len rfl Z.b_len PySem.boot_len (a_cons (e_var 3 (pv 3)) a_nil))) (e_bin op_fdivD (e_bin op_fdivD (e_var 4 (pv 4)) (e_fld Z.n_many (e_var 0 (pv 0)))) (e_call tk (ok_rows_many Z) (hr.mono (by decide)) rfl Z.m_rows_many Z.F_rows_many.kp (B_rows_many Z) (a_cons (e_var 0 (pv 0)) (a_cons (e_var 3 (pv 3)) a_nil))))))
    (b_cons (s_set (i := 6) nd rfl (by first | exact Or.inl rfl | exact Or.inr rfl) (e_bin op_mulD (e_b c_len rfl Z.b_len PySem.boot_len (a_cons (e_var 3 (pv 3)) a_nil)) (e_bin op_fdivD (e_var 4 (pv 4)) (e_fld Z.n_many (e_var 0 (pv 0))))))
    (b_one (s_ret (e_tup (a_cons (e_var 5 (pv 5)) (a_cons (e_var 6 (pv 6)) (a_cons (e_bin op_subD (e_bin op_subD (e_var 4 (pv 4)) (e_var 5 (pv 5))) (e_var 6 (pv 6))) a_nil))))))))))) (fun ds M Q R h => h.2)
theorem sc_road_shares : FnScope ["land", "a", "road"] ["land", "a", "road"] (defScope s_road_shares) := ⟨rfl, rfl, rfl, by decide +kernel, rfl, by decide +kernel, by decide +kernel⟩
theorem B_road_shares (Z : Z mg G A) : Binds G.K A.d_road_shares ["land", "a", "road"] [] := Z.F_road_shares.binds fun _ _ _ _ _ _ us hl => match us, hl with | [_, _, _], _ => rfl
theorem ok_road_shares (Z : Z mg G A) : Okd PP w G.K mg base 5 A.a_road_shares A.d_road_shares ["land", "a", "road"] (sp_road_shares G) :=
  ok_def Z.F_road_shares sc_road_shares (T_road_shares G) (fun ds M Q R h => h.1) (fun cdv A' outer s H E hr => by
    have nd := sc_road_shares.nd
    obtain ⟨hu0, hu1, hu64, hu65⟩ := room_units hr
    have tk := takes_of (X := cxOf (L2.CX PP w) PP w G.K mg base ["land", "a", "road"] "road_shares" (defScope s_road_shares) A.a_road_shares cdv A' outer s H E) (E := E) rfl rfl rfl rfl
    have hp := passes_of (X := cxOf (L2.CX PP w) PP w G.K mg base ["land", "a", "road"] "road_shares" (defScope s_road_shares) A.a_road_shares cdv A' outer s H E) rfl
    exact (b_cons (s_expr (e_call tk (ok_check_tree Z) (hr.mono (by decide)) rfl Z.m_check_tree Z.F_check_tree.kp (B_check_tree Z) (a_cons (e_var 0 (pv 0)) a_nil)))
    (b_cons (s_expr (e_call tk (ok_check_state Z) (hr.mono (by decide)) rfl Z.m_check_state Z.F_check_state.kp (B_check_state Z) (a_cons (e_var 0 (pv 0)) (a_cons (e_var 1 (pv 1)) a_nil))))
    (b_cons (s_expr (e_call tk (ok_check_road Z) (hr.mono (by decide)) rfl Z.m_check_road Z.F_check_road.kp (B_check_road Z) (a_cons (e_var 0 (pv 0)) (a_cons (e_var 2 (pv 2)) a_nil))))
    (b_one (s_ret (e_call tk (ok__shares Z) (hr.mono (by decide)) rfl Z.m__shares Z.F__shares.kp (B__shares Z) (a_cons (e_call tk (ok_crossing_counts Z) (hr.mono (by decide)) rfl Z.m_crossing_counts Z.F_crossing_counts.kp (B_crossing_counts Z) (a_cons (e_var 0 (pv 0)) (a_cons (e_ix hu1 (e_var 1 (pv 1)) e_int (fun _ _ => rfl)) (a_cons (e_var 2 (pv 2)) a_nil)))) a_nil)))))))) (fun ds M Q R h => h.2)
theorem sc__law_told : FnScope ["whole", "a", "road", "e", "kinds"] ["whole", "a", "road"] (defScope s__law_told) := ⟨rfl, rfl, rfl, by decide +kernel, rfl, by decide +kernel, by decide +kernel⟩
theorem B__law_told (Z : Z mg G A) : Binds G.K A.d__law_told ["whole", "a", "road"] [] := Z.F__law_told.binds fun _ _ _ _ _ _ us hl => match us, hl with | [_, _, _], _ => rfl
theorem ok__law_told (Z : Z mg G A) : Okd PP w G.K mg base 6 A.a__law_told A.d__law_told ["whole", "a", "road"] (sp__law_told G) :=
  ok_def Z.F__law_told sc__law_told (T__law_told G) (fun ds M Q R h => h.1) (fun cdv A' outer s H E hr => by
    have nd := sc__law_told.nd
    obtain ⟨hu0, hu1, hu64, hu65⟩ := room_units hr
    have tk := takes_of (X := cxOf (L2.CX PP w) PP w G.K mg base ["whole", "a", "road", "e", "kinds"] "_law_told" (defScope s__law_told) A.a__law_told cdv A' outer s H E) (E := E) rfl rfl rfl rfl
    have hp := passes_of (X := cxOf (L2.CX PP w) PP w G.K mg base ["whole", "a", "road", "e", "kinds"] "_law_told" (defScope s__law_told) A.a__law_told cdv A' outer s H E) rfl
    exact (b_one (s_try rfl rfl tk (fun W' pn xe tk' hp' => (b_one (s_ret (e_kw0 tk' (ok_road_shares Z) (hr.mono (by decide)) rfl Z.m_road_shares Z.F_road_shares.kp (Z.F_road_shares.kw (ks := ["road", "a", "land"]) (n := 0) (ix := [2, 1, 0]) fun _ _ _ _ _ _ us ws h1 h2 => match us, ws, h1, h2 with | [], [_, _, _], _, _ => rfl) rfl (k_cons (e_var 2 (pv 2)) (k_cons (e_var 1 (pv 1)) (k_cons (e_var 0 (pv 0)) k_nil))))))) (HsOk.consAs nd rfl rfl ⟨rfl, by decide, .inl Z.m_Refused⟩ (fun a oe C dx pn hz hf => (b_cons (s_set (i := 4) nd rfl (by first | exact Or.inl rfl | exact Or.inr rfl) (e_lst (a_cons (e_b (c_isE Z.isErr hz hf) rfl Z.b_isinstance PyProof.Rows.boot_isinstance (a_cons (e_var 3 (pv 3)) (a_cons (e_globRef rfl Z.m_BadPlace) a_nil))) (a_cons (e_b (c_isE Z.isErr hz hf) rfl Z.b_isinstance PyProof.Rows.boot_isinstance (a_cons (e_var 3 (pv 3)) (a_cons (e_globRef rfl Z.m_BadRoad) a_nil))) a_nil))))
    (b_one (s_ret (e_tup (a_cons (e_if (t_cmp (op_eqDD hu64) (e_bm ty_list PySem.F.plainAttrs_list PySem.F.slot_list_count PySem.F.type_list_count (m_count hu65) (e_var 4 (pv 4)) (a_cons e_bl a_nil)) e_int (nomark _)) (e_ix hu1 (e_lst (a_cons e_str (a_cons e_str a_nil))) (e_bm ty_list PySem.F.plainAttrs_list PySem.F.slot_list_index PySem.F.type_list_index (m_index hu65) (e_var 4 (pv 4)) (a_cons e_bl a_nil)) (fun _ _ => rfl)) e_str) (a_cons (e_what Z.isExc hz hf (e_var 3 (pv 3))) a_nil))))))) HsOk.nil)))) (fun ds M Q R h => h.2)
theorem sc__law_tied : FnScope ["roads", "x", "p", "q", "far"] ["roads", "x"] (defScope s__law_tied) := ⟨rfl, rfl, rfl, by decide +kernel, rfl, by decide +kernel, by decide +kernel⟩
theorem B__law_tied (Z : Z mg G A) : Binds G.K A.d__law_tied ["roads", "x"] [] := Z.F__law_tied.binds fun _ _ _ _ _ _ us hl => match us, hl with | [_, _], _ => rfl
theorem ok__law_tied (Z : Z mg G A) : Okd PP w G.K mg base 1 A.a__law_tied A.d__law_tied ["roads", "x"] (sp__law_tied G) :=
  ok_def Z.F__law_tied sc__law_tied (T__law_tied G) (fun ds M Q R h => h.1) (fun cdv A' outer s H E hr => by
    have nd := sc__law_tied.nd
    obtain ⟨hu0, hu1, hu64, hu65⟩ := room_units hr
    have tk := takes_of (X := cxOf (L2.CX PP w) PP w G.K mg base ["roads", "x", "p", "q", "far"] "_law_tied" (defScope s__law_tied) A.a__law_tied cdv A' outer s H E) (E := E) rfl rfl rfl rfl
    have hp := passes_of (X := cxOf (L2.CX PP w) PP w G.K mg base ["roads", "x", "p", "q", "far"] "_law_tied" (defScope s__law_tied) A.a__law_tied cdv A' outer s H E) rfl
    exact (b_one (s_ret (e_b (c_sortedT finF_ok (by decide)) rfl Z.b_sorted PyProof.Rows.boot_sorted (a_cons (e_bin op_addD (e_comp finF_ok (own := [("p", 2), ("q", 3), ("far", 4)]) rfl nd (i_seq (e_var 0 (pv 0))) (blkOk_by (own := [("p", 2), ("q", 3), ("far", 4)]) (by kernel_rfl)) (fun _ _ _ _ _ => (pg_tup rfl (pgs_cons (pg_name (i := 2) nd rfl (by first | exact Or.inl rfl | exact Or.inr rfl)) (pgs_cons (pg_name (i := 3) nd rfl (by first | exact Or.inl rfl | exact Or.inr rfl)) (pgs_cons (pg_name (i := 4) nd rfl (by first | exact Or.inl rfl | exact Or.inr rfl)) pgs_nil))))) (gok_tup (gsok_cons (gok_name 2) (gsok_cons (gok_name 3) (gsok_cons (gok_name 4) gsok_nil))) rfl) (by decide) (fun _ _ _ _ _ => pts_one (by exact (t_cmp (op_eqDD hu64) (e_var 2 (pv 2)) (e_var 1 (pv 1)) (nomark _)))) (fun _ _ _ h => h) (fun _ _ _ _ _ => (e_tup (a_cons (e_var 3 (pv 3)) (a_cons (e_var 4 (pv 4)) a_nil))))) (e_comp finF_ok (own := [("p", 2), ("q", 3), ("far", 4)]) rfl nd (i_seq (e_var 0 (pv 0))) (blkOk_by (own := [("p", 2), ("q", 3), ("far", 4)]) (by kernel_rfl)) (fun _ _ _ _ _ => (pg_tup rfl (pgs_cons (pg_name (i := 2) nd rfl (by first | exact Or.inl rfl | exact Or.inr rfl)) (pgs_cons (pg_name (i := 3) nd rfl (by first | exact Or.inl rfl | exact Or.inr rfl)) (pgs_cons (pg_name (i := 4) nd rfl (by first | exact Or.inl rfl | exact Or.inr rfl)) pgs_nil))))) (gok_tup (gsok_cons (gok_name 2) (gsok_cons (gok_name 3) (gsok_cons (gok_name 4) gsok_nil))) rfl) (by decide) (fun _ _ _ _ _ => pts_one (by exact (t_cmp (op_eqDD hu64) (e_var 3 (pv 3)) (e_var 1 (pv 1)) (nomark _)))) (fun _ _ _ h => h) (fun _ _ _ _ _ => (e_tup (a_cons (e_var 2 (pv 2)) (a_cons (e_var 4 (pv 4)) a_nil)))))) a_nil))))) (fun ds M Q R h => h.2)
theorem sc__law_side : FnScope ["roads", "road", "x", "found", "waiting", "y", "far"] ["roads", "road", "x"] (defScope s__law_side) := ⟨rfl, rfl, rfl, by decide +kernel, rfl, by decide +kernel, by decide +kernel⟩
theorem B__law_side (Z : Z mg G A) : Binds G.K A.d__law_side ["roads", "road", "x"] [] := Z.F__law_side.binds fun _ _ _ _ _ _ us hl => match us, hl with | [_, _, _], _ => rfl
theorem ok__law_side (Z : Z mg G A) : Okd PP w G.K mg base 2 A.a__law_side A.d__law_side ["roads", "road", "x"] (sp__law_side G) :=
  ok_def Z.F__law_side sc__law_side (T__law_side G) (fun ds M Q R h => h.1) (fun cdv A' outer s H E hr => by
    have nd := sc__law_side.nd
    obtain ⟨hu0, hu1, hu64, hu65⟩ := room_units hr
    have tk := takes_of (X := cxOf (L2.CX PP w) PP w G.K mg base ["roads", "road", "x", "found", "waiting", "y", "far"] "_law_side" (defScope s__law_side) A.a__law_side cdv A' outer s H E) (E := E) rfl rfl rfl rfl
    have hp := passes_of (X := cxOf (L2.CX PP w) PP w G.K mg base ["roads", "road", "x", "found", "waiting", "y", "far"] "_law_side" (defScope s__law_side) A.a__law_side cdv A' outer s H E) rfl
    exact (b_cons (s_par (i := 3) (j := 4) rfl nd rfl rfl (by decide) rfl rfl (a_cons (e_lstM (a_cons (e_var 2 (pv 2)) a_nil)) (a_cons (e_lstM (a_cons (e_var 2 (pv 2)) a_nil)) a_nil)) (by rfl))
    (b_cons (s_while hp (t_cmp (op_neDD hu64) (e_var 4 (pv 4)) (e_lst a_nil) (nomark _)) (b_one (s_for hp rfl (i_seq (e_call tk (ok__law_tied Z) (hr.mono (by decide)) rfl Z.m__law_tied Z.F__law_tied.kp (B__law_tied Z) (a_cons (e_bin op_addD (e_slice (e_var 0 (pv 0)) o_none (o_some (e_var 1 (pv 1)))) (e_slice (e_var 0 (pv 0)) (o_some (e_bin op_addD (e_var 1 (pv 1)) e_int)) o_none)) (a_cons (e_bm0 ty_list PySem.F.plainAttrs_list PySem.F.slot_list_pop PySem.F.type_list_pop m_pop (e_var 4 (pv 4))) a_nil)))) (pg_tup rfl (pgs_cons (pg_name (i := 5) nd rfl (by first | exact Or.inl rfl | exact Or.inr rfl)) (pgs_cons (pg_name (i := 6) nd rfl (by first | exact Or.inl rfl | exact Or.inr rfl)) pgs_nil))) (gok_tup (gsok_cons (gok_name 5) (gsok_cons (gok_name 6) gsok_nil)) rfl) (b_one (s_if (t_cmp (op_inDD true hu65) (e_var 5 (pv 5)) (e_var 3 (pv 3)) rfl) (b_cons (s_expr (e_bm ty_list PySem.F.plainAttrs_list PySem.F.slot_list_append PySem.F.type_list_append m_append (e_var 3 (pv 3)) (a_cons (e_var 5 (pv 5)) a_nil)))
    (b_one (s_expr (e_bm ty_list PySem.F.plainAttrs_list PySem.F.slot_list_append PySem.F.type_list_append m_append (e_var 4 (pv 4)) (a_cons (e_var 5 (pv 5)) a_nil))))) b_nil)))))
    (b_one (s_ret (e_var 3 (pv 3))))))) (fun ds M Q R h => h.2)
theorem sc__law_states : FnScope ["land", "rows", "many", "roads", "longer", "row", "p", "found", "place"] ["land"] (defScope s__law_states) := ⟨rfl, rfl, rfl, by decide +kernel, rfl, by decide +kernel, by decide +kernel⟩
theorem B__law_states (Z : Z mg G A) : Binds G.K A.d__law_states ["land"] [] := Z.F__law_states.binds fun _ _ _ _ _ _ us hl => match us, hl with | [_], _ => rfl
theorem ok__law_states (Z : Z mg G A) : Okd PP w G.K mg base 1 A.a__law_states A.d__law_states ["land"] (sp__law_states G) :=
  ok_def Z.F__law_states sc__law_states (T__law_states G) (fun ds M Q R h => h.1) (fun cdv A' outer s H E hr => by
    have nd := sc__law_states.nd
    obtain ⟨hu0, hu1, hu64, hu65⟩ := room_units hr
    have tk := takes_of (X := cxOf (L2.CX PP w) PP w G.K mg base ["land", "rows", "many", "roads", "longer", "row", "p", "found", "place"] "_law_states" (defScope s__law_states) A.a__law_states cdv A' outer s H E) (E := E) rfl rfl rfl rfl
    have hp := passes_of (X := cxOf (L2.CX PP w) PP w G.K mg base ["land", "rows", "many", "roads", "longer", "row", "p", "found", "place"] "_law_states" (defScope s__law_states) A.a__law_states cdv A' outer s H E) rfl
    exact (b_cons (s_set (i := 1) nd rfl (by first | exact Or.inl rfl | exact Or.inr rfl) (e_lst (a_cons (e_tup a_nil) a_nil)))
    (b_cons (s_for hp rfl (i_seq (e_ix hu1 (e_var 0 (pv 0)) e_int (fun _ _ => rfl))) (pg_tup rfl (pgs_cons (pg_name (i := 2) nd rfl (by first | exact Or.inl rfl | exact Or.inr rfl)) (pgs_cons (pg_name (i := 3) nd rfl (by first | exact Or.inl rfl | exact Or.inr rfl)) pgs_nil))) (gok_tup (gsok_cons (gok_name 2) (gsok_cons (gok_name 3) gsok_nil)) rfl) (b_cons (s_set (i := 4) nd rfl (by first | exact Or.inl rfl | exact Or.inr rfl) (e_lstM a_nil))
    (b_cons (s_for hp rfl (i_seq (e_var 1 (pv 1))) (pg_name (i := 5) nd rfl (by first | exact Or.inl rfl | exact Or.inr rfl)) (gok_name 5) (b_one (s_expr (e_bm ty_list PySem.F.plainAttrs_list PySem.F.slot_list_extend PySem.F.type_list_extend m_extend (e_var 4 (pv 4)) (a_cons (e_comp finF_ok (own := [("p", 6)]) rfl nd (i_range1 rfl Z.b_range (a_cons (e_var 2 (pv 2)) a_nil)) (blkOk_by (own := [("p", 6)]) (by kernel_rfl)) (fun _ _ _ _ _ => (pg_name (i := 6) nd rfl (by first | exact Or.inl rfl | exact Or.inr rfl))) (gok_name 6) (by decide) (fun _ _ _ _ _ => pts_nil) dYes_ok (fun _ _ _ _ _ => (e_bin op_addD (e_var 5 (pv 5)) (e_tup (a_cons (e_var 6 (pv 6)) a_nil))))) a_nil)))))
    (b_one (s_set (i := 1) nd rfl (by first | exact Or.inl rfl | exact Or.inr rfl) (e_var 4 (pv 4)))))))
    (b_cons (s_set (i := 7) nd rfl (by first | exact Or.inl rfl | exact Or.inr rfl) (e_lstM a_nil))
    (b_cons (s_for hp rfl (i_range1 rfl Z.b_range (a_cons (e_b c_len rfl Z.b_len PySem.boot_len (a_cons (e_ix hu1 (e_var 0 (pv 0)) e_int (fun _ _ => rfl)) a_nil)) a_nil)) (pg_name (i := 8) nd rfl (by first | exact Or.inl rfl | exact Or.inr rfl)) (gok_name 8) (b_one (s_expr (e_bm ty_list PySem.F.plainAttrs_list PySem.F.slot_list_extend PySem.F.type_list_extend m_extend (e_var 7 (pv 7)) (a_cons (e_comp finF_ok (own := [("row", 5)]) rfl nd (i_seq (e_var 1 (pv 1))) (blkOk_by (own := [("row", 5)]) (by kernel_rfl)) (fun _ _ _ _ _ => (pg_name (i := 5) nd rfl (by first | exact Or.inl rfl | exact Or.inr rfl))) (gok_name 5) (by decide) (fun _ _ _ _ _ => pts_nil) dYes_ok (fun _ _ _ _ _ => (e_tup (a_cons (e_var 8 (pv 8)) (a_cons (e_var 5 (pv 5)) a_nil))))) a_nil)))))
    (b_one (s_ret (e_var 7 (pv 7))))))))) (fun ds M Q R h => h.2)
theorem sc__law_share : FnScope ["n", "d", "one", "two"] ["n", "d"] (defScope s__law_share) := ⟨rfl, rfl, rfl, by decide +kernel, rfl, by decide +kernel, by decide +kernel⟩
theorem B__law_share (Z : Z mg G A) : Binds G.K A.d__law_share ["n", "d"] [] := Z.F__law_share.binds fun _ _ _ _ _ _ us hl => match us, hl with | [_, _], _ => rfl
theorem ok__law_share (Z : Z mg G A) : Okd PP w G.K mg base 1 A.a__law_share A.d__law_share ["n", "d"] (sp__law_share G) :=
  ok_def Z.F__law_share sc__law_share (T__law_share G) (fun ds M Q R h => h.1) (fun cdv A' outer s H E hr => by
    have nd := sc__law_share.nd
    obtain ⟨hu0, hu1, hu64, hu65⟩ := room_units hr
    have tk := takes_of (X := cxOf (L2.CX PP w) PP w G.K mg base ["n", "d", "one", "two"] "_law_share" (defScope s__law_share) A.a__law_share cdv A' outer s H E) (E := E) rfl rfl rfl rfl
    have hp := passes_of (X := cxOf (L2.CX PP w) PP w G.K mg base ["n", "d", "one", "two"] "_law_share" (defScope s__law_share) A.a__law_share cdv A' outer s H E) rfl
    exact (b_cons (s_par (i := 2) (j := 3) rfl nd rfl rfl (by decide) rfl rfl (a_cons (e_var 1 (pv 1)) (a_cons (e_var 0 (pv 0)) a_nil)) (by rfl))
    (b_cons (s_while hp (t_cmp op_gtD (e_var 3 (pv 3)) e_int (nomark _)) (b_one (s_par (i := 2) (j := 3) rfl nd rfl rfl (by decide) rfl rfl (a_cons (e_var 3 (pv 3)) (a_cons (e_bin op_modD (e_var 2 (pv 2)) (e_var 3 (pv 3))) a_nil)) (by rfl))))
    (b_one (s_ret (e_tup (a_cons (e_bin op_fdivD (e_var 0 (pv 0)) (e_var 2 (pv 2))) (a_cons (e_bin op_fdivD (e_var 1 (pv 1)) (e_var 2 (pv 2))) a_nil)))))))) (fun ds M Q R h => h.2)
theorem sc__law_due : FnScope ["land", "a", "road", "side", "counts", "b", "unlike", "x", "times"] ["land", "a", "road"] (defScope s__law_due) := ⟨rfl, rfl, rfl, by decide +kernel, rfl, by decide +kernel, by decide +kernel⟩
theorem B__law_due (Z : Z mg G A) : Binds G.K A.d__law_due ["land", "a", "road"] [] := Z.F__law_due.binds fun _ _ _ _ _ _ us hl => match us, hl with | [_, _, _], _ => rfl
theorem ok__law_due (Z : Z mg G A) : Okd PP w G.K mg base 3 A.a__law_due A.d__law_due ["land", "a", "road"] (sp__law_due G) :=
  ok_def Z.F__law_due sc__law_due (T__law_due G) (fun ds M Q R h => h.1) (fun cdv A' outer s H E hr => by
    have nd := sc__law_due.nd
    obtain ⟨hu0, hu1, hu64, hu65⟩ := room_units hr
    have tk := takes_of (X := cxOf (L2.CX PP w) PP w G.K mg base ["land", "a", "road", "side", "counts", "b", "unlike", "x", "times"] "_law_due" (defScope s__law_due) A.a__law_due cdv A' outer s H E) (E := E) rfl rfl rfl rfl
    have hp := passes_of (X := cxOf (L2.CX PP w) PP w G.K mg base ["land", "a", "road", "side", "counts", "b", "unlike", "x", "times"] "_law_due" (defScope s__law_due) A.a__law_due cdv A' outer s H E) rfl
    exact (b_cons (s_asg (e_tup (a_cons (e_call tk (ok__law_side Z) (hr.mono (by decide)) rfl Z.m__law_side Z.F__law_side.kp (B__law_side Z) (a_cons (e_ix hu1 (e_var 0 (pv 0)) e_int (fun _ _ => rfl)) (a_cons (e_var 2 (pv 2)) (a_cons (e_ix hu1 (e_var 1 (pv 1)) e_int (fun _ _ => rfl)) a_nil)))) (a_cons (e_lstM (a_cons e_int (a_cons e_int (a_cons e_int a_nil)))) a_nil))) (pg_tup rfl (pgs_cons (pg_name (i := 3) nd rfl (by first | exact Or.inl rfl | exact Or.inr rfl)) (pgs_cons (pg_name (i := 4) nd rfl (by first | exact Or.inl rfl | exact Or.inr rfl)) pgs_nil))) (gok_tup (gsok_cons (gok_name 3) (gsok_cons (gok_name 4) gsok_nil)) rfl))
    (b_cons (s_for hp rfl (i_seq (e_call tk (ok__law_states Z) (hr.mono (by decide)) rfl Z.m__law_states Z.F__law_states.kp (B__law_states Z) (a_cons (e_var 0 (pv 0)) a_nil))) (pg_name (i := 5) nd rfl (by first | exact Or.inl rfl | exact Or.inr rfl)) (gok_name 5) (b_one (s_if (t_cmp (op_inDD true hu65) (e_ix hu1 (e_var 5 (pv 5)) e_int (fun _ _ => rfl)) (e_var 3 (pv 3)) rfl) (b_one (s_store hu1 (e_bin op_addD (e_ix hu1 (e_var 4 (pv 4)) e_int (fun _ _ => rfl)) e_int) (e_var 4 (pv 4)) e_int)) (b_cons (by first | exact (s_setComp finF_ok (own := [("x", 7)]) (i := 6) rfl nd rfl rfl (sw_true rfl rfl rfl (by kernel_rfl)) (i_range1 rfl Z.b_range (a_cons (e_b c_len rfl Z.b_len PySem.boot_len (a_cons (e_ix hu1 (e_var 0 (pv 0)) e_int (fun _ _ => rfl)) a_nil)) a_nil)) (blkOk_by (own := [("x", 7)]) (by kernel_rfl)) (fun _ _ _ _ _ => (pg_name (i := 7) nd rfl (by first | exact Or.inl rfl | exact Or.inr rfl))) (gok_name 7) (by decide) (fun _ _ _ _ _ => pts_one (by exact (t_w (w_and (t_cmp (op_inDD true hu65) (e_var 7 (pv 7)) (e_var 3 (pv 3)) rfl) (w_and1 (t_cmp (op_neDD hu64) (e_ix hu1 (e_ix hu1 (e_var 1 (pv 1)) e_int (fun _ _ => rfl)) (e_var 7 (pv 7)) (fun _ _ => rfl)) (e_ix hu1 (e_ix hu1 (e_var 5 (pv 5)) e_int (fun _ _ => rfl)) (e_var 7 (pv 7)) (fun _ _ => rfl)) (nomark _))))))) (fun _ _ _ h => h) (fun _ _ _ _ _ => (e_var 7 (pv 7)))) | exact (s_set (i := 6) nd rfl (by first | exact Or.inl rfl | exact Or.inr rfl) (e_comp finF_ok (own := [("x", 7)]) rfl nd (i_range1 rfl Z.b_range (a_cons (e_b c_len rfl Z.b_len PySem.boot_len (a_cons (e_ix hu1 (e_var 0 (pv 0)) e_int (fun _ _ => rfl)) a_nil)) a_nil)) (blkOk_by (own := [("x", 7)]) (by kernel_rfl)) (fun _ _ _ _ _ => (pg_name (i := 7) nd rfl (by first | exact Or.inl rfl | exact Or.inr rfl))) (gok_name 7) (by decide) (fun _ _ _ _ _ => pts_one (by exact (t_w (w_and (t_cmp (op_inDD true hu65) (e_var 7 (pv 7)) (e_var 3 (pv 3)) rfl) (w_and1 (t_cmp (op_neDD hu64) (e_ix hu1 (e_ix hu1 (e_var 1 (pv 1)) e_int (fun _ _ => rfl)) (e_var 7 (pv 7)) (fun _ _ => rfl)) (e_ix hu1 (e_ix hu1 (e_var 5 (pv 5)) e_int (fun _ _ => rfl)) (e_var 7 (pv 7)) (fun _ _ => rfl)) (nomark _))))))) (fun _ _ _ h => h) (fun _ _ _ _ _ => (e_var 7 (pv 7))))))
    (b_one (s_store hu1 (e_bin op_addD (e_ix hu1 (e_var 4 (pv 4)) (e_if (t_cmp (op_neDD hu64) (e_var 6 (pv 6)) (e_lst a_nil) (nomark _)) e_int e_int) (fun _ _ => rfl)) e_int) (e_var 4 (pv 4)) (e_if (t_cmp (op_neDD hu64) (e_var 6 (pv 6)) (e_lst a_nil) (nomark _)) e_int e_int)))))))
    (b_one (s_ret (e_ty c_tuple rfl Z.b_tuple PyProof.Rows.boot_tuple (a_cons (e_comp finF_ok (own := [("times", 8)]) rfl nd (i_range1 rfl Z.b_range (a_cons e_int a_nil)) (blkOk_by (own := [("times", 8)]) (by kernel_rfl)) (fun _ _ _ _ _ => (pg_name (i := 8) nd rfl (by first | exact Or.inl rfl | exact Or.inr rfl))) (gok_name 8) (by decide) (fun _ _ _ _ _ => pts_one (by exact (t_cmp op_gtD (e_ix hu1 (e_var 4 (pv 4)) (e_var 8 (pv 8)) (fun _ _ => rfl)) e_int (nomark _)))) (fun _ _ _ h => h) (fun _ _ _ _ _ => (e_tup (a_cons (e_var 8 (pv 8)) (a_cons (e_call takes0 (ok__law_share Z) (hr.mono (by decide)) rfl Z.m__law_share Z.F__law_share.kp (B__law_share Z) (a_cons (e_ix hu1 (e_var 4 (pv 4)) (e_var 8 (pv 8)) (fun _ _ => rfl)) (a_cons (e_b (c_sumQ rfl) rfl Z.b_sum PyProof.Rows.boot_sum (a_cons (e_var 4 (pv 4)) a_nil)) a_nil))) a_nil))))) a_nil))))))) (fun ds M Q R h => h.2)
theorem sc__law_right : FnScope ["source", "land", "whole", "a", "road", "n"] ["source"] (defScope s__law_right) := ⟨rfl, rfl, rfl, by decide +kernel, rfl, by decide +kernel, by decide +kernel⟩
theorem B__law_right (Z : Z mg G A) : Binds G.K A.d__law_right ["source"] [] := Z.F__law_right.binds fun _ _ _ _ _ _ us hl => match us, hl with | [_], _ => rfl
theorem ok__law_right (Z : Z mg G A) : Okd PP w G.K mg base 7 A.a__law_right A.d__law_right ["source"] (sp__law_right G) :=
  ok_def Z.F__law_right sc__law_right (T__law_right G) (fun ds M Q R h => h.1) (fun cdv A' outer s H E hr => by
    have nd := sc__law_right.nd
    obtain ⟨hu0, hu1, hu64, hu65⟩ := room_units hr
    have tk := takes_of (X := cxOf (L2.CX PP w) PP w G.K mg base ["source", "land", "whole", "a", "road", "n"] "_law_right" (defScope s__law_right) A.a__law_right cdv A' outer s H E) (E := E) rfl rfl rfl rfl
    have hp := passes_of (X := cxOf (L2.CX PP w) PP w G.K mg base ["source", "land", "whole", "a", "road", "n"] "_law_right" (defScope s__law_right) A.a__law_right cdv A' outer s H E) rfl
    exact (b_cons (s_set (i := 1) nd rfl (by first | exact Or.inl rfl | exact Or.inr rfl) (e_call tk (ok__law_small Z) (hr.mono (by decide)) rfl Z.m__law_small Z.F__law_small.kp (B__law_small Z) (a_cons (e_var 0 (pv 0)) (a_cons e_int a_nil))))
    (b_cons (s_par (i := 2) (j := 3) rfl nd rfl rfl (by decide) rfl rfl (a_cons (e_call tk (ok__law_made Z) (hr.mono (by decide)) rfl Z.m__law_made Z.F__law_made.kp (B__law_made Z) (a_cons (e_var 1 (pv 1)) a_nil)) (a_cons (e_call tk (ok__law_state Z) (hr.mono (by decide)) rfl Z.m__law_state Z.F__law_state.kp (B__law_state Z) (a_cons (e_var 0 (pv 0)) (a_cons (e_ix hu1 (e_var 1 (pv 1)) e_int (fun _ _ => rfl)) a_nil))) a_nil)) (by rfl))
    (b_cons (s_for hp rfl (i_range1 rfl Z.b_range (a_cons (e_b c_len rfl Z.b_len PySem.boot_len (a_cons (e_ix hu1 (e_var 1 (pv 1)) e_int (fun _ _ => rfl)) a_nil)) a_nil)) (pg_name (i := 4) nd rfl (by first | exact Or.inl rfl | exact Or.inr rfl)) (gok_name 4) (b_one (s_if (t_cmp (op_neDD hu64) (e_call tk (ok__law_told Z) (hr.mono (by decide)) rfl Z.m__law_told Z.F__law_told.kp (B__law_told Z) (a_cons (e_var 2 (pv 2)) (a_cons (e_var 3 (pv 3)) (a_cons (e_var 4 (pv 4)) a_nil)))) (e_call tk (ok__law_due Z) (hr.mono (by decide)) rfl Z.m__law_due Z.F__law_due.kp (B__law_due Z) (a_cons (e_var 1 (pv 1)) (a_cons (e_var 3 (pv 3)) (a_cons (e_var 4 (pv 4)) a_nil)))) (nomark _)) (b_one (s_ret e_bl)) b_nil)))
    (b_cons (s_set (i := 5) nd rfl (by first | exact Or.inl rfl | exact Or.inr rfl) (e_b c_len rfl Z.b_len PySem.boot_len (a_cons (e_ix hu1 (e_var 1 (pv 1)) e_int (fun _ _ => rfl)) a_nil)))
    (b_cons (s_for hp rfl (i_seq (e_lst (a_cons (e_neg e_int) (a_cons (e_b c_len rfl Z.b_len PySem.boot_len (a_cons (e_ix hu1 (e_var 1 (pv 1)) e_int (fun _ _ => rfl)) a_nil)) (a_cons (e_bin op_addD (e_b c_len rfl Z.b_len PySem.boot_len (a_cons (e_ix hu1 (e_var 1 (pv 1)) e_int (fun _ _ => rfl)) a_nil)) (e_call tk (ok__law_take Z) (hr.mono (by decide)) rfl Z.m__law_take Z.F__law_take.kp (B__law_take Z) (a_cons (e_var 0 (pv 0)) (a_cons (e_bin op_powD e_int e_int) a_nil)))) a_nil))))) (pg_name (i := 4) nd rfl (by first | exact Or.inl rfl | exact Or.inr rfl)) (gok_name 4) (b_one (s_if (t_w (w_or (t_cmp (op_neDD hu64) (e_call tk (ok__law_told Z) (hr.mono (by decide)) rfl Z.m__law_told Z.F__law_told.kp (B__law_told Z) (a_cons (e_var 2 (pv 2)) (a_cons (e_var 3 (pv 3)) (a_cons (e_var 4 (pv 4)) a_nil)))) (e_tup (a_cons e_str (a_cons (e_var 4 (pv 4)) a_nil))) (nomark _)) (w_or1 (t_cmp (op_neDD hu64) (e_call tk (ok__law_told Z) (hr.mono (by decide)) rfl Z.m__law_told Z.F__law_told.kp (B__law_told Z) (a_cons (e_var 2 (pv 2)) (a_cons (e_tup (a_cons (e_var 5 (pv 5)) (a_cons (e_ix hu1 (e_var 3 (pv 3)) e_int (fun _ _ => rfl)) a_nil))) (a_cons (e_var 4 (pv 4)) a_nil)))) (e_tup (a_cons e_str (a_cons (e_var 5 (pv 5)) a_nil))) (nomark _))))) (b_one (s_ret e_bl)) b_nil)))
    (b_one (s_ret e_bl)))))))) (fun ds M Q R h => h.2)
theorem sc__law_pool : FnScope ["script", "k", "cell", "big", "mixed"] ["script", "k"] (defScope s__law_pool) := ⟨rfl, rfl, rfl, by decide +kernel, rfl, by decide +kernel, by decide +kernel⟩
theorem B__law_pool (Z : Z mg G A) : Binds G.K A.d__law_pool ["script", "k"] [] := Z.F__law_pool.binds fun _ _ _ _ _ _ us hl => match us, hl with | [_, _], _ => rfl
theorem ok__law_pool (Z : Z mg G A) : Okd PP w G.K mg base 1 A.a__law_pool A.d__law_pool ["script", "k"] (sp__law_pool G) :=
  ok_def Z.F__law_pool sc__law_pool (T__law_pool G) (fun ds M Q R h => h.1) (fun cdv A' outer s H E hr => by
    have nd := sc__law_pool.nd
    obtain ⟨hu0, hu1, hu64, hu65⟩ := room_units hr
    have tk := takes_of (X := cxOf (L2.CX PP w) PP w G.K mg base ["script", "k", "cell", "big", "mixed"] "_law_pool" (defScope s__law_pool) A.a__law_pool cdv A' outer s H E) (E := E) rfl rfl rfl rfl
    have hp := passes_of (X := cxOf (L2.CX PP w) PP w G.K mg base ["script", "k", "cell", "big", "mixed"] "_law_pool" (defScope s__law_pool) A.a__law_pool cdv A' outer s H E) rfl
    exact (b_cons (s_set (i := 2) nd rfl (by first | exact Or.inl rfl | exact Or.inr rfl) e_int)
    (b_cons (s_if (t_cmp (op_ltD hu0) (e_var 1 (pv 1)) (e_b c_len rfl Z.b_len PySem.boot_len (a_cons (e_var 0 (pv 0)) a_nil)) (nomark _)) (b_one (s_set (i := 2) nd rfl (by first | exact Or.inl rfl | exact Or.inr rfl) (e_ix hu1 (e_var 0 (pv 0)) (e_var 1 (pv 1)) (fun _ _ => rfl)))) (b_one (s_if (t_tru (e_var 0 (pv 0)) (fun _ => rfl)) (b_one (s_set (i := 2) nd rfl (by first | exact Or.inl rfl | exact Or.inr rfl) (e_ix hu1 (e_var 0 (pv 0)) e_int (fun _ _ => rfl)))) b_nil)))
    (b_cons (s_set (i := 3) nd rfl (by first | exact Or.inl rfl | exact Or.inr rfl) (e_b (c_max2 rfl) rfl Z.b_max PyProof.Rows.boot_max (a_cons (e_ty c_int rfl Z.b_int PyProof.Rows.boot_int (a_cons (e_var 2 (pv 2)) a_nil)) (a_cons (e_ty c_int rfl Z.b_int PyProof.Rows.boot_int (a_cons (e_bin op_subD (e_neg e_int) (e_var 2 (pv 2))) a_nil)) a_nil))))
    (b_cons (s_set (i := 4) nd rfl (by first | exact Or.inl rfl | exact Or.inr rfl) (e_bin op_modD (e_ty c_int rfl Z.b_int PyProof.Rows.boot_int (a_cons (e_bin op_mulD (e_bin op_addD (e_bin op_addD (e_bin op_addD (e_bin op_modD (e_ty c_int rfl Z.b_int PyProof.Rows.boot_int (a_cons (e_var 3 (pv 3)) a_nil)) e_int) (e_bin op_mulD (e_bin op_mulD e_int (e_var 1 (pv 1))) (e_var 1 (pv 1)))) (e_bin op_mulD e_int (e_var 1 (pv 1)))) e_int) e_int) a_nil)) e_int))
    (b_one (s_ret (e_lstM (a_cons (e_bin op_mulD (e_var 3 (pv 3)) (e_ty c_int rfl Z.b_int PyProof.Rows.boot_int (a_cons (e_cmp op_geD (e_var 3 (pv 3)) (e_bin op_powD e_int e_int) (nomark _)) a_nil))) (a_cons (e_var 4 (pv 4)) a_nil)))))))))) (fun ds M Q R h => h.2)
theorem sc_law : FnScope ["script", "k"] ["script"] (defScope s_law) := ⟨rfl, rfl, rfl, by decide +kernel, rfl, by decide +kernel, by decide +kernel⟩
theorem B_law (Z : Z mg G A) : Binds G.K A.d_law ["script"] [] := Z.F_law.binds fun _ _ _ _ _ _ us hl => match us, hl with | [_], _ => rfl
theorem ok_law (Z : Z mg G A) : Okd PP w G.K mg base 8 A.a_law A.d_law ["script"] (sp_law G) :=
  ok_def Z.F_law sc_law (T_law G) (fun ds M Q R h => h.1) (fun cdv A' outer s H E hr => by
    have nd := sc_law.nd
    obtain ⟨hu0, hu1, hu64, hu65⟩ := room_units hr
    have tk := takes_of (X := cxOf (L2.CX PP w) PP w G.K mg base ["script", "k"] "law" (defScope s_law) A.a_law cdv A' outer s H E) (E := E) rfl rfl rfl rfl
    have hp := passes_of (X := cxOf (L2.CX PP w) PP w G.K mg base ["script", "k"] "law" (defScope s_law) A.a_law cdv A' outer s H E) rfl
    exact (b_cons (s_for hp rfl (i_range1 rfl Z.b_range (a_cons (e_b (c_max2 rfl) rfl Z.b_max PyProof.Rows.boot_max (a_cons e_int (a_cons (e_b (c_min2 rfl) rfl Z.b_min PyProof.Rows.boot_min (a_cons (e_b c_len rfl Z.b_len PySem.boot_len (a_cons (e_var 0 (pv 0)) a_nil)) (a_cons e_int a_nil))) a_nil))) a_nil)) (pg_name (i := 1) nd rfl (by first | exact Or.inl rfl | exact Or.inr rfl)) (gok_name 1) (b_one (s_if (t_not (t_tru (e_call tk (ok__law_right Z) (hr.mono (by decide)) rfl Z.m__law_right Z.F__law_right.kp (B__law_right Z) (a_cons (e_call tk (ok__law_pool Z) (hr.mono (by decide)) rfl Z.m__law_pool Z.F__law_pool.kp (B__law_pool Z) (a_cons (e_var 0 (pv 0)) (a_cons (e_var 1 (pv 1)) a_nil))) a_nil)) (fun _ => rfl))) (b_one (s_ret e_bl)) b_nil)))
    (b_one (s_ret e_bl)))) (fun ds M Q R h => h.2)

end LW

set_option Elab.async false
set_option maxRecDepth 100000
set_option maxHeartbeats 4000000
namespace LW
open PySem PySem.Spec L2 DL
def genv (K : PySem.W.Frag) (C0 C1 C2 C3 C4 C5 C6 C7 C9 C14 C22 C23 : Addr) : GEnv := { K := K, cls := fun i => match i with | 0 => C0 | 1 => C1 | 2 => C2 | 3 => C3 | 4 => C4 | 5 => C5 | 6 => C6 | 7 => C7 | 9 => C9 | 14 => C14 | 22 => C22 | 23 => C23 | _ => 0, isCls := fun C => C = C22 ∨ C = C23, isExc := fun C => C = C6 ∨ C = C7 ∨ C = C0 ∨ C = C2 }
theorem kit_self {K : PySem.W.Frag} {t : Value} : PySem.W.kitOne K t t = some true := if_pos (beq_self_eq_true t)
theorem kit_no {K : PySem.W.Frag} {t C : Addr} (hd : PySem.W.hasDictIn K C = true) (ty : PySem.W.typeIn K (.ref C) = some (.type "type")) (s1 : PySem.W.subIn K (.ref t) (.ref t) = some true) (s2 : PySem.W.subIn K (.ref t) (.ref C) = some false) : PySem.W.kitOne K (.ref t) (.ref C) = some false := by
  have ne : (Value.ref t == Value.ref C) = false := by
    cases h : (Value.ref t == Value.ref C) with
    | false => rfl
    | true =>
      have e : t = C := Value.ref.inj (beq_iff_eq.mp h)
      subst e
      rw [s1] at s2; cases s2
  obtain ⟨cd, hc, _⟩ := PySem.W.any_some hd
  have e2 : ((PySem.W.clsIn K C).isSome && PySem.W.typeIn K (.ref C) == some (.type "type")) = true := by rw [hc, ty]; rfl
  show (if (Value.ref t == Value.ref C) = true then some true else (if ((PySem.W.clsIn K C).isSome && PySem.W.typeIn K (.ref C) == some (.type "type")) = true then PySem.W.subIn K (.ref t) (.ref C) else none)) = some false
  rw [ne, if_neg Bool.false_ne_true, if_pos e2]
  exact s2
/-- the law's promise -/
def spL (K : PySem.W.Frag) : Sp := fun vs H Q _ => ∃ (a : Addr) (ns : List Int), vs = [.ref a] ∧ Only H ∧ SqL K H a (ns.map V.int) ∧ ns.length ≤ 63 ∧ ∀ H', Q (.bl true) H'
theorem ok_end {P : Program} {w : World} {K : PySem.W.Frag} {mg : Str → Option Value} {base : Heap} {k : Nat} {f : Addr} {fd : FuncData} {sp : SpD} (F : Okd P w K mg base k f fd ["script"] sp)
    (r : ∀ (ns : List Int) (M : MS) (Q : QD) (R : RK), ns.length ≤ 63 → (∀ M', Q (.bl true) M') → sp [.klst (ns.map D.int)] M Q R) : FnOk P w K mg base (L2.CX P w) k f fd ["script"] (spL K) :=
  F.imp fun vs H Q E ⟨a, ns, e, hO, hS, hl, q⟩ => by
    subst e
    have hA : ScrAt ⟨K, fun _ => False⟩ H (fun _ => none) a (ns.map V.int) := by
      rcases hS with hS | hS
      · rcases hS with hS | hS
        · rcases hO a with z | ⟨o, xs, z⟩
          · rw [z] at hS; cases hS
          · rw [z] at hS; cases hS
        · obtain ⟨o, z⟩ := hS
          exact .inl ⟨o, z, rfl⟩
      · exact .inr hS
    refine ⟨fun _ => False, [.klst (ns.map D.int)], fun _ => none, fun d _ => d = .bl true, NoR, ⟨fun a o e => (by cases e), fun a z => z.elim⟩, .cons (.klst hA (Reps.ofInts ns)) .nil, r ns _ _ _ hl fun M' => rfl, ?_, fun _ _ _ _ _ _ _ _ z => z.elim⟩
    intro d v M' H' f' o' r' e
    subst e
    cases r'
    exact q H'
theorem all_mk {w : World} {K : PySem.W.Frag} {h : Heap} {mg : Str → Option Value} {fa : Addr} (X : K.In h) (Ns : h.Ns mainGlobals mg) (hfa : mg "law" = some (.ref fa))
    {fI C0 C1 C2 C3 C4 C5 C6 C7 C9 C14 C22 C23 a0x a1x a2x a3x a4x a5x a6x a7x a8x a9x a10x a11x a12x a13x a14x a15x a16x a17x a18x a19x a20x a21x a22x a23x a24x a25x a26x a27x a28x a29x a30x a31x a32x a33x a34x a35x a36x a37x a38x a39x a40x a41x a42x a43x a44x : Addr}
    {ocI kVI dcI pmI cdI ctI : Value} {odI anI : Option Addr} {slI : Array (Option Value)}
    {nm9 q9 : Str} {N9 : Addr} {bs9 : List Value} {sn9 : List Str} {sub9 : List Value} {ab9 : Bool} {col9 : Option Bool} {dd9 : Option Addr} {m09 m19 m29 m39 m59 : Option Value}
    {nm5 q5 : Str} {N5 : Addr} {bs5 : List Value} {sn5 : List Str} {sub5 : List Value} {ab5 : Bool} {col5 : Option Bool} {dd5 : Option Addr} {m05 m15 m25 m35 m55 : Option Value}
    {nm4 q4 : Str} {N4 : Addr} {bs4 : List Value} {sn4 : List Str} {sub4 : List Value} {ab4 : Bool} {col4 : Option Bool} {dd4 : Option Addr} {m04 m14 m24 m34 m54 : Option Value}
    {nm6 q6 : Str} {N6 : Addr} {bs6 : List Value} {sn6 : List Str} {sub6 : List Value} {ab6 : Bool} {col6 : Option Bool} {dd6 : Option Addr} {m06 m16 m26 m36 m56 : Option Value}
    {nm2 q2 : Str} {N2 : Addr} {bs2 : List Value} {sn2 : List Str} {sub2 : List Value} {ab2 : Bool} {col2 : Option Bool} {dd2 : Option Addr} {m02 m12 m22 m32 m52 : Option Value}
    {nm1 q1 : Str} {N1 : Addr} {bs1 : List Value} {sn1 : List Str} {sub1 : List Value} {ab1 : Bool} {col1 : Option Bool} {dd1 : Option Addr} {m01 m11 m21 m31 m51 : Option Value}
    {nm7 q7 : Str} {N7 : Addr} {bs7 : List Value} {sn7 : List Str} {sub7 : List Value} {ab7 : Bool} {col7 : Option Bool} {dd7 : Option Addr} {m07 m17 m27 m37 m57 : Option Value}
    {nm14 q14 : Str} {N14 : Addr} {bs14 : List Value} {sn14 : List Str} {sub14 : List Value} {ab14 : Bool} {col14 : Option Bool} {dd14 : Option Addr} {m014 m114 m214 m314 m514 : Option Value}
    {nm3 q3 : Str} {N3 : Addr} {bs3 : List Value} {sn3 : List Str} {sub3 : List Value} {ab3 : Bool} {col3 : Option Bool} {dd3 : Option Addr} {m03 m13 m23 m33 m53 : Option Value}
    {oc0 kV0 dc0 pm0 cd0 ct0 : Value} {od0 an0 : Option Addr} {sl0 : Array (Option Value)}
    {oc1 kV1 dc1 pm1 cd1 ct1 : Value} {od1 an1 : Option Addr} {sl1 : Array (Option Value)}
    {oc2 kV2 dc2 pm2 cd2 ct2 : Value} {od2 an2 : Option Addr} {sl2 : Array (Option Value)}
    {oc3 kV3 dc3 pm3 cd3 ct3 : Value} {od3 an3 : Option Addr} {sl3 : Array (Option Value)}
    {oc4 kV4 dc4 pm4 cd4 ct4 : Value} {od4 an4 : Option Addr} {sl4 : Array (Option Value)}
    {oc5 kV5 dc5 pm5 cd5 ct5 : Value} {od5 an5 : Option Addr} {sl5 : Array (Option Value)}
    {oc6 kV6 dc6 pm6 cd6 ct6 : Value} {od6 an6 : Option Addr} {sl6 : Array (Option Value)}
    {oc7 kV7 dc7 pm7 cd7 ct7 : Value} {od7 an7 : Option Addr} {sl7 : Array (Option Value)}
    {oc8 kV8 dc8 pm8 cd8 ct8 : Value} {od8 an8 : Option Addr} {sl8 : Array (Option Value)}
    {oc9 kV9 dc9 pm9 cd9 ct9 : Value} {od9 an9 : Option Addr} {sl9 : Array (Option Value)}
    {oc10 kV10 dc10 pm10 cd10 ct10 : Value} {od10 an10 : Option Addr} {sl10 : Array (Option Value)}
    {oc11 kV11 dc11 pm11 cd11 ct11 : Value} {od11 an11 : Option Addr} {sl11 : Array (Option Value)}
    {oc12 kV12 dc12 pm12 cd12 ct12 : Value} {od12 an12 : Option Addr} {sl12 : Array (Option Value)}
    {oc13 kV13 dc13 pm13 cd13 ct13 : Value} {od13 an13 : Option Addr} {sl13 : Array (Option Value)}
    {oc14 kV14 dc14 pm14 cd14 ct14 : Value} {od14 an14 : Option Addr} {sl14 : Array (Option Value)}
    {oc15 kV15 dc15 pm15 cd15 ct15 : Value} {od15 an15 : Option Addr} {sl15 : Array (Option Value)}
    {oc16 kV16 dc16 pm16 cd16 ct16 : Value} {od16 an16 : Option Addr} {sl16 : Array (Option Value)}
    {oc17 kV17 dc17 pm17 cd17 ct17 : Value} {od17 an17 : Option Addr} {sl17 : Array (Option Value)}
    {oc18 kV18 dc18 pm18 cd18 ct18 : Value} {od18 an18 : Option Addr} {sl18 : Array (Option Value)}
    {oc19 kV19 dc19 pm19 cd19 ct19 : Value} {od19 an19 : Option Addr} {sl19 : Array (Option Value)}
    {oc20 kV20 dc20 pm20 cd20 ct20 : Value} {od20 an20 : Option Addr} {sl20 : Array (Option Value)}
    {oc21 kV21 dc21 pm21 cd21 ct21 : Value} {od21 an21 : Option Addr} {sl21 : Array (Option Value)}
    {oc22 kV22 dc22 pm22 cd22 ct22 : Value} {od22 an22 : Option Addr} {sl22 : Array (Option Value)}
    {oc23 kV23 dc23 pm23 cd23 ct23 : Value} {od23 an23 : Option Addr} {sl23 : Array (Option Value)}
    {oc24 kV24 dc24 pm24 cd24 ct24 : Value} {od24 an24 : Option Addr} {sl24 : Array (Option Value)}
    {oc25 kV25 dc25 pm25 cd25 ct25 : Value} {od25 an25 : Option Addr} {sl25 : Array (Option Value)}
    {oc26 kV26 dc26 pm26 cd26 ct26 : Value} {od26 an26 : Option Addr} {sl26 : Array (Option Value)}
    {oc27 kV27 dc27 pm27 cd27 ct27 : Value} {od27 an27 : Option Addr} {sl27 : Array (Option Value)}
    {oc28 kV28 dc28 pm28 cd28 ct28 : Value} {od28 an28 : Option Addr} {sl28 : Array (Option Value)}
    {oc29 kV29 dc29 pm29 cd29 ct29 : Value} {od29 an29 : Option Addr} {sl29 : Array (Option Value)}
    {oc30 kV30 dc30 pm30 cd30 ct30 : Value} {od30 an30 : Option Addr} {sl30 : Array (Option Value)}
    {oc31 kV31 dc31 pm31 cd31 ct31 : Value} {od31 an31 : Option Addr} {sl31 : Array (Option Value)}
    {oc32 kV32 dc32 pm32 cd32 ct32 : Value} {od32 an32 : Option Addr} {sl32 : Array (Option Value)}
    {oc33 kV33 dc33 pm33 cd33 ct33 : Value} {od33 an33 : Option Addr} {sl33 : Array (Option Value)}
    {oc34 kV34 dc34 pm34 cd34 ct34 : Value} {od34 an34 : Option Addr} {sl34 : Array (Option Value)}
    {oc35 kV35 dc35 pm35 cd35 ct35 : Value} {od35 an35 : Option Addr} {sl35 : Array (Option Value)}
    {oc36 kV36 dc36 pm36 cd36 ct36 : Value} {od36 an36 : Option Addr} {sl36 : Array (Option Value)}
    {oc37 kV37 dc37 pm37 cd37 ct37 : Value} {od37 an37 : Option Addr} {sl37 : Array (Option Value)}
    {oc38 kV38 dc38 pm38 cd38 ct38 : Value} {od38 an38 : Option Addr} {sl38 : Array (Option Value)}
    {oc39 kV39 dc39 pm39 cd39 ct39 : Value} {od39 an39 : Option Addr} {sl39 : Array (Option Value)}
    {oc40 kV40 dc40 pm40 cd40 ct40 : Value} {od40 an40 : Option Addr} {sl40 : Array (Option Value)}
    {oc41 kV41 dc41 pm41 cd41 ct41 : Value} {od41 an41 : Option Addr} {sl41 : Array (Option Value)}
    {oc42 kV42 dc42 pm42 cd42 ct42 : Value} {od42 an42 : Option Addr} {sl42 : Array (Option Value)}
    {oc43 kV43 dc43 pm43 cd43 ct43 : Value} {od43 an43 : Option Addr} {sl43 : Array (Option Value)}
    {oc44 kV44 dc44 pm44 cd44 ct44 : Value} {od44 an44 : Option Addr} {sl44 : Array (Option Value)}
    {tk_LONGEST : Tok}
    {tk_MOST_PLACES : Tok}
    {tk_MOST_POSITIONS : Tok}
    {tk_SHORTEST : Tok}
    (aC0 : PySem.W.nsIn K mainGlobals "Refused" = some (some (.ref C0)))
    (aC1 : PySem.W.nsIn K mainGlobals "BadSize" = some (some (.ref C1)))
    (aC2 : PySem.W.nsIn K mainGlobals "BadRoad" = some (some (.ref C2)))
    (aC3 : PySem.W.nsIn K mainGlobals "Parted" = some (some (.ref C3)))
    (aC4 : PySem.W.nsIn K mainGlobals "BadLength" = some (some (.ref C4)))
    (aC5 : PySem.W.nsIn K mainGlobals "BadLamp" = some (some (.ref C5)))
    (aC6 : PySem.W.nsIn K mainGlobals "BadPlace" = some (some (.ref C6)))
    (aC7 : PySem.W.nsIn K mainGlobals "BadState" = some (some (.ref C7)))
    (aC9 : PySem.W.nsIn K mainGlobals "BadCount" = some (some (.ref C9)))
    (aC14 : PySem.W.nsIn K mainGlobals "NotTree" = some (some (.ref C14)))
    (aC22 : PySem.W.nsIn K mainGlobals "Web" = some (some (.ref C22)))
    (aC23 : PySem.W.nsIn K mainGlobals "Land" = some (some (.ref C23)))
    (aI : PySem.W.findIn K (.ref C0) "__init__" = some (some (.ref fI)))
    (lI : K.lookup fI = some ⟨ocI, odI, .func (PySem.W.fnOf "__init__" "Refused.__init__" (defArgs s_refI) (defBody s_refI) (defScope s_refI) .none kVI dcI pmI anI cdI ctI), slI⟩)
    (cI : PySem.W.codeIn K cdI "Refused.__init__" = true)
    (kI : PySem.W.keepIn K (.ref fI) = true)
    (tI : PySem.W.typeIn K (.ref fI) = some (.type "function"))
    (eC9 : PySem.W.subIn K (.ref C9) (.type "BaseException") = some true)
    (tC9 : PySem.W.typeIn K (.ref C9) = some (.type "type"))
    (eC5 : PySem.W.subIn K (.ref C5) (.type "BaseException") = some true)
    (tC5 : PySem.W.typeIn K (.ref C5) = some (.type "type"))
    (eC4 : PySem.W.subIn K (.ref C4) (.type "BaseException") = some true)
    (tC4 : PySem.W.typeIn K (.ref C4) = some (.type "type"))
    (eC6 : PySem.W.subIn K (.ref C6) (.type "BaseException") = some true)
    (tC6 : PySem.W.typeIn K (.ref C6) = some (.type "type"))
    (eC2 : PySem.W.subIn K (.ref C2) (.type "BaseException") = some true)
    (tC2 : PySem.W.typeIn K (.ref C2) = some (.type "type"))
    (eC1 : PySem.W.subIn K (.ref C1) (.type "BaseException") = some true)
    (tC1 : PySem.W.typeIn K (.ref C1) = some (.type "type"))
    (eC7 : PySem.W.subIn K (.ref C7) (.type "BaseException") = some true)
    (tC7 : PySem.W.typeIn K (.ref C7) = some (.type "type"))
    (eC14 : PySem.W.subIn K (.ref C14) (.type "BaseException") = some true)
    (tC14 : PySem.W.typeIn K (.ref C14) = some (.type "type"))
    (eC3 : PySem.W.subIn K (.ref C3) (.type "BaseException") = some true)
    (tC3 : PySem.W.typeIn K (.ref C3) = some (.type "type"))
    (eC0 : PySem.W.subIn K (.ref C0) (.type "BaseException") = some true)
    (tC0 : PySem.W.typeIn K (.ref C0) = some (.type "type"))
    (x9 : K.lookup C9 = some (excClassObj nm9 q9 C9 N9 bs9 [.ref C0, .type "ValueError", .type "Exception", .type "BaseException", .type "object"] true sn9 sub9 ab9 col9 dd9 m09 m19 m29 m39 m59 "ValueError.__new__"))
    (sa9 : PySem.W.findIn K (.ref C9) "__setattr__" = some (some (.builtin "object.__setattr__")))
    (kC9 : PySem.W.keepIn K (.ref C9) = true)
    (ii9 : PySem.W.findIn K (.ref C9) "__init__" = some (some (.ref fI)))
    (no9 : PySem.W.findIn K (.ref C9) kWhat = some none)
    (x5 : K.lookup C5 = some (excClassObj nm5 q5 C5 N5 bs5 [.ref C0, .type "ValueError", .type "Exception", .type "BaseException", .type "object"] true sn5 sub5 ab5 col5 dd5 m05 m15 m25 m35 m55 "ValueError.__new__"))
    (sa5 : PySem.W.findIn K (.ref C5) "__setattr__" = some (some (.builtin "object.__setattr__")))
    (kC5 : PySem.W.keepIn K (.ref C5) = true)
    (ii5 : PySem.W.findIn K (.ref C5) "__init__" = some (some (.ref fI)))
    (no5 : PySem.W.findIn K (.ref C5) kWhat = some none)
    (x4 : K.lookup C4 = some (excClassObj nm4 q4 C4 N4 bs4 [.ref C0, .type "ValueError", .type "Exception", .type "BaseException", .type "object"] true sn4 sub4 ab4 col4 dd4 m04 m14 m24 m34 m54 "ValueError.__new__"))
    (sa4 : PySem.W.findIn K (.ref C4) "__setattr__" = some (some (.builtin "object.__setattr__")))
    (kC4 : PySem.W.keepIn K (.ref C4) = true)
    (ii4 : PySem.W.findIn K (.ref C4) "__init__" = some (some (.ref fI)))
    (no4 : PySem.W.findIn K (.ref C4) kWhat = some none)
    (x6 : K.lookup C6 = some (excClassObj nm6 q6 C6 N6 bs6 [.ref C0, .type "ValueError", .type "Exception", .type "BaseException", .type "object"] true sn6 sub6 ab6 col6 dd6 m06 m16 m26 m36 m56 "ValueError.__new__"))
    (sa6 : PySem.W.findIn K (.ref C6) "__setattr__" = some (some (.builtin "object.__setattr__")))
    (kC6 : PySem.W.keepIn K (.ref C6) = true)
    (ii6 : PySem.W.findIn K (.ref C6) "__init__" = some (some (.ref fI)))
    (no6 : PySem.W.findIn K (.ref C6) kWhat = some none)
    (x2 : K.lookup C2 = some (excClassObj nm2 q2 C2 N2 bs2 [.ref C0, .type "ValueError", .type "Exception", .type "BaseException", .type "object"] true sn2 sub2 ab2 col2 dd2 m02 m12 m22 m32 m52 "ValueError.__new__"))
    (sa2 : PySem.W.findIn K (.ref C2) "__setattr__" = some (some (.builtin "object.__setattr__")))
    (kC2 : PySem.W.keepIn K (.ref C2) = true)
    (ii2 : PySem.W.findIn K (.ref C2) "__init__" = some (some (.ref fI)))
    (no2 : PySem.W.findIn K (.ref C2) kWhat = some none)
    (x1 : K.lookup C1 = some (excClassObj nm1 q1 C1 N1 bs1 [.ref C0, .type "ValueError", .type "Exception", .type "BaseException", .type "object"] true sn1 sub1 ab1 col1 dd1 m01 m11 m21 m31 m51 "ValueError.__new__"))
    (sa1 : PySem.W.findIn K (.ref C1) "__setattr__" = some (some (.builtin "object.__setattr__")))
    (kC1 : PySem.W.keepIn K (.ref C1) = true)
    (ii1 : PySem.W.findIn K (.ref C1) "__init__" = some (some (.ref fI)))
    (no1 : PySem.W.findIn K (.ref C1) kWhat = some none)
    (x7 : K.lookup C7 = some (excClassObj nm7 q7 C7 N7 bs7 [.ref C0, .type "ValueError", .type "Exception", .type "BaseException", .type "object"] true sn7 sub7 ab7 col7 dd7 m07 m17 m27 m37 m57 "ValueError.__new__"))
    (sa7 : PySem.W.findIn K (.ref C7) "__setattr__" = some (some (.builtin "object.__setattr__")))
    (kC7 : PySem.W.keepIn K (.ref C7) = true)
    (ii7 : PySem.W.findIn K (.ref C7) "__init__" = some (some (.ref fI)))
    (no7 : PySem.W.findIn K (.ref C7) kWhat = some none)
    (x14 : K.lookup C14 = some (excClassObj nm14 q14 C14 N14 bs14 [.ref C0, .type "ValueError", .type "Exception", .type "BaseException", .type "object"] true sn14 sub14 ab14 col14 dd14 m014 m114 m214 m314 m514 "ValueError.__new__"))
    (sa14 : PySem.W.findIn K (.ref C14) "__setattr__" = some (some (.builtin "object.__setattr__")))
    (kC14 : PySem.W.keepIn K (.ref C14) = true)
    (ii14 : PySem.W.findIn K (.ref C14) "__init__" = some (some (.ref fI)))
    (no14 : PySem.W.findIn K (.ref C14) kWhat = some none)
    (x3 : K.lookup C3 = some (excClassObj nm3 q3 C3 N3 bs3 [.ref C0, .type "ValueError", .type "Exception", .type "BaseException", .type "object"] true sn3 sub3 ab3 col3 dd3 m03 m13 m23 m33 m53 "ValueError.__new__"))
    (sa3 : PySem.W.findIn K (.ref C3) "__setattr__" = some (some (.builtin "object.__setattr__")))
    (kC3 : PySem.W.keepIn K (.ref C3) = true)
    (ii3 : PySem.W.findIn K (.ref C3) "__init__" = some (some (.ref fI)))
    (no3 : PySem.W.findIn K (.ref C3) kWhat = some none)
    (ga6 : PySem.W.findIn K (.ref C6) "__getattribute__" = some (some (.builtin "BaseException.__getattribute__")))
    (gg6 : PySem.W.findIn K (.ref C6) "__getattr__" = some none)
    (hd6 : PySem.W.hasDictIn K C6 = true)
    (ha6 : PySem.W.findIn K (.ref C6) "__class__" = some (some (.builtin "object.__class__")))
    (hn6 : PySem.W.specialIn K (.builtin "object.__class__") "__get__" = some (some (.builtin "getset_descriptor.__get__")))
    (ht6 : PySem.W.takesIn K (.builtin "object.__class__") = some true)
    (hm6 : PySem.W.mroIn K C6 (.type "object") = some true)
    (ga7 : PySem.W.findIn K (.ref C7) "__getattribute__" = some (some (.builtin "BaseException.__getattribute__")))
    (gg7 : PySem.W.findIn K (.ref C7) "__getattr__" = some none)
    (hd7 : PySem.W.hasDictIn K C7 = true)
    (ha7 : PySem.W.findIn K (.ref C7) "__class__" = some (some (.builtin "object.__class__")))
    (hn7 : PySem.W.specialIn K (.builtin "object.__class__") "__get__" = some (some (.builtin "getset_descriptor.__get__")))
    (ht7 : PySem.W.takesIn K (.builtin "object.__class__") = some true)
    (hm7 : PySem.W.mroIn K C7 (.type "object") = some true)
    (ga0 : PySem.W.findIn K (.ref C0) "__getattribute__" = some (some (.builtin "BaseException.__getattribute__")))
    (gg0 : PySem.W.findIn K (.ref C0) "__getattr__" = some none)
    (hd0 : PySem.W.hasDictIn K C0 = true)
    (no0 : PySem.W.findIn K (.ref C0) kWhat = some none)
    (ha0 : PySem.W.findIn K (.ref C0) "__class__" = some (some (.builtin "object.__class__")))
    (hn0 : PySem.W.specialIn K (.builtin "object.__class__") "__get__" = some (some (.builtin "getset_descriptor.__get__")))
    (ht0 : PySem.W.takesIn K (.builtin "object.__class__") = some true)
    (hm0 : PySem.W.mroIn K C0 (.type "object") = some true)
    (ga2 : PySem.W.findIn K (.ref C2) "__getattribute__" = some (some (.builtin "BaseException.__getattribute__")))
    (gg2 : PySem.W.findIn K (.ref C2) "__getattr__" = some none)
    (hd2 : PySem.W.hasDictIn K C2 = true)
    (ha2 : PySem.W.findIn K (.ref C2) "__class__" = some (some (.builtin "object.__class__")))
    (hn2 : PySem.W.specialIn K (.builtin "object.__class__") "__get__" = some (some (.builtin "getset_descriptor.__get__")))
    (ht2 : PySem.W.takesIn K (.builtin "object.__class__") = some true)
    (hm2 : PySem.W.mroIn K C2 (.type "object") = some true)
    (su6_6 : PySem.W.subIn K (.ref C6) (.ref C6) = some true)
    (su7_6 : PySem.W.subIn K (.ref C7) (.ref C6) = some false)
    (su7_7 : PySem.W.subIn K (.ref C7) (.ref C7) = some true)
    (su6_0 : PySem.W.subIn K (.ref C6) (.ref C0) = some true)
    (su2_0 : PySem.W.subIn K (.ref C2) (.ref C0) = some true)
    (su2_2 : PySem.W.subIn K (.ref C2) (.ref C2) = some true)
    (su6_2 : PySem.W.subIn K (.ref C6) (.ref C2) = some false)
    (su2_6 : PySem.W.subIn K (.ref C2) (.ref C6) = some false)
    (pg22 : PySem.W.plainGet K C22 Str.empty = true)
    (hd22 : PySem.W.hasDictIn K C22 = true)
    (po22 : PySem.W.plainOver K C22 = true)
    (sa22 : PySem.W.findIn K (.ref C22) "__setattr__" = some (some (.builtin "object.__setattr__")))
    (mk22 : PySem.W.makesIn K C22 = true)
    (kc22 : PySem.W.keepIn K (.ref C22) = true)
    (ha22 : PySem.W.findIn K (.ref C22) "__class__" = some (some (.builtin "object.__class__")))
    (hn22 : PySem.W.specialIn K (.builtin "object.__class__") "__get__" = some (some (.builtin "getset_descriptor.__get__")))
    (ht22 : PySem.W.takesIn K (.builtin "object.__class__") = some true)
    (hm22 : PySem.W.mroIn K C22 (.type "object") = some true)
    (n22_lamps : PySem.W.findIn K (.ref C22) "lamps" = some none)
    (n22_many : PySem.W.findIn K (.ref C22) "many" = some none)
    (n22_roads : PySem.W.findIn K (.ref C22) "roads" = some none)
    (pg23 : PySem.W.plainGet K C23 Str.empty = true)
    (hd23 : PySem.W.hasDictIn K C23 = true)
    (po23 : PySem.W.plainOver K C23 = true)
    (sa23 : PySem.W.findIn K (.ref C23) "__setattr__" = some (some (.builtin "object.__setattr__")))
    (mk23 : PySem.W.makesIn K C23 = true)
    (kc23 : PySem.W.keepIn K (.ref C23) = true)
    (ha23 : PySem.W.findIn K (.ref C23) "__class__" = some (some (.builtin "object.__class__")))
    (hn23 : PySem.W.specialIn K (.builtin "object.__class__") "__get__" = some (some (.builtin "getset_descriptor.__get__")))
    (ht23 : PySem.W.takesIn K (.builtin "object.__class__") = some true)
    (hm23 : PySem.W.mroIn K C23 (.type "object") = some true)
    (n23_lamps : PySem.W.findIn K (.ref C23) "lamps" = some none)
    (n23_many : PySem.W.findIn K (.ref C23) "many" = some none)
    (n23_roads : PySem.W.findIn K (.ref C23) "roads" = some none)
    (a0 : PySem.W.nsIn K mainGlobals "_law_take" = some (some (.ref a0x)))
    (l0 : K.lookup a0x = some ⟨oc0, od0, .func (PySem.W.fnOf "_law_take" "_law_take" (defArgs s__law_take) (defBody s__law_take) (defScope s__law_take) .none kV0 dc0 pm0 an0 cd0 ct0), sl0⟩)
    (c0 : PySem.W.codeIn K cd0 "_law_take" = true)
    (k0 : PySem.W.keepIn K (.ref a0x) = true)
    (a1 : PySem.W.nsIn K mainGlobals "_law_one" = some (some (.ref a1x)))
    (l1 : K.lookup a1x = some ⟨oc1, od1, .func (PySem.W.fnOf "_law_one" "_law_one" (defArgs s__law_one) (defBody s__law_one) (defScope s__law_one) .none kV1 dc1 pm1 an1 cd1 ct1), sl1⟩)
    (c1 : PySem.W.codeIn K cd1 "_law_one" = true)
    (k1 : PySem.W.keepIn K (.ref a1x) = true)
    (a2 : PySem.W.nsIn K mainGlobals "_law_tree_roads" = some (some (.ref a2x)))
    (l2 : K.lookup a2x = some ⟨oc2, od2, .func (PySem.W.fnOf "_law_tree_roads" "_law_tree_roads" (defArgs s__law_tree_roads) (defBody s__law_tree_roads) (defScope s__law_tree_roads) .none kV2 dc2 pm2 an2 cd2 ct2), sl2⟩)
    (c2 : PySem.W.codeIn K cd2 "_law_tree_roads" = true)
    (k2 : PySem.W.keepIn K (.ref a2x) = true)
    (a3 : PySem.W.nsIn K mainGlobals "_law_web" = some (some (.ref a3x)))
    (l3 : K.lookup a3x = some ⟨oc3, od3, .func (PySem.W.fnOf "_law_web" "_law_web" (defArgs s__law_web) (defBody s__law_web) (defScope s__law_web) .none kV3 dc3 pm3 an3 cd3 ct3), sl3⟩)
    (c3 : PySem.W.codeIn K cd3 "_law_web" = true)
    (k3 : PySem.W.keepIn K (.ref a3x) = true)
    (a4 : PySem.W.nsIn K mainGlobals "_law_land" = some (some (.ref a4x)))
    (l4 : K.lookup a4x = some ⟨oc4, od4, .func (PySem.W.fnOf "_law_land" "_law_land" (defArgs s__law_land) (defBody s__law_land) (defScope s__law_land) .none kV4 dc4 pm4 an4 cd4 ct4), sl4⟩)
    (c4 : PySem.W.codeIn K cd4 "_law_land" = true)
    (k4 : PySem.W.keepIn K (.ref a4x) = true)
    (a5 : PySem.W.nsIn K mainGlobals "_law_states_many" = some (some (.ref a5x)))
    (l5 : K.lookup a5x = some ⟨oc5, od5, .func (PySem.W.fnOf "_law_states_many" "_law_states_many" (defArgs s__law_states_many) (defBody s__law_states_many) (defScope s__law_states_many) .none kV5 dc5 pm5 an5 cd5 ct5), sl5⟩)
    (c5 : PySem.W.codeIn K cd5 "_law_states_many" = true)
    (k5 : PySem.W.keepIn K (.ref a5x) = true)
    (a6 : PySem.W.nsIn K mainGlobals "_law_small" = some (some (.ref a6x)))
    (l6 : K.lookup a6x = some ⟨oc6, od6, .func (PySem.W.fnOf "_law_small" "_law_small" (defArgs s__law_small) (defBody s__law_small) (defScope s__law_small) .none kV6 dc6 pm6 an6 cd6 ct6), sl6⟩)
    (c6 : PySem.W.codeIn K cd6 "_law_small" = true)
    (k6 : PySem.W.keepIn K (.ref a6x) = true)
    (a7 : PySem.W.nsIn K mainGlobals "_law_row" = some (some (.ref a7x)))
    (l7 : K.lookup a7x = some ⟨oc7, od7, .func (PySem.W.fnOf "_law_row" "_law_row" (defArgs s__law_row) (defBody s__law_row) (defScope s__law_row) .none kV7 dc7 pm7 an7 cd7 ct7), sl7⟩)
    (c7 : PySem.W.codeIn K cd7 "_law_row" = true)
    (k7 : PySem.W.keepIn K (.ref a7x) = true)
    (a8 : PySem.W.nsIn K mainGlobals "_law_state" = some (some (.ref a8x)))
    (l8 : K.lookup a8x = some ⟨oc8, od8, .func (PySem.W.fnOf "_law_state" "_law_state" (defArgs s__law_state) (defBody s__law_state) (defScope s__law_state) .none kV8 dc8 pm8 an8 cd8 ct8), sl8⟩)
    (c8 : PySem.W.codeIn K cd8 "_law_state" = true)
    (k8 : PySem.W.keepIn K (.ref a8x) = true)
    (a9 : PySem.W.nsIn K mainGlobals "is_number" = some (some (.ref a9x)))
    (l9 : K.lookup a9x = some ⟨oc9, od9, .func (PySem.W.fnOf "is_number" "is_number" (defArgs s_is_number) (defBody s_is_number) (defScope s_is_number) .none kV9 dc9 pm9 an9 cd9 ct9), sl9⟩)
    (c9 : PySem.W.codeIn K cd9 "is_number" = true)
    (k9 : PySem.W.keepIn K (.ref a9x) = true)
    (a10 : PySem.W.nsIn K mainGlobals "_is_road" = some (some (.ref a10x)))
    (l10 : K.lookup a10x = some ⟨oc10, od10, .func (PySem.W.fnOf "_is_road" "_is_road" (defArgs s__is_road) (defBody s__is_road) (defScope s__is_road) .none kV10 dc10 pm10 an10 cd10 ct10), sl10⟩)
    (c10 : PySem.W.codeIn K cd10 "_is_road" = true)
    (k10 : PySem.W.keepIn K (.ref a10x) = true)
    (a11 : PySem.W.nsIn K mainGlobals "is_length" = some (some (.ref a11x)))
    (l11 : K.lookup a11x = some ⟨oc11, od11, .func (PySem.W.fnOf "is_length" "is_length" (defArgs s_is_length) (defBody s_is_length) (defScope s_is_length) .none kV11 dc11 pm11 an11 cd11 ct11), sl11⟩)
    (c11 : PySem.W.codeIn K cd11 "is_length" = true)
    (k11 : PySem.W.keepIn K (.ref a11x) = true)
    (a12 : PySem.W.nsIn K mainGlobals "check_roads" = some (some (.ref a12x)))
    (l12 : K.lookup a12x = some ⟨oc12, od12, .func (PySem.W.fnOf "check_roads" "check_roads" (defArgs s_check_roads) (defBody s_check_roads) (defScope s_check_roads) .none kV12 dc12 pm12 an12 cd12 ct12), sl12⟩)
    (c12 : PySem.W.codeIn K cd12 "check_roads" = true)
    (k12 : PySem.W.keepIn K (.ref a12x) = true)
    (a13 : PySem.W.nsIn K mainGlobals "tied" = some (some (.ref a13x)))
    (l13 : K.lookup a13x = some ⟨oc13, od13, .func (PySem.W.fnOf "tied" "tied" (defArgs s_tied) (defBody s_tied) (defScope s_tied) .none kV13 dc13 pm13 an13 cd13 ct13), sl13⟩)
    (c13 : PySem.W.codeIn K cd13 "tied" = true)
    (k13 : PySem.W.keepIn K (.ref a13x) = true)
    (a14 : PySem.W.nsIn K mainGlobals "lengths_from" = some (some (.ref a14x)))
    (l14 : K.lookup a14x = some ⟨oc14, od14, .func (PySem.W.fnOf "lengths_from" "lengths_from" (defArgs s_lengths_from) (defBody s_lengths_from) (defScope s_lengths_from) .none kV14 dc14 pm14 an14 cd14 ct14), sl14⟩)
    (c14 : PySem.W.codeIn K cd14 "lengths_from" = true)
    (k14 : PySem.W.keepIn K (.ref a14x) = true)
    (a15 : PySem.W.nsIn K mainGlobals "check_together" = some (some (.ref a15x)))
    (l15 : K.lookup a15x = some ⟨oc15, od15, .func (PySem.W.fnOf "check_together" "check_together" (defArgs s_check_together) (defBody s_check_together) (defScope s_check_together) .none kV15 dc15 pm15 an15 cd15 ct15), sl15⟩)
    (c15 : PySem.W.codeIn K cd15 "check_together" = true)
    (k15 : PySem.W.keepIn K (.ref a15x) = true)
    (a16 : PySem.W.nsIn K mainGlobals "_check_lamps" = some (some (.ref a16x)))
    (l16 : K.lookup a16x = some ⟨oc16, od16, .func (PySem.W.fnOf "_check_lamps" "_check_lamps" (defArgs s__check_lamps) (defBody s__check_lamps) (defScope s__check_lamps) .none kV16 dc16 pm16 an16 cd16 ct16), sl16⟩)
    (c16 : PySem.W.codeIn K cd16 "_check_lamps" = true)
    (k16 : PySem.W.keepIn K (.ref a16x) = true)
    (a17 : PySem.W.findIn K (.ref C23) "__init__" = some (some (.ref a17x)))
    (i17 : PySem.W.isFn K (.ref a17x) = true)
    (l17 : K.lookup a17x = some ⟨oc17, od17, .func (PySem.W.fnOf "__init__" "Land.__init__" (defArgs s_Land_init) (defBody s_Land_init) (defScope s_Land_init) .none kV17 dc17 pm17 an17 cd17 ct17), sl17⟩)
    (c17 : PySem.W.codeIn K cd17 "Land.__init__" = true)
    (k17 : PySem.W.keepIn K (.ref a17x) = true)
    (a18 : PySem.W.nsIn K mainGlobals "made_land" = some (some (.ref a18x)))
    (l18 : K.lookup a18x = some ⟨oc18, od18, .func (PySem.W.fnOf "made_land" "made_land" (defArgs s_made_land) (defBody s_made_land) (defScope s_made_land) .none kV18 dc18 pm18 an18 cd18 ct18), sl18⟩)
    (c18 : PySem.W.codeIn K cd18 "made_land" = true)
    (k18 : PySem.W.keepIn K (.ref a18x) = true)
    (a19 : PySem.W.nsIn K mainGlobals "check_size" = some (some (.ref a19x)))
    (l19 : K.lookup a19x = some ⟨oc19, od19, .func (PySem.W.fnOf "check_size" "check_size" (defArgs s_check_size) (defBody s_check_size) (defScope s_check_size) .none kV19 dc19 pm19 an19 cd19 ct19), sl19⟩)
    (c19 : PySem.W.codeIn K cd19 "check_size" = true)
    (k19 : PySem.W.keepIn K (.ref a19x) = true)
    (a20 : PySem.W.findIn K (.ref C22) "__init__" = some (some (.ref a20x)))
    (i20 : PySem.W.isFn K (.ref a20x) = true)
    (l20 : K.lookup a20x = some ⟨oc20, od20, .func (PySem.W.fnOf "__init__" "Web.__init__" (defArgs s_Web_init) (defBody s_Web_init) (defScope s_Web_init) .none kV20 dc20 pm20 an20 cd20 ct20), sl20⟩)
    (c20 : PySem.W.codeIn K cd20 "Web.__init__" = true)
    (k20 : PySem.W.keepIn K (.ref a20x) = true)
    (a21 : PySem.W.nsIn K mainGlobals "made_web" = some (some (.ref a21x)))
    (l21 : K.lookup a21x = some ⟨oc21, od21, .func (PySem.W.fnOf "made_web" "made_web" (defArgs s_made_web) (defBody s_made_web) (defScope s_made_web) .none kV21 dc21 pm21 an21 cd21 ct21), sl21⟩)
    (c21 : PySem.W.codeIn K cd21 "made_web" = true)
    (k21 : PySem.W.keepIn K (.ref a21x) = true)
    (a22 : PySem.W.nsIn K mainGlobals "_law_made" = some (some (.ref a22x)))
    (l22 : K.lookup a22x = some ⟨oc22, od22, .func (PySem.W.fnOf "_law_made" "_law_made" (defArgs s__law_made) (defBody s__law_made) (defScope s__law_made) .none kV22 dc22 pm22 an22 cd22 ct22), sl22⟩)
    (c22 : PySem.W.codeIn K cd22 "_law_made" = true)
    (k22 : PySem.W.keepIn K (.ref a22x) = true)
    (a23 : PySem.W.nsIn K mainGlobals "is_tree" = some (some (.ref a23x)))
    (l23 : K.lookup a23x = some ⟨oc23, od23, .func (PySem.W.fnOf "is_tree" "is_tree" (defArgs s_is_tree) (defBody s_is_tree) (defScope s_is_tree) .none kV23 dc23 pm23 an23 cd23 ct23), sl23⟩)
    (c23 : PySem.W.codeIn K cd23 "is_tree" = true)
    (k23 : PySem.W.keepIn K (.ref a23x) = true)
    (a24 : PySem.W.nsIn K mainGlobals "check_tree" = some (some (.ref a24x)))
    (l24 : K.lookup a24x = some ⟨oc24, od24, .func (PySem.W.fnOf "check_tree" "check_tree" (defArgs s_check_tree) (defBody s_check_tree) (defScope s_check_tree) .none kV24 dc24 pm24 an24 cd24 ct24), sl24⟩)
    (c24 : PySem.W.codeIn K cd24 "check_tree" = true)
    (k24 : PySem.W.keepIn K (.ref a24x) = true)
    (a25 : PySem.W.nsIn K mainGlobals "check_place" = some (some (.ref a25x)))
    (l25 : K.lookup a25x = some ⟨oc25, od25, .func (PySem.W.fnOf "check_place" "check_place" (defArgs s_check_place) (defBody s_check_place) (defScope s_check_place) .none kV25 dc25 pm25 an25 cd25 ct25), sl25⟩)
    (c25 : PySem.W.codeIn K cd25 "check_place" = true)
    (k25 : PySem.W.keepIn K (.ref a25x) = true)
    (a26 : PySem.W.nsIn K mainGlobals "check_row" = some (some (.ref a26x)))
    (l26 : K.lookup a26x = some ⟨oc26, od26, .func (PySem.W.fnOf "check_row" "check_row" (defArgs s_check_row) (defBody s_check_row) (defScope s_check_row) .none kV26 dc26 pm26 an26 cd26 ct26), sl26⟩)
    (c26 : PySem.W.codeIn K cd26 "check_row" = true)
    (k26 : PySem.W.keepIn K (.ref a26x) = true)
    (a27 : PySem.W.nsIn K mainGlobals "check_state" = some (some (.ref a27x)))
    (l27 : K.lookup a27x = some ⟨oc27, od27, .func (PySem.W.fnOf "check_state" "check_state" (defArgs s_check_state) (defBody s_check_state) (defScope s_check_state) .none kV27 dc27 pm27 an27 cd27 ct27), sl27⟩)
    (c27 : PySem.W.codeIn K cd27 "check_state" = true)
    (k27 : PySem.W.keepIn K (.ref a27x) = true)
    (a28 : PySem.W.nsIn K mainGlobals "check_road" = some (some (.ref a28x)))
    (l28 : K.lookup a28x = some ⟨oc28, od28, .func (PySem.W.fnOf "check_road" "check_road" (defArgs s_check_road) (defBody s_check_road) (defScope s_check_road) .none kV28 dc28 pm28 an28 cd28 ct28), sl28⟩)
    (c28 : PySem.W.codeIn K cd28 "check_road" = true)
    (k28 : PySem.W.keepIn K (.ref a28x) = true)
    (a29 : PySem.W.nsIn K mainGlobals "share" = some (some (.ref a29x)))
    (l29 : K.lookup a29x = some ⟨oc29, od29, .func (PySem.W.fnOf "share" "share" (defArgs s_share) (defBody s_share) (defScope s_share) .none kV29 dc29 pm29 an29 cd29 ct29), sl29⟩)
    (c29 : PySem.W.codeIn K cd29 "share" = true)
    (k29 : PySem.W.keepIn K (.ref a29x) = true)
    (a30 : PySem.W.nsIn K mainGlobals "_shares" = some (some (.ref a30x)))
    (l30 : K.lookup a30x = some ⟨oc30, od30, .func (PySem.W.fnOf "_shares" "_shares" (defArgs s__shares) (defBody s__shares) (defScope s__shares) .none kV30 dc30 pm30 an30 cd30 ct30), sl30⟩)
    (c30 : PySem.W.codeIn K cd30 "_shares" = true)
    (k30 : PySem.W.keepIn K (.ref a30x) = true)
    (a31 : PySem.W.nsIn K mainGlobals "parted" = some (some (.ref a31x)))
    (l31 : K.lookup a31x = some ⟨oc31, od31, .func (PySem.W.fnOf "parted" "parted" (defArgs s_parted) (defBody s_parted) (defScope s_parted) .none kV31 dc31 pm31 an31 cd31 ct31), sl31⟩)
    (c31 : PySem.W.codeIn K cd31 "parted" = true)
    (k31 : PySem.W.keepIn K (.ref a31x) = true)
    (a32 : PySem.W.nsIn K mainGlobals "rows_many" = some (some (.ref a32x)))
    (l32 : K.lookup a32x = some ⟨oc32, od32, .func (PySem.W.fnOf "rows_many" "rows_many" (defArgs s_rows_many) (defBody s_rows_many) (defScope s_rows_many) .none kV32 dc32 pm32 an32 cd32 ct32), sl32⟩)
    (c32 : PySem.W.codeIn K cd32 "rows_many" = true)
    (k32 : PySem.W.keepIn K (.ref a32x) = true)
    (a33 : PySem.W.nsIn K mainGlobals "states_many" = some (some (.ref a33x)))
    (l33 : K.lookup a33x = some ⟨oc33, od33, .func (PySem.W.fnOf "states_many" "states_many" (defArgs s_states_many) (defBody s_states_many) (defScope s_states_many) .none kV33 dc33 pm33 an33 cd33 ct33), sl33⟩)
    (c33 : PySem.W.codeIn K cd33 "states_many" = true)
    (k33 : PySem.W.keepIn K (.ref a33x) = true)
    (a34 : PySem.W.nsIn K mainGlobals "crossing_counts" = some (some (.ref a34x)))
    (l34 : K.lookup a34x = some ⟨oc34, od34, .func (PySem.W.fnOf "crossing_counts" "crossing_counts" (defArgs s_crossing_counts) (defBody s_crossing_counts) (defScope s_crossing_counts) .none kV34 dc34 pm34 an34 cd34 ct34), sl34⟩)
    (c34 : PySem.W.codeIn K cd34 "crossing_counts" = true)
    (k34 : PySem.W.keepIn K (.ref a34x) = true)
    (a35 : PySem.W.nsIn K mainGlobals "road_shares" = some (some (.ref a35x)))
    (l35 : K.lookup a35x = some ⟨oc35, od35, .func (PySem.W.fnOf "road_shares" "road_shares" (defArgs s_road_shares) (defBody s_road_shares) (defScope s_road_shares) .none kV35 dc35 pm35 an35 cd35 ct35), sl35⟩)
    (c35 : PySem.W.codeIn K cd35 "road_shares" = true)
    (k35 : PySem.W.keepIn K (.ref a35x) = true)
    (a36 : PySem.W.nsIn K mainGlobals "_law_told" = some (some (.ref a36x)))
    (l36 : K.lookup a36x = some ⟨oc36, od36, .func (PySem.W.fnOf "_law_told" "_law_told" (defArgs s__law_told) (defBody s__law_told) (defScope s__law_told) .none kV36 dc36 pm36 an36 cd36 ct36), sl36⟩)
    (c36 : PySem.W.codeIn K cd36 "_law_told" = true)
    (k36 : PySem.W.keepIn K (.ref a36x) = true)
    (a37 : PySem.W.nsIn K mainGlobals "_law_tied" = some (some (.ref a37x)))
    (l37 : K.lookup a37x = some ⟨oc37, od37, .func (PySem.W.fnOf "_law_tied" "_law_tied" (defArgs s__law_tied) (defBody s__law_tied) (defScope s__law_tied) .none kV37 dc37 pm37 an37 cd37 ct37), sl37⟩)
    (c37 : PySem.W.codeIn K cd37 "_law_tied" = true)
    (k37 : PySem.W.keepIn K (.ref a37x) = true)
    (a38 : PySem.W.nsIn K mainGlobals "_law_side" = some (some (.ref a38x)))
    (l38 : K.lookup a38x = some ⟨oc38, od38, .func (PySem.W.fnOf "_law_side" "_law_side" (defArgs s__law_side) (defBody s__law_side) (defScope s__law_side) .none kV38 dc38 pm38 an38 cd38 ct38), sl38⟩)
    (c38 : PySem.W.codeIn K cd38 "_law_side" = true)
    (k38 : PySem.W.keepIn K (.ref a38x) = true)
    (a39 : PySem.W.nsIn K mainGlobals "_law_states" = some (some (.ref a39x)))
    (l39 : K.lookup a39x = some ⟨oc39, od39, .func (PySem.W.fnOf "_law_states" "_law_states" (defArgs s__law_states) (defBody s__law_states) (defScope s__law_states) .none kV39 dc39 pm39 an39 cd39 ct39), sl39⟩)
    (c39 : PySem.W.codeIn K cd39 "_law_states" = true)
    (k39 : PySem.W.keepIn K (.ref a39x) = true)
    (a40 : PySem.W.nsIn K mainGlobals "_law_share" = some (some (.ref a40x)))
    (l40 : K.lookup a40x = some ⟨oc40, od40, .func (PySem.W.fnOf "_law_share" "_law_share" (defArgs s__law_share) (defBody s__law_share) (defScope s__law_share) .none kV40 dc40 pm40 an40 cd40 ct40), sl40⟩)
    (c40 : PySem.W.codeIn K cd40 "_law_share" = true)
    (k40 : PySem.W.keepIn K (.ref a40x) = true)
    (a41 : PySem.W.nsIn K mainGlobals "_law_due" = some (some (.ref a41x)))
    (l41 : K.lookup a41x = some ⟨oc41, od41, .func (PySem.W.fnOf "_law_due" "_law_due" (defArgs s__law_due) (defBody s__law_due) (defScope s__law_due) .none kV41 dc41 pm41 an41 cd41 ct41), sl41⟩)
    (c41 : PySem.W.codeIn K cd41 "_law_due" = true)
    (k41 : PySem.W.keepIn K (.ref a41x) = true)
    (a42 : PySem.W.nsIn K mainGlobals "_law_right" = some (some (.ref a42x)))
    (l42 : K.lookup a42x = some ⟨oc42, od42, .func (PySem.W.fnOf "_law_right" "_law_right" (defArgs s__law_right) (defBody s__law_right) (defScope s__law_right) .none kV42 dc42 pm42 an42 cd42 ct42), sl42⟩)
    (c42 : PySem.W.codeIn K cd42 "_law_right" = true)
    (k42 : PySem.W.keepIn K (.ref a42x) = true)
    (a43 : PySem.W.nsIn K mainGlobals "_law_pool" = some (some (.ref a43x)))
    (l43 : K.lookup a43x = some ⟨oc43, od43, .func (PySem.W.fnOf "_law_pool" "_law_pool" (defArgs s__law_pool) (defBody s__law_pool) (defScope s__law_pool) .none kV43 dc43 pm43 an43 cd43 ct43), sl43⟩)
    (c43 : PySem.W.codeIn K cd43 "_law_pool" = true)
    (k43 : PySem.W.keepIn K (.ref a43x) = true)
    (a44 : PySem.W.nsIn K mainGlobals "law" = some (some (.ref a44x)))
    (l44 : K.lookup a44x = some ⟨oc44, od44, .func (PySem.W.fnOf "law" "law" (defArgs s_law) (defBody s_law) (defScope s_law) .none kV44 dc44 pm44 an44 cd44 ct44), sl44⟩)
    (c44 : PySem.W.codeIn K cd44 "law" = true)
    (k44 : PySem.W.keepIn K (.ref a44x) = true)
    (b_all : PySem.W.nsIn K mainGlobals "all" = some none)
    (b_bool : PySem.W.nsIn K mainGlobals "bool" = some none)
    (b_enumerate : PySem.W.nsIn K mainGlobals "enumerate" = some none)
    (b_int : PySem.W.nsIn K mainGlobals "int" = some none)
    (b_isinstance : PySem.W.nsIn K mainGlobals "isinstance" = some none)
    (b_len : PySem.W.nsIn K mainGlobals "len" = some none)
    (b_list : PySem.W.nsIn K mainGlobals "list" = some none)
    (b_max : PySem.W.nsIn K mainGlobals "max" = some none)
    (b_min : PySem.W.nsIn K mainGlobals "min" = some none)
    (b_range : PySem.W.nsIn K mainGlobals "range" = some none)
    (b_sorted : PySem.W.nsIn K mainGlobals "sorted" = some none)
    (b_sum : PySem.W.nsIn K mainGlobals "sum" = some none)
    (b_tuple : PySem.W.nsIn K mainGlobals "tuple" = some none)
    (g_LONGEST : PySem.W.nsIn K mainGlobals "LONGEST" = some (some (.int 100 tk_LONGEST)))
    (g_MOST_PLACES : PySem.W.nsIn K mainGlobals "MOST_PLACES" = some (some (.int 10 tk_MOST_PLACES)))
    (g_MOST_POSITIONS : PySem.W.nsIn K mainGlobals "MOST_POSITIONS" = some (some (.int 6 tk_MOST_POSITIONS)))
    (g_SHORTEST : PySem.W.nsIn K mainGlobals "SHORTEST" = some (some (.int 1 tk_SHORTEST)))
    (g_gcd : PySem.W.nsIn K mainGlobals "gcd" = some (some (.builtin "math.gcd")))
    (g_heappop : PySem.W.nsIn K mainGlobals "heappop" = some (some (.builtin "_heapq.heappop")))
    (g_heappush : PySem.W.nsIn K mainGlobals "heappush" = some (some (.builtin "_heapq.heappush")))
    : ∃ fd : FuncData, (∀ (s : Shared) (v : Value), BindsTo s fd ⟨[v], []⟩ [("script", v)]) ∧ ∀ base : Heap, K.In base → base.Ns mainGlobals mg → FnOk PP w K mg base (L2.CX PP w) 8 fa fd ["script"] (spL K) := by
  have e := hfa.symm.trans (PySem.W.mg_of X Ns a44)
  cases e
  let A : ZA := { refI := fI, dRefI := PySem.W.fnOf "__init__" "Refused.__init__" (defArgs s_refI) (defBody s_refI) (defScope s_refI) .none kVI dcI pmI anI cdI ctI, a__law_take := a0x, d__law_take := PySem.W.fnOf "_law_take" "_law_take" (defArgs s__law_take) (defBody s__law_take) (defScope s__law_take) .none kV0 dc0 pm0 an0 cd0 ct0, a__law_one := a1x, d__law_one := PySem.W.fnOf "_law_one" "_law_one" (defArgs s__law_one) (defBody s__law_one) (defScope s__law_one) .none kV1 dc1 pm1 an1 cd1 ct1, a__law_tree_roads := a2x, d__law_tree_roads := PySem.W.fnOf "_law_tree_roads" "_law_tree_roads" (defArgs s__law_tree_roads) (defBody s__law_tree_roads) (defScope s__law_tree_roads) .none kV2 dc2 pm2 an2 cd2 ct2, a__law_web := a3x, d__law_web := PySem.W.fnOf "_law_web" "_law_web" (defArgs s__law_web) (defBody s__law_web) (defScope s__law_web) .none kV3 dc3 pm3 an3 cd3 ct3, a__law_land := a4x, d__law_land := PySem.W.fnOf "_law_land" "_law_land" (defArgs s__law_land) (defBody s__law_land) (defScope s__law_land) .none kV4 dc4 pm4 an4 cd4 ct4, a__law_states_many := a5x, d__law_states_many := PySem.W.fnOf "_law_states_many" "_law_states_many" (defArgs s__law_states_many) (defBody s__law_states_many) (defScope s__law_states_many) .none kV5 dc5 pm5 an5 cd5 ct5, a__law_small := a6x, d__law_small := PySem.W.fnOf "_law_small" "_law_small" (defArgs s__law_small) (defBody s__law_small) (defScope s__law_small) .none kV6 dc6 pm6 an6 cd6 ct6, a__law_row := a7x, d__law_row := PySem.W.fnOf "_law_row" "_law_row" (defArgs s__law_row) (defBody s__law_row) (defScope s__law_row) .none kV7 dc7 pm7 an7 cd7 ct7, a__law_state := a8x, d__law_state := PySem.W.fnOf "_law_state" "_law_state" (defArgs s__law_state) (defBody s__law_state) (defScope s__law_state) .none kV8 dc8 pm8 an8 cd8 ct8, a_is_number := a9x, d_is_number := PySem.W.fnOf "is_number" "is_number" (defArgs s_is_number) (defBody s_is_number) (defScope s_is_number) .none kV9 dc9 pm9 an9 cd9 ct9, a__is_road := a10x, d__is_road := PySem.W.fnOf "_is_road" "_is_road" (defArgs s__is_road) (defBody s__is_road) (defScope s__is_road) .none kV10 dc10 pm10 an10 cd10 ct10, a_is_length := a11x, d_is_length := PySem.W.fnOf "is_length" "is_length" (defArgs s_is_length) (defBody s_is_length) (defScope s_is_length) .none kV11 dc11 pm11 an11 cd11 ct11, a_check_roads := a12x, d_check_roads := PySem.W.fnOf "check_roads" "check_roads" (defArgs s_check_roads) (defBody s_check_roads) (defScope s_check_roads) .none kV12 dc12 pm12 an12 cd12 ct12, a_tied := a13x, d_tied := PySem.W.fnOf "tied" "tied" (defArgs s_tied) (defBody s_tied) (defScope s_tied) .none kV13 dc13 pm13 an13 cd13 ct13, a_lengths_from := a14x, d_lengths_from := PySem.W.fnOf "lengths_from" "lengths_from" (defArgs s_lengths_from) (defBody s_lengths_from) (defScope s_lengths_from) .none kV14 dc14 pm14 an14 cd14 ct14, a_check_together := a15x, d_check_together := PySem.W.fnOf "check_together" "check_together" (defArgs s_check_together) (defBody s_check_together) (defScope s_check_together) .none kV15 dc15 pm15 an15 cd15 ct15, a__check_lamps := a16x, d__check_lamps := PySem.W.fnOf "_check_lamps" "_check_lamps" (defArgs s__check_lamps) (defBody s__check_lamps) (defScope s__check_lamps) .none kV16 dc16 pm16 an16 cd16 ct16, a_Land_init := a17x, d_Land_init := PySem.W.fnOf "__init__" "Land.__init__" (defArgs s_Land_init) (defBody s_Land_init) (defScope s_Land_init) .none kV17 dc17 pm17 an17 cd17 ct17, a_made_land := a18x, d_made_land := PySem.W.fnOf "made_land" "made_land" (defArgs s_made_land) (defBody s_made_land) (defScope s_made_land) .none kV18 dc18 pm18 an18 cd18 ct18, a_check_size := a19x, d_check_size := PySem.W.fnOf "check_size" "check_size" (defArgs s_check_size) (defBody s_check_size) (defScope s_check_size) .none kV19 dc19 pm19 an19 cd19 ct19, a_Web_init := a20x, d_Web_init := PySem.W.fnOf "__init__" "Web.__init__" (defArgs s_Web_init) (defBody s_Web_init) (defScope s_Web_init) .none kV20 dc20 pm20 an20 cd20 ct20, a_made_web := a21x, d_made_web := PySem.W.fnOf "made_web" "made_web" (defArgs s_made_web) (defBody s_made_web) (defScope s_made_web) .none kV21 dc21 pm21 an21 cd21 ct21, a__law_made := a22x, d__law_made := PySem.W.fnOf "_law_made" "_law_made" (defArgs s__law_made) (defBody s__law_made) (defScope s__law_made) .none kV22 dc22 pm22 an22 cd22 ct22, a_is_tree := a23x, d_is_tree := PySem.W.fnOf "is_tree" "is_tree" (defArgs s_is_tree) (defBody s_is_tree) (defScope s_is_tree) .none kV23 dc23 pm23 an23 cd23 ct23, a_check_tree := a24x, d_check_tree := PySem.W.fnOf "check_tree" "check_tree" (defArgs s_check_tree) (defBody s_check_tree) (defScope s_check_tree) .none kV24 dc24 pm24 an24 cd24 ct24, a_check_place := a25x, d_check_place := PySem.W.fnOf "check_place" "check_place" (defArgs s_check_place) (defBody s_check_place) (defScope s_check_place) .none kV25 dc25 pm25 an25 cd25 ct25, a_check_row := a26x, d_check_row := PySem.W.fnOf "check_row" "check_row" (defArgs s_check_row) (defBody s_check_row) (defScope s_check_row) .none kV26 dc26 pm26 an26 cd26 ct26, a_check_state := a27x, d_check_state := PySem.W.fnOf "check_state" "check_state" (defArgs s_check_state) (defBody s_check_state) (defScope s_check_state) .none kV27 dc27 pm27 an27 cd27 ct27, a_check_road := a28x, d_check_road := PySem.W.fnOf "check_road" "check_road" (defArgs s_check_road) (defBody s_check_road) (defScope s_check_road) .none kV28 dc28 pm28 an28 cd28 ct28, a_share := a29x, d_share := PySem.W.fnOf "share" "share" (defArgs s_share) (defBody s_share) (defScope s_share) .none kV29 dc29 pm29 an29 cd29 ct29, a__shares := a30x, d__shares := PySem.W.fnOf "_shares" "_shares" (defArgs s__shares) (defBody s__shares) (defScope s__shares) .none kV30 dc30 pm30 an30 cd30 ct30, a_parted := a31x, d_parted := PySem.W.fnOf "parted" "parted" (defArgs s_parted) (defBody s_parted) (defScope s_parted) .none kV31 dc31 pm31 an31 cd31 ct31, a_rows_many := a32x, d_rows_many := PySem.W.fnOf "rows_many" "rows_many" (defArgs s_rows_many) (defBody s_rows_many) (defScope s_rows_many) .none kV32 dc32 pm32 an32 cd32 ct32, a_states_many := a33x, d_states_many := PySem.W.fnOf "states_many" "states_many" (defArgs s_states_many) (defBody s_states_many) (defScope s_states_many) .none kV33 dc33 pm33 an33 cd33 ct33, a_crossing_counts := a34x, d_crossing_counts := PySem.W.fnOf "crossing_counts" "crossing_counts" (defArgs s_crossing_counts) (defBody s_crossing_counts) (defScope s_crossing_counts) .none kV34 dc34 pm34 an34 cd34 ct34, a_road_shares := a35x, d_road_shares := PySem.W.fnOf "road_shares" "road_shares" (defArgs s_road_shares) (defBody s_road_shares) (defScope s_road_shares) .none kV35 dc35 pm35 an35 cd35 ct35, a__law_told := a36x, d__law_told := PySem.W.fnOf "_law_told" "_law_told" (defArgs s__law_told) (defBody s__law_told) (defScope s__law_told) .none kV36 dc36 pm36 an36 cd36 ct36, a__law_tied := a37x, d__law_tied := PySem.W.fnOf "_law_tied" "_law_tied" (defArgs s__law_tied) (defBody s__law_tied) (defScope s__law_tied) .none kV37 dc37 pm37 an37 cd37 ct37, a__law_side := a38x, d__law_side := PySem.W.fnOf "_law_side" "_law_side" (defArgs s__law_side) (defBody s__law_side) (defScope s__law_side) .none kV38 dc38 pm38 an38 cd38 ct38, a__law_states := a39x, d__law_states := PySem.W.fnOf "_law_states" "_law_states" (defArgs s__law_states) (defBody s__law_states) (defScope s__law_states) .none kV39 dc39 pm39 an39 cd39 ct39, a__law_share := a40x, d__law_share := PySem.W.fnOf "_law_share" "_law_share" (defArgs s__law_share) (defBody s__law_share) (defScope s__law_share) .none kV40 dc40 pm40 an40 cd40 ct40, a__law_due := a41x, d__law_due := PySem.W.fnOf "_law_due" "_law_due" (defArgs s__law_due) (defBody s__law_due) (defScope s__law_due) .none kV41 dc41 pm41 an41 cd41 ct41, a__law_right := a42x, d__law_right := PySem.W.fnOf "_law_right" "_law_right" (defArgs s__law_right) (defBody s__law_right) (defScope s__law_right) .none kV42 dc42 pm42 an42 cd42 ct42, a__law_pool := a43x, d__law_pool := PySem.W.fnOf "_law_pool" "_law_pool" (defArgs s__law_pool) (defBody s__law_pool) (defScope s__law_pool) .none kV43 dc43 pm43 an43 cd43 ct43, a_law := fa, d_law := PySem.W.fnOf "law" "law" (defArgs s_law) (defBody s_law) (defScope s_law) .none kV44 dc44 pm44 an44 cd44 ct44 }
  have Zz : Z mg (genv K C0 C1 C2 C3 C4 C5 C6 C7 C9 C14 C22 C23) A :=
    { m_Refused := PySem.W.mg_of X Ns aC0
      m_BadSize := PySem.W.mg_of X Ns aC1
      m_BadRoad := PySem.W.mg_of X Ns aC2
      m_Parted := PySem.W.mg_of X Ns aC3
      m_BadLength := PySem.W.mg_of X Ns aC4
      m_BadLamp := PySem.W.mg_of X Ns aC5
      m_BadPlace := PySem.W.mg_of X Ns aC6
      m_BadState := PySem.W.mg_of X Ns aC7
      m_BadCount := PySem.W.mg_of X Ns aC9
      m_NotTree := PySem.W.mg_of X Ns aC14
      m_Web := PySem.W.mg_of X Ns aC22
      m_Land := PySem.W.mg_of X Ns aC23
      tI := tI
      F_refI := fun_mk (st := s_refI) lI cI kI
      r_BadCount := ⟨⟨⟨nm9, q9, N9, bs9, _, sn9, sub9, ab9, col9, dd9, m09, m19, m29, m39, m59, x9, rfl⟩, sa9, eC9, tC9, kC9⟩, ii9, no9⟩
      r_BadLamp := ⟨⟨⟨nm5, q5, N5, bs5, _, sn5, sub5, ab5, col5, dd5, m05, m15, m25, m35, m55, x5, rfl⟩, sa5, eC5, tC5, kC5⟩, ii5, no5⟩
      r_BadLength := ⟨⟨⟨nm4, q4, N4, bs4, _, sn4, sub4, ab4, col4, dd4, m04, m14, m24, m34, m54, x4, rfl⟩, sa4, eC4, tC4, kC4⟩, ii4, no4⟩
      r_BadPlace := ⟨⟨⟨nm6, q6, N6, bs6, _, sn6, sub6, ab6, col6, dd6, m06, m16, m26, m36, m56, x6, rfl⟩, sa6, eC6, tC6, kC6⟩, ii6, no6⟩
      r_BadRoad := ⟨⟨⟨nm2, q2, N2, bs2, _, sn2, sub2, ab2, col2, dd2, m02, m12, m22, m32, m52, x2, rfl⟩, sa2, eC2, tC2, kC2⟩, ii2, no2⟩
      r_BadSize := ⟨⟨⟨nm1, q1, N1, bs1, _, sn1, sub1, ab1, col1, dd1, m01, m11, m21, m31, m51, x1, rfl⟩, sa1, eC1, tC1, kC1⟩, ii1, no1⟩
      r_BadState := ⟨⟨⟨nm7, q7, N7, bs7, _, sn7, sub7, ab7, col7, dd7, m07, m17, m27, m37, m57, x7, rfl⟩, sa7, eC7, tC7, kC7⟩, ii7, no7⟩
      r_NotTree := ⟨⟨⟨nm14, q14, N14, bs14, _, sn14, sub14, ab14, col14, dd14, m014, m114, m214, m314, m514, x14, rfl⟩, sa14, eC14, tC14, kC14⟩, ii14, no14⟩
      r_Parted := ⟨⟨⟨nm3, q3, N3, bs3, _, sn3, sub3, ab3, col3, dd3, m03, m13, m23, m33, m53, x3, rfl⟩, sa3, eC3, tC3, kC3⟩, ii3, no3⟩
      F__law_take := fun_mk (st := s__law_take) l0 c0 k0
      m__law_take := PySem.W.mg_of X Ns a0
      F__law_one := fun_mk (st := s__law_one) l1 c1 k1
      m__law_one := PySem.W.mg_of X Ns a1
      F__law_tree_roads := fun_mk (st := s__law_tree_roads) l2 c2 k2
      m__law_tree_roads := PySem.W.mg_of X Ns a2
      F__law_web := fun_mk (st := s__law_web) l3 c3 k3
      m__law_web := PySem.W.mg_of X Ns a3
      F__law_land := fun_mk (st := s__law_land) l4 c4 k4
      m__law_land := PySem.W.mg_of X Ns a4
      F__law_states_many := fun_mk (st := s__law_states_many) l5 c5 k5
      m__law_states_many := PySem.W.mg_of X Ns a5
      F__law_small := fun_mk (st := s__law_small) l6 c6 k6
      m__law_small := PySem.W.mg_of X Ns a6
      F__law_row := fun_mk (st := s__law_row) l7 c7 k7
      m__law_row := PySem.W.mg_of X Ns a7
      F__law_state := fun_mk (st := s__law_state) l8 c8 k8
      m__law_state := PySem.W.mg_of X Ns a8
      F_is_number := fun_mk (st := s_is_number) l9 c9 k9
      m_is_number := PySem.W.mg_of X Ns a9
      F__is_road := fun_mk (st := s__is_road) l10 c10 k10
      m__is_road := PySem.W.mg_of X Ns a10
      F_is_length := fun_mk (st := s_is_length) l11 c11 k11
      m_is_length := PySem.W.mg_of X Ns a11
      F_check_roads := fun_mk (st := s_check_roads) l12 c12 k12
      m_check_roads := PySem.W.mg_of X Ns a12
      F_tied := fun_mk (st := s_tied) l13 c13 k13
      m_tied := PySem.W.mg_of X Ns a13
      F_lengths_from := fun_mk (st := s_lengths_from) l14 c14 k14
      m_lengths_from := PySem.W.mg_of X Ns a14
      F_check_together := fun_mk (st := s_check_together) l15 c15 k15
      m_check_together := PySem.W.mg_of X Ns a15
      F__check_lamps := fun_mk (st := s__check_lamps) l16 c16 k16
      m__check_lamps := PySem.W.mg_of X Ns a16
      F_Land_init := fun_mk (st := s_Land_init) l17 c17 k17
      mk_Land := ⟨mk23, a17, i17, kc23⟩
      F_made_land := fun_mk (st := s_made_land) l18 c18 k18
      m_made_land := PySem.W.mg_of X Ns a18
      F_check_size := fun_mk (st := s_check_size) l19 c19 k19
      m_check_size := PySem.W.mg_of X Ns a19
      F_Web_init := fun_mk (st := s_Web_init) l20 c20 k20
      mk_Web := ⟨mk22, a20, i20, kc22⟩
      F_made_web := fun_mk (st := s_made_web) l21 c21 k21
      m_made_web := PySem.W.mg_of X Ns a21
      F__law_made := fun_mk (st := s__law_made) l22 c22 k22
      m__law_made := PySem.W.mg_of X Ns a22
      F_is_tree := fun_mk (st := s_is_tree) l23 c23 k23
      m_is_tree := PySem.W.mg_of X Ns a23
      F_check_tree := fun_mk (st := s_check_tree) l24 c24 k24
      m_check_tree := PySem.W.mg_of X Ns a24
      F_check_place := fun_mk (st := s_check_place) l25 c25 k25
      m_check_place := PySem.W.mg_of X Ns a25
      F_check_row := fun_mk (st := s_check_row) l26 c26 k26
      m_check_row := PySem.W.mg_of X Ns a26
      F_check_state := fun_mk (st := s_check_state) l27 c27 k27
      m_check_state := PySem.W.mg_of X Ns a27
      F_check_road := fun_mk (st := s_check_road) l28 c28 k28
      m_check_road := PySem.W.mg_of X Ns a28
      F_share := fun_mk (st := s_share) l29 c29 k29
      m_share := PySem.W.mg_of X Ns a29
      F__shares := fun_mk (st := s__shares) l30 c30 k30
      m__shares := PySem.W.mg_of X Ns a30
      F_parted := fun_mk (st := s_parted) l31 c31 k31
      m_parted := PySem.W.mg_of X Ns a31
      F_rows_many := fun_mk (st := s_rows_many) l32 c32 k32
      m_rows_many := PySem.W.mg_of X Ns a32
      F_states_many := fun_mk (st := s_states_many) l33 c33 k33
      m_states_many := PySem.W.mg_of X Ns a33
      F_crossing_counts := fun_mk (st := s_crossing_counts) l34 c34 k34
      m_crossing_counts := PySem.W.mg_of X Ns a34
      F_road_shares := fun_mk (st := s_road_shares) l35 c35 k35
      m_road_shares := PySem.W.mg_of X Ns a35
      F__law_told := fun_mk (st := s__law_told) l36 c36 k36
      m__law_told := PySem.W.mg_of X Ns a36
      F__law_tied := fun_mk (st := s__law_tied) l37 c37 k37
      m__law_tied := PySem.W.mg_of X Ns a37
      F__law_side := fun_mk (st := s__law_side) l38 c38 k38
      m__law_side := PySem.W.mg_of X Ns a38
      F__law_states := fun_mk (st := s__law_states) l39 c39 k39
      m__law_states := PySem.W.mg_of X Ns a39
      F__law_share := fun_mk (st := s__law_share) l40 c40 k40
      m__law_share := PySem.W.mg_of X Ns a40
      F__law_due := fun_mk (st := s__law_due) l41 c41 k41
      m__law_due := PySem.W.mg_of X Ns a41
      F__law_right := fun_mk (st := s__law_right) l42 c42 k42
      m__law_right := PySem.W.mg_of X Ns a42
      F__law_pool := fun_mk (st := s__law_pool) l43 c43 k43
      m__law_pool := PySem.W.mg_of X Ns a43
      F_law := fun_mk (st := s_law) l44 c44 k44
      m_law := PySem.W.mg_of X Ns a44
      b_all := PySem.W.mg_none_of X Ns b_all
      b_bool := PySem.W.mg_none_of X Ns b_bool
      b_enumerate := PySem.W.mg_none_of X Ns b_enumerate
      b_int := PySem.W.mg_none_of X Ns b_int
      b_isinstance := PySem.W.mg_none_of X Ns b_isinstance
      b_len := PySem.W.mg_none_of X Ns b_len
      b_list := PySem.W.mg_none_of X Ns b_list
      b_max := PySem.W.mg_none_of X Ns b_max
      b_min := PySem.W.mg_none_of X Ns b_min
      b_range := PySem.W.mg_none_of X Ns b_range
      b_sorted := PySem.W.mg_none_of X Ns b_sorted
      b_sum := PySem.W.mg_none_of X Ns b_sum
      b_tuple := PySem.W.mg_none_of X Ns b_tuple
      m_LONGEST := ⟨_, PySem.W.mg_of X Ns g_LONGEST⟩
      m_MOST_PLACES := ⟨_, PySem.W.mg_of X Ns g_MOST_PLACES⟩
      m_MOST_POSITIONS := ⟨_, PySem.W.mg_of X Ns g_MOST_POSITIONS⟩
      m_SHORTEST := ⟨_, PySem.W.mg_of X Ns g_SHORTEST⟩
      m_gcd := PySem.W.mg_of X Ns g_gcd
      m_heappop := PySem.W.mg_of X Ns g_heappop
      m_heappush := PySem.W.mg_of X Ns g_heappush
      n_lamps := fun C h => by
        rcases h with rfl | rfl
        · exact ⟨⟨pg22, hd22, po22, sa22⟩, n22_lamps⟩
        · exact ⟨⟨pg23, hd23, po23, sa23⟩, n23_lamps⟩
      n_many := fun C h => by
        rcases h with rfl | rfl
        · exact ⟨⟨pg22, hd22, po22, sa22⟩, n22_many⟩
        · exact ⟨⟨pg23, hd23, po23, sa23⟩, n23_many⟩
      n_roads := fun C h => by
        rcases h with rfl | rfl
        · exact ⟨⟨pg22, hd22, po22, sa22⟩, n22_roads⟩
        · exact ⟨⟨pg23, hd23, po23, sa23⟩, n23_roads⟩
      isCls := fun C h => by
        rcases h with rfl | rfl
        · exact ⟨⟨pg22, hd22, po22, sa22⟩, ha22, hn22, ht22, hm22, kit_self⟩
        · exact ⟨⟨pg23, hd23, po23, sa23⟩, ha23, hn23, ht23, hm23, kit_self⟩
      isExc := fun C h => by
        rcases h with rfl | rfl | rfl | rfl
        · exact ⟨⟨ga6, gg6, eC6, hd6⟩, no6⟩
        · exact ⟨⟨ga7, gg7, eC7, hd7⟩, no7⟩
        · exact ⟨⟨ga0, gg0, eC0, hd0⟩, no0⟩
        · exact ⟨⟨ga2, gg2, eC2, hd2⟩, no2⟩
      isErr := fun C h => by
        rcases h with rfl | rfl | rfl | rfl
        · exact ⟨ga6, gg6, eC6, hd6, ha6, hn6, ht6, hm6⟩
        · exact ⟨ga7, gg7, eC7, hd7, ha7, hn7, ht7, hm7⟩
        · exact ⟨ga0, gg0, eC0, hd0, ha0, hn0, ht0, hm0⟩
        · exact ⟨ga2, gg2, eC2, hd2, ha2, hn2, ht2, hm2⟩ }
  have GFz : GF (genv K C0 C1 C2 C3 C4 C5 C6 C7 C9 C14 C22 C23) := { tt := by kernel_rfl, it := by kernel_rfl, st := by kernel_rfl, ii := by kernel_rfl, ib := by kernel_rfl, si := by kernel_rfl, ti := by kernel_rfl, ww := kit_self, cw := .inl rfl, cl := .inr rfl, e66 := PySem.W.exm_ref eC6 hd6 tC6 su6_6, e76 := PySem.W.exm_ref eC6 hd6 tC6 su7_6, e77 := PySem.W.exm_ref eC7 hd7 tC7 su7_7, x6 := .inl rfl, x7 := .inr (.inl rfl) }
  have GEz : GR (genv K C0 C1 C2 C3 C4 C5 C6 C7 C9 C14 C22 C23) := { e60 := PySem.W.exm_ref eC0 hd0 tC0 su6_0, e20 := PySem.W.exm_ref eC0 hd0 tC0 su2_0, x2 := .inr (.inr (.inr rfl)), x6 := .inl rfl, k66 := kit_self, k22 := kit_self, k62 := kit_no hd2 tC2 su6_6 su6_2, k26 := kit_no hd6 tC6 su2_2 su2_6 }
  exact ⟨A.d_law, fun s v => .of_eq rfl, fun base _ _ => ok_end (ok_law (w := w) (base := base) Zz) fun ns M Q R hl k => law_read GFz GEz hl k⟩
end LW

set_option Elab.async false

open PySem PySem.W PyProof.Rows in
set_option maxRecDepth 100000 in
set_option maxHeartbeats 0 in
theorem PySem.Challenge.cw_lampwalks_k42_how_often_a_road_is_crosse_holds : PySem.Challenge.rw_lampwalks_k42_how_often_a_road_is_crosse.Holds := by
  w_on; o_law; k_head; (case hw => w_witness2)
  k_fill
  refine L2.walk_of (l := PySem.Challenge.rw_lampwalks_k42_how_often_a_road_is_crosse) (n := 63) (k := 8) (x := "script") (CX := fun w => L2.CX LW.PP w) (sp := fun w => LW.spL _) rfl (by decide) rfl ⟨rfl, by decide, by decide⟩ (fun w h Y => PySem.W.kIn_of Y) ?F (fun w H a ns hl hO hS => ⟨a, ns, rfl, hO, hS, hl, fun _ => rfl⟩) (fun w H s e s' ⟨_, _, _, _, _, _, _, _, _, _, _, _, z⟩ => z)
  case F =>
    intro w mg fa h KX Ns hmg
    refine' LW.all_mk KX Ns hmg ?aC0 ?aC1 ?aC2 ?aC3 ?aC4 ?aC5 ?aC6 ?aC7 ?aC9 ?aC14 ?aC22 ?aC23 ?aI ?lI ?cI ?kI ?tI ?eC9 ?tC9 ?eC5 ?tC5 ?eC4 ?tC4 ?eC6 ?tC6 ?eC2 ?tC2 ?eC1 ?tC1 ?eC7 ?tC7 ?eC14 ?tC14 ?eC3 ?tC3 ?eC0 ?tC0 ?x9 ?sa9 ?kC9 ?ii9 ?no9 ?x5 ?sa5 ?kC5 ?ii5 ?no5 ?x4 ?sa4 ?kC4 ?ii4 ?no4 ?x6 ?sa6 ?kC6 ?ii6 ?no6 ?x2 ?sa2 ?kC2 ?ii2 ?no2 ?x1 ?sa1 ?kC1 ?ii1 ?no1 ?x7 ?sa7 ?kC7 ?ii7 ?no7 ?x14 ?sa14 ?kC14 ?ii14 ?no14 ?x3 ?sa3 ?kC3 ?ii3 ?no3 ?ga6 ?gg6 ?hd6 ?ha6 ?hn6 ?ht6 ?hm6 ?ga7 ?gg7 ?hd7 ?ha7 ?hn7 ?ht7 ?hm7 ?ga0 ?gg0 ?hd0 ?no0 ?ha0 ?hn0 ?ht0 ?hm0 ?ga2 ?gg2 ?hd2 ?ha2 ?hn2 ?ht2 ?hm2 ?su6_6 ?su7_6 ?su7_7 ?su6_0 ?su2_0 ?su2_2 ?su6_2 ?su2_6 ?pg22 ?hd22 ?po22 ?sa22 ?mk22 ?kc22 ?ha22 ?hn22 ?ht22 ?hm22 ?n22_lamps ?n22_many ?n22_roads ?pg23 ?hd23 ?po23 ?sa23 ?mk23 ?kc23 ?ha23 ?hn23 ?ht23 ?hm23 ?n23_lamps ?n23_many ?n23_roads ?a0 ?l0 ?c0 ?k0 ?a1 ?l1 ?c1 ?k1 ?a2 ?l2 ?c2 ?k2 ?a3 ?l3 ?c3 ?k3 ?a4 ?l4 ?c4 ?k4 ?a5 ?l5 ?c5 ?k5 ?a6 ?l6 ?c6 ?k6 ?a7 ?l7 ?c7 ?k7 ?a8 ?l8 ?c8 ?k8 ?a9 ?l9 ?c9 ?k9 ?a10 ?l10 ?c10 ?k10 ?a11 ?l11 ?c11 ?k11 ?a12 ?l12 ?c12 ?k12 ?a13 ?l13 ?c13 ?k13 ?a14 ?l14 ?c14 ?k14 ?a15 ?l15 ?c15 ?k15 ?a16 ?l16 ?c16 ?k16 ?a17 ?i17 ?l17 ?c17 ?k17 ?a18 ?l18 ?c18 ?k18 ?a19 ?l19 ?c19 ?k19 ?a20 ?i20 ?l20 ?c20 ?k20 ?a21 ?l21 ?c21 ?k21 ?a22 ?l22 ?c22 ?k22 ?a23 ?l23 ?c23 ?k23 ?a24 ?l24 ?c24 ?k24 ?a25 ?l25 ?c25 ?k25 ?a26 ?l26 ?c26 ?k26 ?a27 ?l27 ?c27 ?k27 ?a28 ?l28 ?c28 ?k28 ?a29 ?l29 ?c29 ?k29 ?a30 ?l30 ?c30 ?k30 ?a31 ?l31 ?c31 ?k31 ?a32 ?l32 ?c32 ?k32 ?a33 ?l33 ?c33 ?k33 ?a34 ?l34 ?c34 ?k34 ?a35 ?l35 ?c35 ?k35 ?a36 ?l36 ?c36 ?k36 ?a37 ?l37 ?c37 ?k37 ?a38 ?l38 ?c38 ?k38 ?a39 ?l39 ?c39 ?k39 ?a40 ?l40 ?c40 ?k40 ?a41 ?l41 ?c41 ?k41 ?a42 ?l42 ?c42 ?k42 ?a43 ?l43 ?c43 ?k43 ?a44 ?l44 ?c44 ?k44 ?b_all ?b_bool ?b_enumerate ?b_int ?b_isinstance ?b_len ?b_list ?b_max ?b_min ?b_range ?b_sorted ?b_sum ?b_tuple ?g_LONGEST ?g_MOST_PLACES ?g_MOST_POSITIONS ?g_SHORTEST ?g_gcd ?g_heappop ?g_heappush
    (case aC0 => k_is)
    (case aC1 => k_is)
    (case aC2 => k_is)
    (case aC3 => k_is)
    (case aC4 => k_is)
    (case aC5 => k_is)
    (case aC6 => k_is)
    (case aC7 => k_is)
    (case aC9 => k_is)
    (case aC14 => k_is)
    (case aC22 => k_is)
    (case aC23 => k_is)
    (case aI => k_is)
    (case lI => k_is)
    (case cI => k_is)
    (case kI => k_is)
    (case tI => k_is)
    (case eC9 => k_is)
    (case tC9 => k_is)
    (case eC5 => k_is)
    (case tC5 => k_is)
    (case eC4 => k_is)
    (case tC4 => k_is)
    (case eC6 => k_is)
    (case tC6 => k_is)
    (case eC2 => k_is)
    (case tC2 => k_is)
    (case eC1 => k_is)
    (case tC1 => k_is)
    (case eC7 => k_is)
    (case tC7 => k_is)
    (case eC14 => k_is)
    (case tC14 => k_is)
    (case eC3 => k_is)
    (case tC3 => k_is)
    (case eC0 => k_is)
    (case tC0 => k_is)
    (case x9 => k_is)
    (case sa9 => k_is)
    (case kC9 => k_is)
    (case ii9 => k_is)
    (case no9 => k_is)
    (case x5 => k_is)
    (case sa5 => k_is)
    (case kC5 => k_is)
    (case ii5 => k_is)
    (case no5 => k_is)
    (case x4 => k_is)
    (case sa4 => k_is)
    (case kC4 => k_is)
    (case ii4 => k_is)
    (case no4 => k_is)
    (case x6 => k_is)
    (case sa6 => k_is)
    (case kC6 => k_is)
    (case ii6 => k_is)
    (case no6 => k_is)
    (case x2 => k_is)
    (case sa2 => k_is)
    (case kC2 => k_is)
    (case ii2 => k_is)
    (case no2 => k_is)
    (case x1 => k_is)
    (case sa1 => k_is)
    (case kC1 => k_is)
    (case ii1 => k_is)
    (case no1 => k_is)
    (case x7 => k_is)
    (case sa7 => k_is)
    (case kC7 => k_is)
    (case ii7 => k_is)
    (case no7 => k_is)
    (case x14 => k_is)
    (case sa14 => k_is)
    (case kC14 => k_is)
    (case ii14 => k_is)
    (case no14 => k_is)
    (case x3 => k_is)
    (case sa3 => k_is)
    (case kC3 => k_is)
    (case ii3 => k_is)
    (case no3 => k_is)
    (case ga6 => k_is)
    (case gg6 => k_is)
    (case hd6 => k_is)
    (case ha6 => k_is)
    (case hn6 => k_is)
    (case ht6 => k_is)
    (case hm6 => k_is)
    (case ga7 => k_is)
    (case gg7 => k_is)
    (case hd7 => k_is)
    (case ha7 => k_is)
    (case hn7 => k_is)
    (case ht7 => k_is)
    (case hm7 => k_is)
    (case ga0 => k_is)
    (case gg0 => k_is)
    (case hd0 => k_is)
    (case no0 => k_is)
    (case ha0 => k_is)
    (case hn0 => k_is)
    (case ht0 => k_is)
    (case hm0 => k_is)
    (case ga2 => k_is)
    (case gg2 => k_is)
    (case hd2 => k_is)
    (case ha2 => k_is)
    (case hn2 => k_is)
    (case ht2 => k_is)
    (case hm2 => k_is)
    (case su6_6 => k_is)
    (case su7_6 => k_is)
    (case su7_7 => k_is)
    (case su6_0 => k_is)
    (case su2_0 => k_is)
    (case su2_2 => k_is)
    (case su6_2 => k_is)
    (case su2_6 => k_is)
    (case pg22 => k_is)
    (case hd22 => k_is)
    (case po22 => k_is)
    (case sa22 => k_is)
    (case mk22 => k_is)
    (case kc22 => k_is)
    (case ha22 => k_is)
    (case hn22 => k_is)
    (case ht22 => k_is)
    (case hm22 => k_is)
    (case n22_lamps => k_is)
    (case n22_many => k_is)
    (case n22_roads => k_is)
    (case pg23 => k_is)
    (case hd23 => k_is)
    (case po23 => k_is)
    (case sa23 => k_is)
    (case mk23 => k_is)
    (case kc23 => k_is)
    (case ha23 => k_is)
    (case hn23 => k_is)
    (case ht23 => k_is)
    (case hm23 => k_is)
    (case n23_lamps => k_is)
    (case n23_many => k_is)
    (case n23_roads => k_is)
    (case a0 => k_is)
    (case l0 => k_is)
    (case c0 => k_is)
    (case k0 => k_is)
    (case a1 => k_is)
    (case l1 => k_is)
    (case c1 => k_is)
    (case k1 => k_is)
    (case a2 => k_is)
    (case l2 => k_is)
    (case c2 => k_is)
    (case k2 => k_is)
    (case a3 => k_is)
    (case l3 => k_is)
    (case c3 => k_is)
    (case k3 => k_is)
    (case a4 => k_is)
    (case l4 => k_is)
    (case c4 => k_is)
    (case k4 => k_is)
    (case a5 => k_is)
    (case l5 => k_is)
    (case c5 => k_is)
    (case k5 => k_is)
    (case a6 => k_is)
    (case l6 => k_is)
    (case c6 => k_is)
    (case k6 => k_is)
    (case a7 => k_is)
    (case l7 => k_is)
    (case c7 => k_is)
    (case k7 => k_is)
    (case a8 => k_is)
    (case l8 => k_is)
    (case c8 => k_is)
    (case k8 => k_is)
    (case a9 => k_is)
    (case l9 => k_is)
    (case c9 => k_is)
    (case k9 => k_is)
    (case a10 => k_is)
    (case l10 => k_is)
    (case c10 => k_is)
    (case k10 => k_is)
    (case a11 => k_is)
    (case l11 => k_is)
    (case c11 => k_is)
    (case k11 => k_is)
    (case a12 => k_is)
    (case l12 => k_is)
    (case c12 => k_is)
    (case k12 => k_is)
    (case a13 => k_is)
    (case l13 => k_is)
    (case c13 => k_is)
    (case k13 => k_is)
    (case a14 => k_is)
    (case l14 => k_is)
    (case c14 => k_is)
    (case k14 => k_is)
    (case a15 => k_is)
    (case l15 => k_is)
    (case c15 => k_is)
    (case k15 => k_is)
    (case a16 => k_is)
    (case l16 => k_is)
    (case c16 => k_is)
    (case k16 => k_is)
    (case a17 => k_is)
    (case i17 => k_is)
    (case l17 => k_is)
    (case c17 => k_is)
    (case k17 => k_is)
    (case a18 => k_is)
    (case l18 => k_is)
    (case c18 => k_is)
    (case k18 => k_is)
    (case a19 => k_is)
    (case l19 => k_is)
    (case c19 => k_is)
    (case k19 => k_is)
    (case a20 => k_is)
    (case i20 => k_is)
    (case l20 => k_is)
    (case c20 => k_is)
    (case k20 => k_is)
    (case a21 => k_is)
    (case l21 => k_is)
    (case c21 => k_is)
    (case k21 => k_is)
    (case a22 => k_is)
    (case l22 => k_is)
    (case c22 => k_is)
    (case k22 => k_is)
    (case a23 => k_is)
    (case l23 => k_is)
    (case c23 => k_is)
    (case k23 => k_is)
    (case a24 => k_is)
    (case l24 => k_is)
    (case c24 => k_is)
    (case k24 => k_is)
    (case a25 => k_is)
    (case l25 => k_is)
    (case c25 => k_is)
    (case k25 => k_is)
    (case a26 => k_is)
    (case l26 => k_is)
    (case c26 => k_is)
    (case k26 => k_is)
    (case a27 => k_is)
    (case l27 => k_is)
    (case c27 => k_is)
    (case k27 => k_is)
    (case a28 => k_is)
    (case l28 => k_is)
    (case c28 => k_is)
    (case k28 => k_is)
    (case a29 => k_is)
    (case l29 => k_is)
    (case c29 => k_is)
    (case k29 => k_is)
    (case a30 => k_is)
    (case l30 => k_is)
    (case c30 => k_is)
    (case k30 => k_is)
    (case a31 => k_is)
    (case l31 => k_is)
    (case c31 => k_is)
    (case k31 => k_is)
    (case a32 => k_is)
    (case l32 => k_is)
    (case c32 => k_is)
    (case k32 => k_is)
    (case a33 => k_is)
    (case l33 => k_is)
    (case c33 => k_is)
    (case k33 => k_is)
    (case a34 => k_is)
    (case l34 => k_is)
    (case c34 => k_is)
    (case k34 => k_is)
    (case a35 => k_is)
    (case l35 => k_is)
    (case c35 => k_is)
    (case k35 => k_is)
    (case a36 => k_is)
    (case l36 => k_is)
    (case c36 => k_is)
    (case k36 => k_is)
    (case a37 => k_is)
    (case l37 => k_is)
    (case c37 => k_is)
    (case k37 => k_is)
    (case a38 => k_is)
    (case l38 => k_is)
    (case c38 => k_is)
    (case k38 => k_is)
    (case a39 => k_is)
    (case l39 => k_is)
    (case c39 => k_is)
    (case k39 => k_is)
    (case a40 => k_is)
    (case l40 => k_is)
    (case c40 => k_is)
    (case k40 => k_is)
    (case a41 => k_is)
    (case l41 => k_is)
    (case c41 => k_is)
    (case k41 => k_is)
    (case a42 => k_is)
    (case l42 => k_is)
    (case c42 => k_is)
    (case k42 => k_is)
    (case a43 => k_is)
    (case l43 => k_is)
    (case c43 => k_is)
    (case k43 => k_is)
    (case a44 => k_is)
    (case l44 => k_is)
    (case c44 => k_is)
    (case k44 => k_is)
    (case b_all => k_is)
    (case b_bool => k_is)
    (case b_enumerate => k_is)
    (case b_int => k_is)
    (case b_isinstance => k_is)
    (case b_len => k_is)
    (case b_list => k_is)
    (case b_max => k_is)
    (case b_min => k_is)
    (case b_range => k_is)
    (case b_sorted => k_is)
    (case b_sum => k_is)
    (case b_tuple => k_is)
    (case g_LONGEST => k_is)
    (case g_MOST_PLACES => k_is)
    (case g_MOST_POSITIONS => k_is)
    (case g_SHORTEST => k_is)
    (case g_gcd => k_is)
    (case g_heappop => k_is)
    (case g_heappush => k_is)

